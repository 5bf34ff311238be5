import PyProof.Rows.All
import KE.OsGo
import Wide.All
import OpenK.AllK
import Wide.FinOn
import PyProof.EqAt
import PyProof.EqKinds
import PyProof.TupleCall
import KE.BitLaws
import Open.SpecLaws
import KE.OsHead
import PyProof.StationsW
import PyProof.PassesOwn
import PyProof.ExcClass
import PyProof.ExcClass2
import PyProof.ExcArgs
import PyProof.ExcBaseAll.Exception
import PyProof.InstLoad
import PyProof.InstStoreFacts
import VbemacSpec
import PySem.Str
import PySem.Challenge.RW_ordersheets_s06_steps
import PyProof.RulesAs
import PyVbemac
local macro_rules|`(#[$x,*])=>`(⟨$x,*⟩)
set_option compiler.extract_closed false
set_option hygiene false
local macro_rules
|`([00])=>`((by decide+kernel))
|`([01])=>`((by decide))
|`([02])=>`((fun Gp A outer s H vs Q E hr h=>?_))
|`([03])=>`((fun vs H Q E h=>by cases h;subst_vars;rfl))
|`([04])=>`((fun _ _ _ _ _ _ us hl=>OS.u2 hl fun _ _=>[0x0]))
|`([05])=>`((fun _ q=>q))
|`([06])=>`((fun _ _ _ _ _ _ us hl=>OS.u1 hl fun _=>[0x0]))
|`([07])=>`((hr.mono [01]))
|`([08])=>`((by exact rfl))
|`([09])=>`((OS.aD KX G [0x5] [04]))
|`([000])=>`((false,eval e X.env))
|`([001])=>`((ak (pv 0) rfl))
|`([002])=>`((fun _ _=>rfl))
|`([003])=>`(("__debug__":Fh))
|`([004])=>`((fun _ _ _ _ _ _ us hl=>OS.u3 hl fun _ _ _=>[0x0]))
|`([005])=>`((.Name "reader" p1))
|`([006])=>`((Fm KX G [08]))
|`([007])=>`(#[by decide+kernel,by decide+kernel,by decide+kernel])
|`([008])=>`(#[by decide+kernel,by decide+kernel])
|`([009])=>`((OS.aD KX G [0x5] [06]))
|`([010])=>`((ak (pv 1) rfl))
|`([011])=>`((Jf Gz (af st) s.heap.objs.size f Gp))
|`([012])=>`((fun c h=>er c (by rw[<-Gm,h])))
|`([013])=>`(#[rfl,_,rfl,?_])
|`([014])=>`((OS.aD KX G [0x5] [004]))
|`([015])=>`((fun e=>?_))
|`([016])=>`((.cons (.cons .nil)))
|`([017])=>`((hr.mono (by lia)))
|`([018])=>`((ps.zip us))
|`([019])=>`((OS.aH [0x6] [06]))
|`([020])=>`((OS.aH [0x6] [04]))
|`([021])=>`((c::bs.drop (i+1)))
|`([022])=>`(#[_,rfl,?_])
|`([023])=>`((ha pins s σ H _ I h))
|`([024])=>`((by simp))
|`([025])=>`((.type "Exception"))
|`([026])=>`((x.1= .bad->nF a.Hd E H 1 x.2))
|`([027])=>`((HF nm q C N bs bm R7 sn sub ab col dd k0 k1 k2 k3 k5 JD))
|`([028])=>`((EP X pins σ Q))
|`([029])=>`(#[_,_,rfl,rfl,_,rfl,?_])
local macro_rules
|`([030])=>`((fun z=>?_))
|`([031])=>`((aa (pv 1) ag))
|`([032])=>`((fun z=>nomatch z))
|`([033])=>`((WS K.values K.funs))
|`([034])=>`((Fb es X.env))
|`([035])=>`(#[f-1,by lia])
|`([036])=>`((bQ (pv 0) T.Fy T.Vp.c Tc [07] aA))
|`([037])=>`((bV X.env.cells scope.names []))
|`([038])=>`((fun _ z=>nomatch z))
|`([039])=>`((by rw[h1];exact EE))
|`([040])=>`((aa (pv 0) (aa (dJ cH aj) ag)))
|`([041])=>`((.tail _ (.tail _ (.head _))))
|`([042])=>`((by rw[h];exact EE))
|`([043])=>`((he pins s σ H _ I h))
|`([044])=>`((GR KX G [0x0]))
|`([045])=>`((cJ bA (pv 0) (pv 1) [002]))
|`([046])=>`((K.with x))
|`([047])=>`((K w.params))
|`([048])=>`(#[G,hr,T.RM.c,rfl])
|`([049])=>`((.lst xs))
|`([050])=>`((fun _ _ _ _ _ _ us hl=>OS.u5 hl fun _ _ _ _ _=>[0x0]))
|`([051])=>`((fun _ _ _ _ _ _ us hl=>OS.u4 hl fun _ _ _ _=>[0x0]))
|`([052])=>`((So (model prog w) A env fun e s'=>R (.error e) s'))
|`([053])=>`((.ins C dx fs))
|`([054])=>`((.inr (.inl h)))
|`([055])=>`((Fv (Fn e) I.ok.above))
|`([056])=>`((X.Sx s H scope (L6 scope cl C X.env) fp))
|`([057])=>`((.Expr (.Call (.Attribute [005] "expect" p2) [.Constant (.str v) j p3] [] p4) p5::ss))
|`([058])=>`((bD bL (by rfl) T.JP Hl (aa (pv 0) ag)))
|`([059])=>`((.int ((d+1:E1):Int)))
|`([060])=>`(#[r,dr,_,rfl,er,rfl,r,q,kd,fn,ds,bl,n,x,t,rfl,R,hb,fun nb p tp=>?_])
|`([061])=>`((fun vs H Q E h=>?_))
|`([062])=>`((by intro z;cases z))
|`([063])=>`((kt T XC hk S hr))
|`([064])=>`(((.sign (ED "-"),xp)::t))
|`([065])=>`((.cons [016]))
|`([066])=>`((.builtin "object.__class__"))
|`([067])=>`(#[_,_,rfl, .inl hS,_,_,rfl,rfl,_,rfl,?_])
|`([068])=>`((.tail _ (.tail _ (.tail _ (.tail _ (.tail _ [041]))))))
|`([069])=>`((Hx (s3.heap.objs.size+1) scope.names [037]))
local macro_rules
|`([070])=>`((ha pos pins s σ H _ I h))
|`([071])=>`(#[#[dr,by rw[ac nr];exact er],as,all,by rw[ac nq];exact h1,Paired.M7 h2 fun b x ⟨dx,ex⟩=>#[dx,?_],h3])
|`([072])=>`((us.map fun u=>V.ref u.t))
|`([073])=>`((Hs "market" (.ref m) []))
|`([074])=>`((IE [] X.env))
|`([075])=>`(#[[],trivial,fun a m=>E7 m [024]])
|`([076])=>`(#[fuel-1,by lia])
|`([077])=>`((OS.aH [0x6] [004]))
|`([078])=>`((Jf Gz scope s.heap.objs.size f cd))
|`([079])=>`((aa (pv 2) ag))
|`([080])=>`(#[_,_,_,_,rfl,rfl,hS,bo (fz hc),c,rfl,_,rfl,aP (fun e2=>?_) fun e2=>?_])
|`([081])=>`((.ref s.heap.objs.size))
|`([082])=>`((HF nm q C N bs (.ref R::bm) true sn sub ab col dd k0 k1 k2 k3 k5 JD))
|`([083])=>`((b5 (pv 0) e9 rfl))
|`([084])=>`((some (.ref c.wk)::σ))
|`([085])=>`((ho pins s σ H _ I h))
local macro_rules
|`(tactic|rw[00])=>`(tactic|(obtain⟨n,S⟩:=R.S))
|`(tactic|rw[01])=>`(tactic|(intro pins s σ H Q I h))
|`(tactic|rw[02])=>`(tactic|(obtain⟨dr,er⟩:=S.rd.ins))
|`(tactic|rw[03])=>`(tactic|(refine aP [015] fun e=>?_))
|`(tactic|rw[04])=>`(tactic|(intro pins s σ H D I h))
|`(tactic|rw[05])=>`(tactic|(obtain⟨f,rfl⟩: ∃f',f=f'+1:=[035]))
|`(tactic|rw[06])=>`(tactic|(rw[h] at Gm;dsimp only at Gm))
|`(tactic|rw[07])=>`(tactic|(obtain⟨kk,k1,k2,k3⟩:=S.kn.vals))
|`(tactic|rw[08])=>`(tactic|(obtain⟨dr,er⟩:=R.ins))
|`(tactic|rw[09])=>`(tactic|(obtain⟨ff,f1,f2⟩:=S.kn.funs))
|`(tactic|rw[000])=>`(tactic|(dsimp only at q;unfold WS at w))
|`(tactic|rw[001])=>`(tactic|(dsimp only at q))
|`(tactic|rw[002])=>`(tactic|(unfold WS at w))
|`(tactic|rw[003])=>`(tactic|(rw[h1] at q;intro b1 l1 h' A'))
|`(tactic|rw[004])=>`(tactic|(rw[00];obtain⟨x,t',rfl,tok,Ql,Ma,_⟩:=S.wh.first))
|`(tactic|rw[005])=>`(tactic|(obtain @⟨r,b,ff,d,s,nd,kk,os,FO,W,A,gs,eb,hj⟩:=R))
|`(tactic|rw[006])=>`(tactic|(intro pins s σ H x y v u Q I rx ry h))
|`(tactic|rw[007])=>`(tactic|(have Tc:=cZ (P:=P) (w:=w) (base:=base) T XC))
|`(tactic|rw[008])=>`(tactic|(subst ex;obtain rfl:u=Fq a:=rx))
|`(tactic|rw[009])=>`(tactic|(obtain⟨t,rfl⟩:=rx))
|`(tactic|rw[010])=>`(tactic|(obtain⟨as,all,h1,h2,h3⟩:=S.rd.toks))
|`(tactic|rw[011])=>`(tactic|(have lL:=R.lL;have hm:Kn.values.length+(Z.at t.length).L<=4000:=R.room))
|`(tactic|rw[012])=>`(tactic|(have Us:=fG (P:=P) (w:=w) (base:=base) T XC))
|`(tactic|rw[013])=>`(tactic|(intro pins s σ H xs us Q I r h))
|`(tactic|rw[014])=>`(tactic|(intro X D Z en Y R q;have lL:=R.lL))
|`(tactic|rw[015])=>`(tactic|(obtain⟨f,rfl⟩: ∃f,fu=f+1:=#[fu-1,by lia]))
|`(tactic|rw[016])=>`(tactic|(obtain⟨d1,d2,d3,d4,d5,d6⟩:=S.O8))
|`(tactic|rw[017])=>`(tactic|(refine fO F S [03] [02]))
|`(tactic|rw[018])=>`(tactic|(rw[ac fun w=>by rw[w,e] at e2;cases e2]))
|`(tactic|rw[019])=>`(tactic|(obtain⟨r,q,kd,fn,ds,bl,n,x,t,rfl,R,hb,hg⟩:=h;rw[08]))
local macro_rules
|`(tactic|rw[020])=>`(tactic|(rw[h2] at q;intro b2 l2 h2 A2))
|`(tactic|rw[021])=>`(tactic|(rw[00];rw[02]))
|`(tactic|rw[022])=>`(tactic|(split at e))
|`(tactic|rw[023])=>`(tactic|(obtain⟨⟨x,xp⟩,t',rfl,tok,Ql,Ma,_⟩:=S.wh.first))
|`(tactic|rw[024])=>`(tactic|(have c:CB X "read_exp" ["reader","depth"] (aV a true Ff 12 (Lv j)):=[048];have hl:13<=d+1+j:=by rw[Mm];exact hl))
|`(tactic|rw[025])=>`(tactic|(obtain⟨_,W,_,_,eb,_⟩:=R))
|`(tactic|rw[026])=>`(tactic|(have R:=RS.back (Z:=Z) lL R))
|`(tactic|rw[027])=>`(tactic|(unfold au at h ⊢))
set_option hygiene true
open _root_ renaming List→EA,if_neg→EI,if_pos→EL,Option→ET,Nat→E1,absurd→E7,of_decide_eq_true→Ft,of_decide_eq_false→Fw,decide_eq_false→FA,decide_eq_true_iff→FH,congrArg→FN,Bool→FR,decide_eq_true→Gb,beq_self_eq_true→Gr,UInt8→Io,Array→IQ,if_false→L5,Unit→Mo,decide_eq_true_eq→M9,if_true→Sk,not_or→Vg
open Vbemac renaming Bytes→EC,text→ED,Toks→EG,Known→EK,Exp→ER,P→EU,isKey→EV,peek→E4,within→E8,fail→E9,expr→Ff,sign→FC,isSign→FD,Bytes→FJ,Pos→FT,Out→FU,KEYS→FZ,next→F3,Tok→F5,SIGNS→F6,primary→F9,newName→Ge,unary→Gj,tokens→Gq,Stmt→Gv,behind→GJ,Top→GK,Env→GL,key→GN,deeper→GS,DEEP→GW,digit→Ha,isKey→He,Blocks→Hm,Scope→Hr,place→HC,side→Ib,runOne→Ij,zoneIn→Il,known0→Im,Stmts→Ip,MOST→Ir,knownBlock→IB,Order→IF,Sheet→IG,deskCount→IJ,Funs→Jd,runAll→Jh,evAmounts→Jm,maybeName→Jn,isPrice→Jo,Exps→Jw,tops→Jx,stmts→JA,letter→JH,Market→JI,params→JJ,bytesOf→JQ,BIG→JR,ifSign→Kd,addBlock→Kl,stmt→Kv,BUILT→KI,signOf→KW,fuel→Lj,isSign→Ll,marketOf→Lz,ev→LQ,expandSteps→LX,compare→L3,Toks→L9,expandTops→Mn,FUNS→Mp,truth→MY,read→NA,answer→N5,lex→Oi,SLOPE→OQ,arguments→Pf,Rest→PM,valueIn→Qq,blank→Rw,evEither→SN,MOSTORDERS→T9,withOrders→Ua,moreAdded→UG,moreTimes→UH,blockName→UI,compared→Vc,evRest→Vh,builtIn→VM,checked→VN,moreAnd→VP,addStep→VQ,runLoop→VR,anyName→VS,moreOr→Wc,placed→Wd,decode→We,arith→WZ,added→W0,times→W3,evOpt→W4,ifKey→W5,PRICE→W6,evBoth→Ys,ands→Yw
open Bool renaming false_ne_true→EE,and_eq_true→Gh,eq_iff_iff→GD,noConfusion→GP,and_false→HY,false_eq_true→Ii,false_and→Iy,true_and→IK,or_eq_false_iff→Lx,or_eq_true→LL,or_false→Oo,not_eq_false'→OP,or_true→Pk,false_or→Rr,true_or→Sq,and_eq_true_iff→Th,not_eq_true'→U8,eq_false_iff→U9
open PySem.W renaming Frag→EF,mg_of→Fm,mg_none_of→GR,findIn→Hh,kitOne→Hy,kia_one→HA,fnOf→HB,emptyDict→HQ,keepIn→HR,instObj→IV,nsIn→Jv,callWith_K→Ki,codeIn→KA,methodCall_KW→KN,plainGet→My,lookIn→Ng,plainGet_of→ND,callWith_K0→NF,methodObj→Oj,hasDictIn→Ol,specialIn→Om,isFn→Oq,length_le_weightAllW→PH,takerIn→PL,nsMap_none_of_in→Qt,cellsFrom_some→QV,isNs_of_in→SM,plainOver→Ts,kitx_list→Tt,kitx_dict→Tu,WRecords→Ub,handedIn→Uc,makesIn→UJ,takesIn→UK,findCls→UL,WalkOS→Vd,typeIn→Ve,nsOkIn→Vf,mroIn→VT
open PySem renaming Value→EH,Addr→EJ,Shared→EM,wpAny_bind→E3,starEach→Fb,Str→Fh,wpAny→Fl,wpAny_pure→Fx,Program→Fz,sizeLine→FE,FuncData→FL,wpAny_loadPart_at→FW,World→Ga,mem_of_lookup→Gg,Around→Gk,Heap→Gn,bindArgs→GQ,Expr→G8,typeLookup→Hg,boot_len→Hl,sizeLine_eq→Ht,cellsFrom→Hx,excClassObj→HF,compareOp→HL,attributeBase→HM,sysModules→HN,wpAny_mono→HP,wpAny_truthy_bool→Ic,backTo→Ie,Obj→Ih,builtinLookup_eq_fast→Iv,mainGlobals→ID,keywordEach→IE,checkBuiltinCall→IY,wpAny_Call_Name_kw→Je,NameKind→Jq,tupleKind_room_in1→JN,wpAny_passesOwn→JU,typeLookup_type→JV,backToKw→Kj,intItems→Kk,bootBuiltins→Kr,getMethod→Ku,codeAny→KP,swapsWith→K7,foldedSetIterable→Lk,plainObj_wpAny_Assign_Attribute→LH,numAt→LM,StoreFacts→LP,argBest→L0,sliceBounds→L4,compEnvC→L6,wpAny_execs_nil→Mj,codeAny_mono→Mu,ExcBaseFacts→Mv,tupleKind→MM,pushCells→MN,callWith→MR,Within→M5,wpAny_standAt→Nb,wpAny_holding→Nc,rawInt→Nf,DictEntry→NG,letOwnedTupleGo→Oe,pushCells_keeps→Of,codeAny_call_builtin→OT,importBound→OV,binaryOp→OW,cLine→OX,PassesOwn→Pc,noteFrame→Pd,valueAt→Pj,wpAny_call→P2,GenState→Qu,atKey→Qv,wpAny_lookBehind→QT,pastItsLine_dict→QU,setFlight→QW,pyNext→QY,IsPair→QZ,BindsTo→Se,callerA→Sf,getAttr→Sg,setAttr→Sh,getItem→Sj,notedBy→So,wpAny_setField→SJ,lastMarks→UD,bindL→UM,bindC→UO,wpAny_nextOf_list_item→UY,tupleKeyHash→U1,wpAny_nsSet1→U3,wpAny_typeOf→U4,Fin→Vi,wpAny_isTrue_Compare1→VI,wpAny_loadName_local→V4,ZipApart→Wb,wpAny_loadName_cell→WV,Builtin→WY,wpAny_getItem_heap→Yk,getattributeRaised→Yl,builtinsNs→Ym,wpAny_Name→Yn,typeIs_str→Yp,isInstance→Yq
open List renaming mem_cons_of_mem→EN,mem_cons_self→EO,mem_cons→EW,length_map→EY,length_cons→EZ,length_append→Fc,mem_singleton→Fd,map_cons→Fe,mem_append→Fp,getElem?_eq_some_iff→FF,nodup_cons→FI,contains_iff_mem→FK,getElem?_map→FQ,contains_cons→FY,append_assoc→F4,length_reverse→F7,size_toArray→F8,reverse_cons→Gf,mem_of_getElem?→Gs,append_nil→Gw,find?_cons→GF,map_append→GG,mem_append_right→GI,drop_eq_getElem_cons→GO,getElem?_eq_getElem→GU,not_mem_nil→GZ,getD_eq_getElem?_getD→HX,getElem?_eq_none→Ig,replicate→Iz,take_of_length_le→II,lookup→IM,range→IS,length_singleton→IT,map_map→Jg,takeWhile_cons→Jp,lookup_cons→Jr,mem_reverse→Js,drop_of_length_le→JE,length_nil→JK,mem_of_find?_eq_some→J3,filterMap_cons→Kb,mem_map_of_mem→Kc,of_mem_zip→Kt,getElem?_replicate→Kz,nodup_append→KO,mem_map→KQ,all_eq_true→Lf,length_drop→Lg,any_eq_true→Lh,mem_append_left→Lu,mem_of_getLast?→Lw,getElem?_range→LO,nodup_nil→Mb,take_add_one→Mw,find?_isSome→Mx,all_cons→MO,any_cons→MP,length_eq_zero_iff→MW,take_length→MX,getElem?_set_self→M8,length_replicate→Ny,length_filter_le→Nz,getElem?_set_ne→NN,drop_drop→NO,length→NP,find?_eq_none→OO,length_filter_eq_length_iff→Pb,map_nil→Ph,length_take→PR,filter_cons→PU,take_append→PV,drop_length→PX,eq_nil_of_length_eq_zero→P1,find?_some→Qp,forIn_nil→QI,getElem?_append_left→QR,getLastD_eq_getLast?→QS,getLast?_cons_cons→RC,drop_eq_nil_of_le→R9,append_eq_nil_iff→Sa,all_map→Sn,any_map→Sr,take_append_drop→SA,eq_nil_or_concat→SD,concat_eq_append→SE,filterMap_append→SG,getElem?_reverse→SH,length_take_le'→Ti,mem_of_mem_take→Tj,dropLast_concat→Tn,mem_of_mem_drop→Tp,toList_toArray→T4,reverse_append→T6,mem_filterMap→Uy,map_inj_right→UA,any_eq_false→U2,find?_append→U5,mem_of_head?→U6,length_range→U7,drop_sublist→Va,cons_append→VJ,perm_middle→VL,mem_filter→V6,forIn_cons→V7,length_zip→V8,map_const'→V9,sum_cons→Yr
open PySem.Heap renaming get?_push_of_some→E2,lt_size→Fn,get?_push_size→Gy,get?_update_other→GA,size_push→Hf,get?_update_self→IU,SameBut→LZ,get?_update_ne→T5
open Option.some renaming inj→E5
open Nat renaming le_refl→E6,le_trans→Fj,zero_le→Fs,lt_of_lt_of_le→Fv,lt_of_le_of_lt→FP,ne_of_lt→Gu,lt_succ_self→G6,succ_le_succ→G7,add_sub_cancel_left→Hk,lt_irrefl→Hq,lt_succ_of_lt→IC,le_add_right→Ju,le_of_eq→JG,le_of_lt→J6,add_comm→J7,zero_add→J8,le_succ→KH,le_of_succ_le→KS,ne_of_gt→KU,add_sub_cancel→Ml,add_right_comm→Mm,le_succ_of_le→ML,sub_self→PK,succ→Q0,add_assoc→RD,add_le_add_left→Ux,lt_of_le_of_ne→UZ,min_eq_right→V5,min_eq_left→WW
open StateT renaming bind→Fi
open PySem.Value renaming ref→Fq,none→Hn,int→JL,builtin→Li,bool→L7,type→L8,str→NQ,isStrOf→Oh,float→SO
open Option renaming map_eq_some_iff→FG,isSome_map→Hv,bind_eq_some_iff→HK,isSome_iff_exists→Ka,map_some→Ly,none→Ss,some_ne_none→SK,isSome_some→Tr,getD_none→UE,map_map→VO
open Or renaming inl→Gx
open True renaming intro→GH
open Vbemac.Tok renaming word→GV,sign→Iu
open Sum renaming inr→Hu,inl→Ji
open PySem.Obj renaming mapFields→HD,isFreed_of_fields→Ld,data_mapFields→OU
open PySem.F renaming store_Exception→HG,plainAttrs_list→Iw,slot_list_append→J4,type_list_append→J5,slot_zip_getattribute→K8,slot_dict_getitem→Qm,excBase_Exception→Qn,slot_dict_pop→Rn,slot_list_pop→Rp,type_list_pop→Rq
open Ne renaming symm→HS
open False renaming elim→HW
open PySem.PassesOwn renaming leaving→Iq,never→K9
open List.cons renaming inj→IZ
open Sum.inr renaming inj→Ja
open PyProof.Rows renaming envOfC→Jf,callWith_type1→Jt,boot_tuple→LY,callWith_builtin1→NM,AllBare→Pg,subscriptTail→T7,subscriptTail_builtinR→UX,Subscript_→Yo
open Array renaming getElem?_eq_some_iff→JT,toList→RE,getElem?_toList→Sb,mem_toList_iff→SI,length_toList→Tq,find?_toList→T8,toList_map→Vb
open PySem.Calls renaming spliced_cons→Ks,callWith_builtin→KJ,spliced_nil→KL,evalArgs_plain→NC,Name_function_global→Qs
open PyVbemac renaming steps→Ky
open PySem.NameKind renaming free→KY,cell→Qr
open Int renaming toNat_of_nonneg→LW
open PySem.Builtin.SmallTypes renaming ownedTupleIsFree→Mi,nextOf→NH
open UInt8 renaming toNat→Mt,ofNat→NI,toNat_inj→P4,ofNat_toNat→UC,toNat_lt→Wa
open ForInStep renaming yield→MQ
open Vbemac.Known renaming taken→Na
open PySem.Heap.Ns1 renaming of_empty→Og
open PySem.Builtin.Dict renaming updateFrom→PJ
open PySem.Paired renaming length→QJ,snoc→Yt
open Nat.succ renaming inj→QK
open PySem.EntryCells renaming newEntry→QX
open PySem.SeqAt.EqAt renaming int_str→Rt,str_int→Ru
open PySem.Around renaming under→Rv,under_plainId→Sd
open PySem.Code renaming isFrame→Si,quiet_builtin→Uz
open PySem.Heap.DictOf renaming new→Sv
open Vbemac.Exp renaming call→SQ
open PySem.Data renaming seq→Tv
open PySem.Value.type renaming inj→Tw
open PySem.Txt renaming join→Ud
open Int.ofNat renaming inj→UP
open PySem.Bind renaming checkArgs→WX
open Sum.inl renaming inj→W7
open PySem.Str renaming join→Yu
open PySem.Within renaming cons→Yv
open PySem.Heap.IsSliceOf renaming new→aa8
set_option Elab.async false
set_option linter.all false
set_option maxRecDepth 100000
set_option maxHeartbeats 4000000
set_option maxRecDepth 100000 in
set_option maxHeartbeats 0 in
theorem OS.aa9:PySem.Challenge.rw_ordersheets_s06_steps.wellSaid=true:=by decide+kernel
namespace OS
open PySem PySem.W
def live (o:Ih):ET Ih:=match o with
 |⟨_,_, .freed,_⟩=>none
 |o=>some o
noncomputable def pick (l:EA Ih):E1->EA E1->EA (ET Ih):=
 @EA.rec Ih (fun _=>E1->EA E1->EA (ET Ih)) (fun _ _=>[])
  (fun o _ f i as=> @EA.rec E1 (fun _=>EA (ET Ih)) [] (fun a t _=> @FR.rec (fun _=>EA (ET Ih)) (f (Q0 i) as) (live o::f (Q0 i) t) (E1.beq a i)) as) l
theorem yj (o:Ih) (l:EA Ih) (i a:E1) (t:EA E1):pick (o::l) i (a::t)=if a=i then live o::pick l (i+1) t else pick l (i+1) (a::t):=by
 show @FR.rec (fun _=>EA (ET Ih)) _ _ (E1.beq a i)=_
 cases h:E1.beq a i
 ·rw[EI (E1.ne_of_beq_eq_false h)];rfl
 ·rw[EL (E1.eq_of_beq_eq_true h)];rfl
theorem Et {K:EA (E1×Ih)}(l:EA Ih): ∀(i:E1),pick l i (K.map (·.1))=K.map (fun p=>some p.2)-> ∀p∈K,i<=p.1/\l[p.1-i]?.bind live=some p.2:=by
 induction l generalizing K with
 |nil=>
  intro i h p hp;cases K with
  |nil=>cases hp
  |cons q r=>cases h
 |cons o l ih=>
  intro i h p hp;cases K with
  |nil=>cases hp
  |cons q r=>
   rw[Fe,yj] at h;split at h
   ·rename_i e
    obtain⟨h1,h2⟩:=IZ h;rcases EW.mp hp with z|z
    ·rw[z,e,PK];exact#[E6 _,h1]
    ·have⟨a,b⟩:=ih (i+1) h2 p z
     refine#[by lia,?_];rw[show p.1-i=p.1-(i+1)+1 by lia];exact b
   ·have⟨a,b⟩:=ih (K:=q::r) (i+1) h p hp
    refine#[by lia,?_];rw[show p.1-i=p.1-(i+1)+1 by lia];exact b
theorem ui {K:Frag}{a:E1}{o:Ih}(e:K.lookup a=some o):(a,o)∈K:=by
 induction K with
 |nil=>cases e
 |cons p r ih=>
  obtain⟨b,x⟩:=p;simp only[IM] at e;rw[022]
  ·rename_i q;cases e;rw[beq_iff_eq.mp q];exact .head _
  ·exact .tail _ (ih e)
noncomputable def hook (K:Params->Frag) (as:EA E1) (e: ∀P,as=(K P).map (·.1)):Hook:=
 #[EA (ET Ih),fun s=>pick s.heap.objs.toList 0 as,fun w=>[047].map fun p=>some p.2,InK K,fun w s h a o x=>by
  rw[e w.params] at h;have:=(Et _ 0 h _ (ui x)).2;rw[Sb] at this;unfold Gn.get?;cases z:s.heap.objs[a]? with
  |none=>rw[show(a,o).1-0=a from rfl,z] at this;cases this
  |some y=>rw[show(a,o).1-0=a from rfl,z] at this;rcases y with⟨_,_,x,_⟩;cases x<;>exact this,InK.keeps]
theorem UQ {K:Params->Frag}{as:EA E1}{e: ∀P,as=(K P).map (·.1)} {w:Ga}{h:Gn}(Y:(hook K as e).says w h):[047].In h:=Y
end OS
namespace L2
open PySem PySem.Spec PyProof.Rows
abbrev a0:=Sum Int Fh
def jk:a0->EH->FR
 | .inl k,v=>EH.isInt k v
 | .inr x,v=>Oh x v
def ah3 (w:Ga):a0->Int
 | .inl k=>hashInt k
 | .inr x=>hashStr w x
theorem cE: ∀ {k:a0}{v:EH},jk k v=true->(∃i t,k=Ji i/\v=JL i t)\/(∃x t,k=Hu x/\v=NQ x t)
 | .inl i,v,h=>by
  obtain⟨t,e⟩:=EH.isInt_shape (k:=i) (v:=v) h;exact .inl #[i,t,rfl,e]
 | .inr x,v,h=>by
  obtain⟨t,e⟩:=EH.isStrOf_shape (x:=x) (v:=v) h;exact .inr #[x,t,rfl,e]
theorem Yx (a b:Int):decide ((Ji a:a0)=Ji b)=(a == b):=by
 by_cases e:a=b
 ·subst e;simp
 ·have h: ¬(Ji a:a0)=Ji b:=fun q=>e (W7 q)
  rw[FA h];exact(beq_eq_false_iff_ne.mpr e).symm
theorem Yy (a b:Fh):decide ((Hu a:a0)=Hu b)=decide (a=b):=by
 by_cases e:a=b
 ·subst e;simp
 ·have h: ¬(Hu a:a0)=Hu b:=fun q=>e (Ja q)
  rw[FA h,FA e]
theorem Yz (a:Int) (b:Fh):decide ((Ji a:a0)=Hu b)=false:=FA (fun q=>nomatch q)
theorem YA (a:Fh) (b:Int):decide ((Hu a:a0)=Ji b)=false:=FA (fun q=>nomatch q)
def aT (prog:Fz) (w:Ga):PySem.KeyKind prog w a0 where
 is:=jk
 hash:=ah3 w
 inj:=fun v a b ha hb=>by
  rcases cE ha with⟨i,t,rfl,rfl⟩|⟨x,t,rfl,rfl⟩
  ·rcases cE hb with⟨j,u,rfl,e⟩|⟨y,u,rfl,e⟩
   ·injection e with e1 _;rw[e1]
   ·exact nomatch e
  ·rcases cE hb with⟨j,u,rfl,e⟩|⟨y,u,rfl,e⟩
   ·exact nomatch e
   ·injection e with e1 _;rw[e1]
 byValue:=fun k v h=>by
  rcases cE h with⟨i,t,rfl,rfl⟩|⟨x,t,rfl,rfl⟩<;>rfl
 pyHash:=fun hv h=>by
  rcases cE hv with⟨i,t,rfl,rfl⟩|⟨x,t,rfl,rfl⟩
  ·exact wpAny_pyHash_int h
  ·exact wpAny_pyHash_str h
 eqBool:=fun hu hv h=>by
  rcases cE hu with⟨i,t,rfl,rfl⟩|⟨x,t,rfl,rfl⟩
  ·rcases cE hv with⟨j,u,rfl,rfl⟩|⟨y,u,rfl,rfl⟩
   ·rw[Yx] at h;exact wpAny_eqBool_int h
   ·rw[Yz] at h;exact Rt i t y u _ _ _ _ h
  ·rcases cE hv with⟨j,u,rfl,rfl⟩|⟨y,u,rfl,rfl⟩
   ·rw[YA] at h;exact Ru x t j u _ _ _ _ h
   ·rw[Yy] at h;exact wpAny_eqBool_str h
 «strs»:=fun k x t v h=>by
  rcases cE h with⟨i,u,rfl,e⟩|⟨y,u,rfl,e⟩
  ·exact nomatch e
  ·injection e with e1 _
   subst e1;cases v<;>rfl
inductive V where
 |HZ|bl (b:FR)|int (i:Int)|str (x:Fh)|RF (b:IQ Io)|W8 (b:UInt64)|ref (a:EJ)|ty (n:String)
 deriving DecidableEq
def bh:V->EH->Prop
 | .HZ,u=>u=Hn
 | .bl b,u=>u=L7 b
 | .int i,u=> ∃t,u=JL i t
 | .str x,u=> ∃t,u=NQ x t
 | .RF b,u=> ∃t,u=EH.bytes b t
 | .W8 b,u=> ∃t,u=SO b t
 | .ref a,u=>u=Fq a
 | .ty n,u=>u=L8 n
abbrev aX:EA V->EA EH->Prop:=Paired bh
def fS:ET V->ET EH->Prop
 |some v,some u=>bh v u
 |none,none=>True
 |_,_=>False
def KV {κ:Type} :EA (κ×V)->EA (κ×EH)->Prop:=Paired fun(p:κ×V) (q:κ×EH)=>p.1=q.1/\bh p.2 q.2
def kV:a0->V
 | .inl i=> .int i
 | .inr x=> .str x
inductive HO where
  |lst (xs:EA V)
  |tup (xs:EA V)
  |dK (aC:EA (a0×V))|dT (aC:EA (EA a0×V))
  |set (S:Int->FR) (n:E1)
  |ins (C dx:EJ) (fs:EA (Fh×V))
  |own (x:EJ)
  |xd (fs:EA (Fh×V))
  |met (f x:EJ)
  |rng (lo hi:Int)
  |P5 (o:Ih) (u:HO)
  |YB (ps:IQ EH)
  |ext (φ:Gn->Prop)
abbrev Hp:=EJ->ET HO
section
variable (P:Fz) (w:Ga)
def cw (H:Hp) (h:Gn) (a:EJ):HO->Prop
 | .lst xs=>xs.length<=FE/\ ∃(Hc:EA EH) (n:E1),aX xs Hc/\h.get? a=some { cls:= .type "list",data:= .seq Hc.toArray n }
 | .tup xs=>xs.length<=FE/\ ∃Hc:EA EH,aX xs Hc/\IsTup h a Hc.toArray
 | .dK aC=>aC.length<=FE/\(a == HN)=false/\ ∃vs,KV aC vs/\h.DictOf (aT P w) a vs
 | .dT aC=>aC.length<=FE/\(a == HN)=false/\ ∃xs:EA (EA a0×EJ×EH),
   Paired (fun(p:EA a0×V) (q:EA a0×EJ×EH)=>p.1=q.1/\H q.2.1=some (.tup (p.1.map kV))/\bh p.2 q.2.2) aC xs/\
   ∃o es ep,h.get? a=some o/\o.ExactDict/\o.data= .dict es ep/\es.toList=xs.map (entryOfKey (MM (aT P w)))/\(xs.map (·.1)).Nodup
 | .set S n=>h.SetOf (intKind P w) a S n
 | .ins C dx fs=>H dx=some (.own a)/\fs.length<=1000/\dx≠a/\h.get? a=some (IV C dx)/\
   ∃mA,h.Ns1 dx mA/\(∀f,fS (fs.lookup f) (mA f))/\M5 mA (fs.map (·.1))
 | .own _=> ∃o,h.get? a=some o
 | .xd fs=> ∃mA,h.Ns1 a mA/\ ∀f,fS (fs.lookup f) (mA f)
 | .rng lo hi=> ∃t u v,h.get? a=some { cls:= .type "range",data:= .fields [.int lo t, .int hi u, .int 1 v].toArray }
 | .P5 o u=>h.get? a=some o/\cw H h a u
 | .YB ps=>h.get? a=some { cls:= .none,data:= .fields ps }
 | .met f x=>h.get? a=some (Oj (.ref f) (.ref x))
 | .ext φ=>φ h/\(∃o,h.get? a=some o)/\ ∀h1 h2:Gn,φ h1->(∀o,h1.get? a=some o->h2.get? a=some o)->φ h2
def hX (H:Hp) (h:Gn):Prop:= ∀a o,H a=some o->cw P w H h a o
end
def Rd (H:Hp) (a:EJ) (u:HO):Prop:=H a=some u\/ ∃o,H a=some (.P5 o u)
theorem Rd.ok {P:Fz}{w:Ga}{H:Hp}{h:Gn}{a:EJ}{u:HO}(r:Rd H a u) (x:hX P w H h):cw P w H h a u:=by
 rcases r with r|⟨o,r⟩
 ·exact x a u r
 ·obtain⟨_,q⟩:=x a _ r
  exact q
structure Un (fs ex:EA EJ) (H H':Hp) (h h':Gn):Prop where
 keep: ∀b o,h.get? b=some o->H b=none->b∉fs->b∉ex->h'.get? b=some o
 slot: ∀b o,h.get? b=some o->H b=none->b∈fs->b∉ex-> ∃sl,h'.get? b=some { o with slots:=sl }
 free: ∀b o,h.get? b=some o->H b=none->b∉ex->H' b=none
 there: ∀b o,h.get? b=some o->b∉ex-> ∃o',h'.get? b=some o'
 Qw: ∀b xs,H b=some (.tup xs)->H' b=some (.tup xs)
 P6: ∀b o u,H b=some (.P5 o u)->H' b=some (.P5 o u)
 Qx: ∀b ps,H b=some (.YB ps)-> ∃more,H' b=some (.YB (ps++more))
def AC (h:Gn) (H:Hp):EA EJ:=(IS h.objs.size).filter fun a=>(H a).isSome
def qL (h:Gn) (H:Hp):Gn:=PySem.W.hideAll h (AC h H)
theorem zd (h:Gn) (H:Hp):(qL h H).objs.size=h.objs.size:=PySem.W.hideAll_size _ _
theorem BV {h:Gn}{H:Hp}{b:EJ}{o:Ih}(e:h.get? b=some o) (n:H b=none):(qL h H).get? b=some o:=
 PySem.W.hideAll_get _ e fun hm=>by
  have q:(H b).isSome=true:=(V6.mp hm).2;rw[n] at q;simp at q
theorem DF {h:Gn}{H:Hp}{b:EJ}{o:Ih}(e:(qL h H).get? b=some o):h.get? b=some o/\H b=none:=by
 have e':h.get? b=some o:=PySem.W.of_hideAll (AC h H) e;refine#[e',?_];cases q:H b with
 |none=>rfl
 |some x=>
  have hm:b∈AC h H:=V6.mpr #[EA.mem_range.mpr (Fn e'),by simp [q]]
  have z:(qL h H).get? b=none:=PySem.W.hideAll_none (AC h H) hm;rw[z] at e;cases e
structure Mod (K:EF) (mg:Fh->ET EH) (base:Gn):Prop where
 UQ:K.In base
 glob:base.Ns ID mg
 blt: ∃mb,base.Ns Ym mb/\ ∀x:Fh,x≠"__name__"->mb x=Kr x
 nolimit:base.NoLimit
def rk (l:EA Env):EA EJ:=l.filterMap (·.frame)
abbrev XK:=EH->ET EJ->Hp->Prop
abbrev VK:=V->Hp->Prop
def cP (K:EF) (H:Hp) (a:EJ) (xs:EA V):Prop:=
 Rd H a [049]\/
  ∃(o:Ih) (Hc:IQ EH) (n:E1),K.lookup a=some o/\o.cls= .type "list"/\o.dict=none/\o.data= .seq Hc n/\Hc.size<=FE/\aX xs Hc.toList
def rh (K:EF) (H:Hp) (a:EJ) (xs:EA V):Prop:=
 Rd H a (.tup xs)\/
  ∃(o:Ih) (Hc:IQ EH) (n:E1),K.lookup a=some o/\o.cls= .type "tuple"/\o.data= .seq Hc n/\Hc.size<=FE/\aX xs Hc.toList
section
variable {X:Cx}{pins:EA (EJ×Ih)}{σ:St}{H:Hp}{s:EM}{a:EJ}{xs ys:EA V}
theorem cP.of {K:EF}(h:H a=some [049]):cP K H a xs:= .inl (.inl h)
end
structure gA (K:EF) (C:EJ):Prop where
 pg:My K C Fh.empty=true
 hd:Ol K C=true
 po:Ts K C=true
 sa:Hh K (.ref C) "__setattr__"=some (some (.builtin "object.__setattr__"))
def ao (K:EF) (C:EJ) (f:Fh):Prop:=Hh K (.ref C) f=some none
structure Meth (K:EF) (C:EJ) (m:Fh) (f:EJ):Prop where
 at_:Hh K (.ref C) m=some (some (.ref f))
 fn:Oq K (.ref f)=true
 kp:HR K (.ref f)=true
structure bW (k:E1) (A:Gk):Prop where
 hd:A.handled=none
 dp:A.depth+2*k+5<recursionLimit
 un:A.units+16*k+200<OX
abbrev Sp:=EA V->Hp->VK->XK->Prop
abbrev pX:=EA Env->Hp->EM->XK->EH->EM->Prop
structure ub (P:Fz) (w:Ga) (K:EF) (mg:Fh->ET EH) (base:Gn) (A:Gk) (outer:EA Env) (s:EM) (H:Hp):Prop where
 frames:A.frames=some outer
 mod:Mod K mg base
 bs: ∀b o,base.get? b=some o->s.heap.get? b=some o/\H b=none
 Ue:base.objs.size<=s.heap.objs.size
 funs:s.heap.FunFrames base outer
 VU: ∀b∈rk outer,H b=none
 HH:hX P w H s.heap
 bare:Pg s.gens
def CE (outer:EA Env) (P:Fz) (w:Ga) (H:Hp) (s:EM) (Q:VK) (u:EH) (s':EM):Prop:=
 ∃v H',s'.os=s.os/\Pg s'.gens/\Un (rk outer) [] H H' s.heap s'.heap/\hX P w H' s'.heap/\bh v u/\Q v H'
def CR (CX:pX) (outer:EA Env) (P:Fz) (w:Ga) (H:Hp) (s:EM) (Q:VK) (E:XK) (r:Result) (s':EM):Prop:=
 match r with
 | .ok (.ret u)=>CE outer P w H s Q u s'
 | .ok _=>False
 | .error e=>CX outer H s E e s'
structure bS (P:Fz) (w:Ga) (K:EF) (mg:Fh->ET EH) (base:Gn) (CX:pX) (k:E1) (f:EJ) (fd:FL) (ps:EA Fh) (sp:Sp):Prop where
 len: ∀vs H Q E,sp vs H Q E->vs.length=ps.length
 run: ∀(A:Gk) (outer:EA Env) (s:EM) (H:Hp) (args:Args) (us:EA EH) (vs:EA V) (Q:VK) (E:XK),bW k A->ub P w K mg base A outer s H->Se s fd args (ps.zip us)->aX vs us->sp vs H Q E->
  KP (model P w) A (.call (.ref f) args) (CR CX outer P w H s Q E) s
def gc (K:EF) (fd:FL) (ps:EA Fh) (ds:EA EH):Prop:=
 ∀(s:EM) (us:EA EH),K.In s.heap->(us++ds).length=ps.length->Se s fd #[us,[]] (ps.zip (us++ds))
theorem gc.all {K:EF}{fd:FL}{ps:EA Fh}(h: ∀us:EA EH,us.length=ps.length->GQ fd #[us,[]]=pure [018]):gc K fd ps []:=fun s us _ hl=>by
 rw[Gw] at hl ⊢;exact .of_eq (h us hl)
section
variable {X:Cx}{CX:pX}{k:E1}{f C:EJ}{fd:FL}{ps:EA Fh}{sp:Sp}{QL:EA V}{ds:EA EH}{E:XK}{x m:Fh}{p pos Kx:Pos}{e o:G8}{es:EA G8}{ta:TE}{t:TA}
structure CD (K:EF) (mg:Fh->ET EH) (x:Fh) (f:EJ) (fd:FL) (ps:EA Fh):Prop where
 m:mg x=some (.ref f)
 k:HR K (.ref f)=true
 b:gc K fd ps []
structure MD (K:EF) (C:EJ) (m:Fh) (f:EJ) (fd:FL) (ps:EA Fh):Prop where
 m:Meth K C m f
 b:gc K fd ps []
structure Mk (K:EF) (C f:EJ):Prop where
 makes:UJ K C=true
 init:Hh K (.ref C) "__init__"=some (some (.ref f))
 fn:Oq K (.ref f)=true
 kp:HR K (.ref C)=true
end
def aB (s:Stmt) (j:E1):Stmt:=match s with
 | .ClassDef _ _ _ body _ _ _ _ _ _ _=>body.getD j (.Pass #[0,0,0,0])
 |_=> .Pass #[0,0,0,0]
def dN (s:Stmt):Arguments:=match s with
 | .FunctionDef _ a _ _ _ _ _ _ _ _=>a
 |_=> { posonlyargs:=[],args:=[],vararg:=none,kwonlyargs:=[],kw_defaults:=[],kwarg:=none,defaults:=[] }
def a7 (s:Stmt):EA Stmt:=match s with
 | .FunctionDef _ _ b _ _ _ _ _ _ _=>b
 |_=>[]
def af (s:Stmt):Scope:=match s with
 | .FunctionDef _ _ _ _ _ _ sc _ _ _=>sc
 |_=> { kind:= .function,names:=[],isGenerator:=false,isCoroutine:=false }
abbrev wX:pX:=fun _ _ _ _ _ _=>False
structure oJ (K:EF) (x Gz:Fh) (st:Stmt) (f:EJ) (fd:FL):Prop where
 ex: ∃(oc:EH) (od:ET EJ) (kV doc pm:EH) (an:ET EJ) (Gp ct:EH) (VV:IQ (ET EH)),
  fd=HB x Gz (dN st) (a7 st) (af st) .none kV doc pm an Gp ct/\K.lookup f=some #[oc,od, .func fd,VV]/\KA K Gp Gz=true
 kp:HR K (.ref f)=true
section
variable {P:Fz}{w:Ga}{K:EF}{mg:Fh->ET EH}{base:Gn}
theorem oJ.binds {x Gz:Fh}{st:Stmt}{f:EJ}{fd:FL}{ps:EA Fh}(F:oJ K x Gz st f fd)
  (h: ∀(kV doc pm:EH) (an:ET EJ) (Gp ct:EH) (us:EA EH),us.length=ps.length->GQ (HB x Gz (dN st) (a7 st) (af st) .none kV doc pm an Gp ct) #[us,[]]=pure [018]):gc K fd ps []:=by
 obtain⟨oc,od,kV,doc,pm,an,Gp,ct,VV,rfl,lk,RG⟩:=F.ex;exact .all (h kV doc pm an Gp ct)
theorem kE {x Gz:Fh}{st:Stmt}{f:EJ}{oc:EH}{od an:ET EJ}{VV:IQ (ET EH)}{kV doc pm Gp ct:EH}(l:K.lookup f=some #[oc,od, .func (HB x Gz (dN st) (a7 st) (af st) .none kV doc pm an Gp ct),VV])
  (c:KA K Gp Gz=true) (k:HR K (.ref f)=true):oJ K x Gz st f (HB x Gz (dN st) (a7 st) (af st) .none kV doc pm an Gp ct):=#[#[oc,od,kV,doc,pm,an,Gp,ct,VV,rfl,l,c],k]
end
end L2
section
set_option maxHeartbeats 2000000
namespace L2
open PySem PySem.Spec PyProof.Rows
open PySem.W (WData Codec OpenSpec Well WellAll ReadsW ReadsAllW)
mutual
inductive Dw (K:EF) (H:Hp):V->WData->Prop
 |HZ:Dw K H .HZ .none
 |bl (b:FR):Dw K H (.bl b) (.bool b)
 |int (i:Int):Dw K H (.int i) (.int i)
 |str (x:Fh):Dw K H (.str x) (.str x)
 |RF (b:IQ Io):Dw K H (.RF b) (.bytes b.toList)
 |lst {a:EJ}{xs:EA V}{ds:EA WData} :cP K H a xs->hZ K H xs ds->Dw K H (.ref a) (.list ds)
 |tup {a:EJ}{xs:EA V}{ds:EA WData} :rh K H a xs->hZ K H xs ds->Dw K H (.ref a) (.tuple ds)
inductive hZ (K:EF) (H:Hp):EA V->EA WData->Prop
 |nil:hZ K H [] []
 |cons {v:V}{vs:EA V}{d:WData}{ds:EA WData} :Dw K H v d->hZ K H vs ds->hZ K H (v::vs) (d::ds)
end
theorem wJ {K:EF}{H:Hp} : ∀ns:EA Int,hZ K H (ns.map V.int) (ns.map WData.int)
 |[]=> .nil
 |n::r=> .cons (.int n) (wJ r)
theorem xq {K:EF}{H:Hp} : ∀(ns:EA Int) (xs:EA V),hZ K H xs (ns.map WData.int)->xs=ns.map V.int
 |[],xs,h=>by
  cases h
  rfl
 |n::r,xs,h=>by
  cases h with
  |cons h1 h2=>
   cases h1;rw[xq r _ h2]<;>rfl
section
variable {P:Fz}{w:Ga}{K:EF}{H:Hp}{h:Gn}{R:Ub}{cl:Fh->ET EJ}
theorem YC {a:EJ}(HH:hX P w H h) (KX:K.In h) (q:cP K H a xs): ∃(Hc:EA EH) (o:Ih) (n:E1),aX xs Hc/\h.get? a=some o/\o.cls= .type "list"/\o.data= .seq Hc.toArray n:=by
 rcases q with q|⟨o,Hc,n,e,hc,_,hd,_,hv⟩
 ·obtain⟨_,Hc,n,hv,e⟩:=(show cw P w H h a [049] from q.ok HH)
  exact#[Hc,_,n,hv,e,rfl,rfl]
 ·exact#[Hc.toList,o,n,hv,KX _ _ e,hc,by simp [hd]]
theorem YD {a:EJ}(HH:hX P w H h) (KX:K.In h) (q:rh K H a xs): ∃(Hc:EA EH) (o:Ih) (n:E1),aX xs Hc/\h.get? a=some o/\o.cls= .type "tuple"/\o.data= .seq Hc.toArray n:=by
 rcases q with q|⟨o,Hc,n,e,hc,hd,_,hv⟩
 ·obtain⟨_,Hc,hv,o,e,hc,n,hd⟩:=(show cw P w H h a (.tup xs) from q.ok HH)
  exact#[Hc,o,n,hv,e,hc,hd]
 ·exact#[Hc.toList,o,n,hv,KX _ _ e,hc,by simp [hd]]
mutual
theorem Dw.reads (HH:hX P w H h) (KX:K.In h): ∀(d:WData) (v:V) (u:EH),Dw K H v d->bh v u-> ∃as,ReadsW R cl h u d as
 | .none,_,_,x,r=>by
  cases x;cases r;exact#[_,ReadsW.none]
 | .bool b,_,_,x,r=>by
  cases x;cases r;exact#[_,ReadsW.bool b]
 | .int i,_,_,x,r=>by
  cases x;obtain⟨t,rfl⟩:=r;exact#[_,ReadsW.int i t]
 | .str s,_,_,x,r=>by
  cases x;obtain⟨t,rfl⟩:=r;exact#[_,ReadsW.str s t]
 | .bytes b,_,_,x,r=>by
  cases x;obtain⟨t,rfl⟩:=r;exact#[_,ReadsW.bytes _ t]
 | .list ds,_,_,x,r=>by
  cases x with
  |lst hs ha=>
   cases r;obtain⟨Hc,o,n,rv,ho,hc,hd⟩:=YC HH KX hs;obtain⟨as,hr⟩:=Dw.readsAll HH KX ds _ Hc ha rv;exact#[_,ReadsW.list ho hc hd hr]
 | .tuple ds,_,_,x,r=>by
  cases x with
  |tup hs ha=>
   cases r;obtain⟨Hc,o,n,rv,ho,hc,hd⟩:=YD HH KX hs;obtain⟨as,hr⟩:=Dw.readsAll HH KX ds _ Hc ha rv;exact#[_,ReadsW.tuple ho hc hd hr]
 | .float _,_,_,x,_=>by cases x
 | .dict _,_,_,x,_=>by cases x
 | .bytearray _,_,_,x,_=>by cases x
 | .set _,_,_,x,_=>by cases x
 | .frozenset _,_,_,x,_=>by cases x
 | .obj _ _,_,_,x,_=>by cases x
theorem Dw.readsAll (HH:hX P w H h) (KX:K.In h): ∀(ds:EA WData) (vs:EA V) (us:EA EH),hZ K H vs ds->aX vs us-> ∃as,ReadsAllW R cl h us ds as
 |[],_,_,x,r=>by
  cases x;cases r;exact#[_,ReadsAllW.nil]
 |d::ds,_,_,x,r=>by
  cases x with
  |cons h1 h2=>
   cases r with
   |cons r1 r2=>
    obtain⟨as,q1⟩:=Dw.reads HH KX d _ _ h1 r1;obtain⟨bs,q2⟩:=Dw.readsAll HH KX ds _ _ h2 r2;exact#[_,ReadsAllW.cons q1 q2]
end
end
mutual
def wd:WData->FR
 | .none=>true
 | .bool _=>true
 | .int _=>true
 | .str _=>true
 | .bytes _=>true
 | .list xs=>lS xs
 | .tuple xs=>lS xs
 |_=>false
def lS:EA WData->FR
 |[]=>true
 |x::r=>wd x&&lS r
end
theorem sI {α:Type}{f:α->WData}(h: ∀a,wd (f a)=true): ∀l:EA α,lS (l.map f)=true
 |[]=>rfl
 |x::r=>by
  show(wd (f x)&&lS (r.map f))=true
  rw[h x,sI h r]<;>rfl
theorem iE: ∀(c:Codec) (a:c.denote),wd (c.enc a)=true
 | .unit,_=>rfl
 | .bool,_=>rfl
 | .int _ _,_=>rfl
 | .nat _ _,_=>rfl
 | .u8,_=>rfl
 | .bytes _ _,_=>rfl
 | .text _ _ _ _,_=>rfl
 | .list _ _ c,a=>sI (fun x=>iE c x) a
 | .pair c d,a=>by
  show(wd (c.enc a.1)&&(wd (d.enc a.2)&&true))=true
  rw[iE c a.1,iE d a.2]<;>rfl
 | .triple c d e,a=>by
  show(wd (c.enc a.1)&&(wd (d.enc a.2.1)&&(wd (e.enc a.2.2)&&true)))=true
  rw[iE c a.1,iE d a.2.1,iE e a.2.2]<;>rfl
 | .option c,none=>rfl
 | .option c,some x=>iE c x
theorem pY: ∀(cs:EA Codec) (a:Codec.denoteAll cs),lS (Codec.encAll cs a)=true
 |[],_=>rfl
 |c::cs,a=>by
  show(wd (c.enc a.1)&&lS (Codec.encAll cs a.2))=true
  rw[iE c a.1,pY cs a.2]<;>rfl
theorem jE: ∀ {xs:EA WData}{d:WData},d∈xs->d.weight<=WData.weightAll xs
 |[],d,h=>E7 h (by simp)
 |x::r,d,h=>by
  show d.weight<=x.weight+1+WData.weightAll r
  rcases EW.mp h with e|m
  ·rw[e]
   omega
  ·have z:=jE m
   omega
def sR:EH->V
 | .none=> .HZ
 | .bool b=> .bl b
 | .int i _=> .int i
 | .str x _=> .str x
 | .bytes b _=> .RF b
 | .ref a=> .ref a
 |_=> .HZ
def yl (A:EA EJ):EH->Prop
 | .none=>True
 | .bool _=>True
 | .int _ _=>True
 | .str _ _=>True
 | .bytes _ _=>True
 | .ref a=>a∈A
 |_=>False
theorem yl.mono {A B:EA EJ}(h: ∀a∈A,a∈B): ∀ {u:EH},yl A u->yl B u:=fun {u} x=>by
 cases u with
 |ref a=>exact h a x
 |none=>trivial
 |bool b=>trivial
 |int i t=>trivial
 |str s t=>trivial
 |bytes b t=>trivial
 |_=>exact HW x
theorem A3 {A:EA EJ}(x:yl A u):bh (sR u) u:=by
 cases u with
 |ref a=>rfl
 |none=>rfl
 |bool b=>rfl
 |int i t=>exact#[t,rfl]
 |str s t=>exact#[t,rfl]
 |bytes b t=>exact#[t,rfl]
 |_=>exact HW x
theorem gH {A:EA EJ} : ∀ {vs:EA EH},(∀u∈vs,yl A u)->aX (vs.map sR) vs
 |[],_=> .nil
 |u::r,h=> .cons (A3 (h u (EO ..))) (gH fun x hx=>h x (EN _ hx))
def h8 (h:Gn) (A:EA EJ) (a:EJ):Prop:= ∃vs:EA EH,vs.length<=FE/\(∀u∈vs,yl A u)/\
 (h.get? a=some { cls:= .type "list",data:= .seq vs.toArray } \/h.get? a=some { cls:= .type "tuple",data:= .seq vs.toArray })
theorem h8.mono {h:Gn}{A B:EA EJ}{a:EJ}(k: ∀a∈A,a∈B) (x:h8 h A a):h8 h B a:=by
 obtain⟨vs,h1,h2,h3⟩:=x;exact#[vs,h1,fun u hu=>(h2 u hu).mono k,h3]
theorem gh {P:Params}{h:Gn} : ∀ {vs:EA EH}{ds:EA WData},WellAll P h vs ds->vs.length=ds.length
 |_,_, .nil=>rfl
 |_,_, .cons _ b=>by
  show _+1=_+1
  rw[gh b]
theorem pN {P:Params}{h:Gn}(x:Well P h v (.list ds)): ∃(a:EJ) (vs:EA EH),v= .ref a/\h.get? a=some { cls:= .type "list",data:= .seq vs.toArray } /\WellAll P h vs ds:=by
 cases x with
 |list ho OY=>exact#[_,_,rfl,ho,OY]
theorem ox {P:Params}{h:Gn}(x:Well P h v (.tuple ds)): ∃(a:EJ) (vs:EA EH),v= .ref a/\h.get? a=some { cls:= .type "tuple",data:= .seq vs.toArray } /\WellAll P h vs ds:=by
 cases x with
 |tuple ho OY=>exact#[_,_,rfl,ho,OY]
theorem ph {P:Params}{h:Gn}(x:WellAll P h us (d::ds)): ∃(v:EH) (vs:EA EH),us=v::vs/\Well P h v d/\WellAll P h vs ds:=by
 cases x with
 |cons a b=>exact#[_,_,rfl,a,b]
theorem vT (h:n<=1048576):n<=FE:=Fj h [01]
section
variable {P:Params}{h:Gn}
mutual
theorem Ap: ∀(d:WData) (v:EH),Well P h v d->wd d=true->d.weight<=1048576-> ∃A:EA EJ,yl A v/\ ∀a∈A,h8 h A a
 | .none,_,x,_,_=>by
  cases x;exact [075]
 | .bool b,_,x,_,_=>by
  cases x;exact [075]
 | .int i,_,x,_,_=>by
  cases x;exact [075]
 | .str s,_,x,_,_=>by
  cases x;exact [075]
 | .bytes b,_,x,_,_=>by
  cases x;exact [075]
 | .list ds,_,x,p,z=>by
  obtain⟨a,vs,rfl,ho,OY⟩:=pN x;have z2:WData.weightAll ds<=1048576:=z;obtain⟨A,h1,h2⟩:=jP ds _ OY p fun d hd=>Fj (jE hd) z2;have k: ∀b∈A,b∈a::A:=fun b hb=>EN _ hb
  refine#[a::A,EO ..,fun b hb=>?_];rcases EW.mp hb with e|m
  ·rw[e]
   exact#[vs,vT (by rw[gh OY];exact Fj (PH ds) z2),fun u hu=>(h1 u hu).mono k, .inl ho]
  ·exact(h2 b m).mono k
 | .tuple ds,_,x,p,z=>by
  obtain⟨a,vs,rfl,ho,OY⟩:=ox x;have z2:WData.weightAll ds<=1048576:=z;obtain⟨A,h1,h2⟩:=jP ds _ OY p fun d hd=>Fj (jE hd) z2;have k: ∀b∈A,b∈a::A:=fun b hb=>EN _ hb
  refine#[a::A,EO ..,fun b hb=>?_];rcases EW.mp hb with e|m
  ·rw[e]
   exact#[vs,vT (by rw[gh OY];exact Fj (PH ds) z2),fun u hu=>(h1 u hu).mono k, .inr ho]
  ·exact(h2 b m).mono k
 | .float _,_,_,p,_=>GP (show false=true from p)
 | .dict _,_,_,p,_=>GP (show false=true from p)
 | .bytearray _,_,_,p,_=>GP (show false=true from p)
 | .set _,_,_,p,_=>GP (show false=true from p)
 | .frozenset _,_,_,p,_=>GP (show false=true from p)
 | .obj _ _,_,_,p,_=>GP (show false=true from p)
theorem jP: ∀(ds:EA WData) (vs:EA EH),WellAll P h vs ds->lS ds=true->(∀d∈ds,d.weight<=1048576)-> ∃A:EA EJ,(∀u∈vs,yl A u)/\ ∀a∈A,h8 h A a
 |[],_,x,_,_=>by
  cases x;exact#[[],fun u m=>E7 m [024],fun a m=>E7 m [024]]
 |d::ds,_,x,p,z=>by
  obtain⟨v,vs,rfl,x1,x2⟩:=ph x;have q:wd d=true/\lS ds=true:=Th.mp p;obtain⟨A,a1,a2⟩:=Ap d v x1 q.1 (z d (EO ..));obtain⟨B,b1,b2⟩:=jP ds vs x2 q.2 fun e he=>z e (EN _ he);have kA: ∀b∈A,b∈A++B:=fun b hb=>Fp.mpr (.inl hb)
  have kB: ∀b∈B,b∈A++B:=fun b hb=>Fp.mpr (.inr hb)
  refine#[A++B,fun u hu=>?_,fun b hb=>?_]
  ·rcases EW.mp hu with e|m
   ·rw[e]
    exact a1.mono kA
   ·exact(b1 u m).mono kB
  ·rcases Fp.mp hb with m|m
   ·exact(a2 b m).mono kA
   ·exact(b2 b m).mono kB
end
end
def Er (o:Ih):ET HO:=match o.data with
 | .seq vs _=>if(o.cls == L8 "list")=true then some (.P5 o (.lst (vs.toList.map sR))) else some (.P5 o (.tup (vs.toList.map sR)))
 |_=>none
def gY (K:EF) (h:Gn) (A:EA EJ):Hp:=fun b=>if b∈A then(if(K.lookup b).isNone=true then(h.get? b).bind Er else none) else none
def tq (H:Hp):Prop:= ∀b,H b=none\/ ∃o u,H b=some (.P5 o u)
theorem sr (vs:EA EH):Er { cls:= .type "list",data:= .seq vs.toArray } =some (.P5 { cls:= .type "list",data:= .seq vs.toArray } (.lst (vs.map sR))):=by
 show(if(L8 "list" == L8 "list")=true then some (HO.P5 { cls:= .type "list",data:= .seq vs.toArray } (.lst (vs.toArray.toList.map sR))) else some (HO.P5 { cls:= .type "list",data:= .seq vs.toArray } (.tup (vs.toArray.toList.map sR))))=_
 rw[EL (Gr _)]
theorem tG (vs:EA EH):Er { cls:= .type "tuple",data:= .seq vs.toArray } =some (.P5 { cls:= .type "tuple",data:= .seq vs.toArray } (.tup (vs.map sR))):=by
 show(if(L8 "tuple" == L8 "list")=true then some (HO.P5 { cls:= .type "tuple",data:= .seq vs.toArray } (.lst (vs.toArray.toList.map sR))) else some (HO.P5 { cls:= .type "tuple",data:= .seq vs.toArray } (.tup (vs.toArray.toList.map sR))))=_
 rw[EI [01]]
section
variable {P:Fz}{w:Ga}{K:EF}{h:Gn}{A:EA EJ}
theorem l0 (hb:b∈A) (hk:K.lookup b=none) (e:h.get? b=some o):gY K h A b=Er o:=by
 unfold gY;rw[EL hb,hk,EL (show(none:ET Ih).isNone=true from rfl),e]<;>rfl
theorem C8 (q:gY K h A b=some u):b∈A/\K.lookup b=none:=by
 unfold gY at q;by_cases hb:b∈A
 ·rw[EL hb] at q
  cases hk:K.lookup b with
  |none=>exact#[hb,rfl]
  |some o=>
   rw[hk,EI [024]] at q;cases q
 ·rw[EI hb] at q
  cases q
theorem me (ar: ∀a∈A,h8 h A a) (q:gY K h A b=some u):K.lookup b=none/\ ∃vs:EA EH,vs.length<=FE/\(∀u∈vs,yl A u)/\
  ((h.get? b=some { cls:= .type "list",data:= .seq vs.toArray } /\u= .P5 { cls:= .type "list",data:= .seq vs.toArray } (.lst (vs.map sR)))\/
    (h.get? b=some { cls:= .type "tuple",data:= .seq vs.toArray } /\u= .P5 { cls:= .type "tuple",data:= .seq vs.toArray } (.tup (vs.map sR)))):=by
 obtain⟨hb,hk⟩:=C8 q;obtain⟨vs,h1,h2,h3⟩:=ar b hb;refine#[hk,vs,h1,h2,?_];rcases h3 with e|e
 ·rw[l0 hb hk e,sr] at q
  exact .inl #[e,(E5 q).symm]
 ·rw[l0 hb hk e,tG] at q
  exact .inr #[e,(E5 q).symm]
theorem ze (ar: ∀a∈A,h8 h A a):tq (gY K h A):=fun b=>by
 cases q:gY K h A b with
 |none=>exact .inl rfl
 |some u=>
  obtain⟨_,vs,_,_,⟨_,e⟩|⟨_,e⟩⟩:=me ar q
  ·exact .inr #[_,_,by rw[e]]
  ·exact .inr #[_,_,by rw[e]]
theorem DM (ar: ∀a∈A,h8 h A a):hX P w (gY K h A) h:=fun b u q=>by
 obtain⟨_,vs,h1,h2,⟨e,rfl⟩|⟨e,rfl⟩⟩:=me ar q
 ·exact#[e,by rw[EY];exact h1,vs,_,gH h2,e]
 ·exact#[e,by rw[EY];exact h1,vs,gH h2,_,e,rfl,_,rfl]
theorem lZ {c c':EH}{vs us:EA EH}(e:(some { cls:=c,data:= .seq vs.toArray } :ET Ih)=some { cls:=c',data:= .seq us.toArray }):c=c'/\vs=us:=by
 have e1:=E5 e
 have e2:c=c':=FN Ih.cls e1
 have e3:Tv vs.toArray=Tv us.toArray:=FN Ih.data e1;injection e3 with e4;refine#[e2,?_]
 have e5:=FN RE e4
 simpa using e5
theorem ah4 (KX:K.In h) (ar: ∀a∈A,h8 h A a) {a:EJ}{vs:EA EH}(ha:a∈A) (e:h.get? a=some { cls:= .type "list",data:= .seq vs.toArray }):(∀u∈vs,yl A u)/\cP K (gY K h A) a (vs.map sR):=by
 obtain⟨us,h1,h2,h3⟩:=ar a ha;have hu:us=vs:=by
  rcases h3 with q|q
  ·rw[e] at q
   exact(lZ q).2.symm
  ·rw[e] at q
   exact E7 (Tw (lZ q).1) [01]
 subst hu;refine#[h2,?_];cases hk:K.lookup a with
 |none=>exact .inl (.inr #[_,by rw[l0 ha hk e,sr]])
 |some o=>
  have e2:=KX a o hk;rw[e] at e2;obtain rfl:=E5 e2;exact .inr #[_,us.toArray,_,hk,rfl,rfl,rfl,by rw[F8];exact h1,by simpa using gH h2]
theorem ah5 (KX:K.In h) (ar: ∀a∈A,h8 h A a) {a:EJ}{vs:EA EH}(ha:a∈A) (e:h.get? a=some { cls:= .type "tuple",data:= .seq vs.toArray }):(∀u∈vs,yl A u)/\rh K (gY K h A) a (vs.map sR):=by
 obtain⟨us,h1,h2,h3⟩:=ar a ha;have hu:us=vs:=by
  rcases h3 with q|q
  ·rw[e] at q
   exact E7 (Tw (lZ q).1) [01]
  ·rw[e] at q
   exact(lZ q).2.symm
 subst hu;refine#[h2,?_];cases hk:K.lookup a with
 |none=>exact .inl (.inr #[_,by rw[l0 ha hk e,tG]])
 |some o=>
  have e2:=KX a o hk;rw[e] at e2;obtain rfl:=E5 e2;exact .inr #[_,us.toArray,_,hk,rfl,rfl,by rw[F8];exact h1,by simpa using gH h2]
mutual
theorem YE {Pm:Params}(KX:K.In h) (ar: ∀a∈A,h8 h A a): ∀(d:WData) (v:EH),Well Pm h v d->wd d=true->yl A v->Dw K (gY K h A) (sR v) d
 | .none,_,x,_,_=>by
  cases x;exact .HZ
 | .bool b,_,x,_,_=>by
  cases x;exact .bl b
 | .int i,_,x,_,_=>by
  cases x;exact .int i
 | .str s,_,x,_,_=>by
  cases x;exact .str s
 | .bytes b,_,x,_,_=>by
  cases x;have z:=Dw.RF (K:=K) (H:=gY K h A) b.toArray;exact z
 | .list ds,_,x,p,hu=>by
  obtain⟨a,vs,rfl,ho,OY⟩:=pN x;obtain⟨h2,hs⟩:=ah4 KX ar hu ho;exact .lst hs (qD KX ar ds _ OY p h2)
 | .tuple ds,_,x,p,hu=>by
  obtain⟨a,vs,rfl,ho,OY⟩:=ox x;obtain⟨h2,hs⟩:=ah5 KX ar hu ho;exact .tup hs (qD KX ar ds _ OY p h2)
 | .float _,_,_,p,_=>GP (show false=true from p)
 | .dict _,_,_,p,_=>GP (show false=true from p)
 | .bytearray _,_,_,p,_=>GP (show false=true from p)
 | .set _,_,_,p,_=>GP (show false=true from p)
 | .frozenset _,_,_,p,_=>GP (show false=true from p)
 | .obj _ _,_,_,p,_=>GP (show false=true from p)
theorem qD (KX:K.In h) (ar: ∀a∈A,h8 h A a): ∀(ds:EA WData) (vs:EA EH),WellAll Pm h vs ds->lS ds=true->(∀u∈vs,yl A u)->hZ K (gY K h A) (vs.map sR) ds
 |[],_,x,_,_=>by
  cases x;exact .nil
 |d::ds,_,x,p,hu=>by
  obtain⟨v,vs,rfl,x1,x2⟩:=ph x;have q:wd d=true/\lS ds=true:=Th.mp p;exact .cons (YE KX ar d v x1 q.1 (hu _ (EO ..))) (qD KX ar ds vs x2 q.2 fun u m=>hu u (EN _ m))
end
end
theorem xB {P:Fz}{w:Ga}{K:EF}{mg mb:Fh->ET EH}{CX:pX}{k:E1}{fa:EJ}{fd:FL}{ps:EA Fh}{sp:Sp}{s₁:EM}{vals:EA EH}{ds:EA WData}{R:Ub}{cl:Fh->ET EJ}{d0:WData}
  (KX:K.In s₁.heap) (hns:s₁.heap.Ns ID mg) (hb:s₁.heap.Ns Ym mb) (hbb: ∀x:Fh,x≠"__name__"->mb x=Kr x) (ah6:s₁.heap.NoLimit) (hg:s₁.gens= [].toArray)
  (hwl:WellAll w.params s₁.heap vals ds) (Ma:lS ds=true) (hwt: ∀d∈ds,d.weight<=1048576) (hr:bW k Sf)
  (F: ∀base:Gn,K.In base->base.Ns ID mg->bS P w K mg base CX k fa fd ps sp) (aba: ∀(s:EM) (us:EA EH),us.length=ps.length->Se s fd #[us,[]] [018]) (MJ:ds.length=ps.length)
  (SR: ∀(H:Hp) (xs:EA V),tq H->hZ K H xs ds->sp xs H (fun v H'=>Dw K H' v d0) fun _ _ _=>False)
  (hCX: ∀H e s',CX [] H s₁ (fun _ _ _=>False) e s'->False):
  KP (model P w) Sf (.call (.ref fa) #[vals,[]]) (fun r s'=> ∃u as,r= .ok (.ret u)/\ReadsW R cl s'.heap u d0 as/\OldK s₁.heap s'.heap/\s'.os=s₁.os/\Pg s'.gens) s₁:=by
 obtain⟨A,ho,ar⟩:=jP ds vals hwl Ma hwt;have hO:tq (gY K s₁.heap A):=ze ar;have HH:hX P w (gY K s₁.heap A) s₁.heap:=DM ar;have hS:=qD KX ar ds vals hwl Ma ho;have hV:=gH ho;have hK: ∀b u,gY K s₁.heap A b=some u->K.lookup b=none:=fun b u q=>(me ar q).1
 have noA: ∀ {b:EJ}{o:Ih}{es:IQ NG}{ep:E1},s₁.heap.get? b=some o->o.data= .dict es ep->gY K s₁.heap A b=none:=fun {b o es ep} e d=>by
  cases q:gY K s₁.heap A b with
  |none=>rfl
  |some u=>
   obtain⟨_,vs,_,_,⟨e2,_⟩|⟨e2,_⟩⟩:=me ar q
   ·rw[e2] at e
    cases e;have d':Tv vs.toArray _=Data.dict es ep:=d;cases d'
   ·rw[e2] at e
    cases e;have d':Tv vs.toArray _=Data.dict es ep:=d;cases d'
 generalize gY K s₁.heap A=H at hO HH hS hK noA;have Tx: ∀ {b:EJ}{o:Ih},s₁.heap.get? b=some o->H b=none->(qL s₁.heap H).get? b=some o:=fun e n=>BV e n
 have UR: ∀ {b:EJ}{m:Fh->ET EH},s₁.heap.Ns b m->(qL s₁.heap H).Ns b m:=fun {b m} ⟨o,es,ep,e,d,r⟩=>#[o,es,ep,Tx e (noA e d),d,r]
 have nK: ∀b o,K.lookup b=some o->H b=none:=fun b o e=>by
  cases q:H b with
  |none=>rfl
  |some u=>
   rw[hK b u q] at e;cases e
 have hKb:K.In (qL s₁.heap H):=fun b o e=>Tx (KX b o e) (nK b o e)
 have hM:Mod K mg (qL s₁.heap H):=#[hKb,UR hns,#[mb,UR hb,hbb],let ⟨mc,h1,h2⟩:=ah6;#[mc,UR h1,h2]]
 have e0:ub P w K mg (qL s₁.heap H) Sf [] s₁ H:=#[rfl,hM,fun b o e=>DF e,JG (zd _ _),trivial,fun b hb=>E7 (show b∈([]:EA EJ) from hb) [024],HH, .of_eq hg]
 have hl:vals.length=ps.length:=by rw[gh hwl];exact MJ
 refine Mu ((F _ hKb (UR hns)).run Sf [] s₁ H #[vals,[]] vals (vals.map sR) _ _ hr e0 (aba s₁ vals hl) hV (SR H _ hO hS)) fun r s' x=>?_;cases r with
 |error e=>exact(hCX H e s' x).elim
 |ok fl=>
  cases fl with
  |next=>exact HW x
  |brk=>exact HW x
  |cont=>exact HW x
  |ret u=>
   obtain⟨v,H',os,bare,un,abb,r',q⟩:=x;have kept: ∀b o,s₁.heap.get? b=some o->s'.heap.get? b=some o:=fun b o e=>by
    cases q2:H b with
    |none=>exact un.keep b o e q2 (by intro z;exact E7 (show b∈([]:EA EJ) from z) (by simp)) (by simp)
    |some u2=>
     rcases hO b with z|⟨ob,u3,z⟩
     ·rw[q2] at z
      cases z
     ·have z2:=un.P6 b ob _ z
      obtain⟨e1,_⟩:=HH b _ z;obtain⟨e2,_⟩:=abb b _ z2;rw[e] at e1;cases e1;exact e2
   have KX':K.In s'.heap:=fun b o e=>kept b o (KX b o e)
   obtain⟨as,hrd⟩:=Dw.reads (R:=R) (cl:=cl) abb KX' d0 v u q r';exact#[u,as,rfl,hrd,OldK.of_keep kept,os,bare]
theorem mO (h:WData.layableAll ds=true): ∀d∈ds,d.weight<=1048576:=fun d hd=>
 (PySem.W.layableW_iff.mp (Lf.mp h d hd)).2.2
theorem nA: ∀(cs:EA Codec) (a:Codec.denoteAll cs),(Codec.encAll cs a).length=cs.length
 |[],_=>rfl
 |c::cs,a=>by
  show(Codec.encAll cs a.2).length+1=cs.length+1
  rw[nA cs a.2]
theorem yV {XP:(Fh->ET EH)->Gn->Prop}{YP:Ga->Gn->Prop}{K:Params->EF}{CX:Ga->pX}{sp:Ga->Sp}
  (Vj:r.wellSaid=true) (hdf:d.params.defaults=[]) (MJ:r.args.length=ps.length) (hr:bW k Sf)
  (hY: ∀(w:Ga) (h:Gn),YP w h->[047].In h)
  (F: ∀(w:Ga) (mg:Fh->ET EH) (fa:EJ) (h:Gn),YP w h->[047].In h->h.Ns ID mg->mg d.name=some (.ref fa)->
   ∃fd:FL,(∀(s:EM) (us:EA EH),us.length=ps.length->Se s fd #[us,[]] [018])/\
    ∀base:Gn,[047].In base->base.Ns ID mg->bS r.prog w [047] mg base (CX w) k fa fd ps (sp w))
  (SR: ∀(w:Ga) (H:Hp) (xs:EA V) (a:Codec.denoteAll r.args),tq H->Codec.withinAll r.args a=true->Codec.app r.args r.asked a=true->hZ [047] H xs (Codec.encAll r.args a)->
   sp w xs H (fun v H'=>Dw [047] H' v (r.ret.enc (Codec.app r.args r.f a))) fun _ _ _=>False)
  (hCX: ∀(w:Ga) (H:Hp) (s:EM) (e:EH) (s':EM),CX w [] H s (fun _ _ _=>False) e s'->False):
  Vd q loose XP YP r d [] (fun f vs=>PySem.call f vs):=by
 intro w OZ s₁ mg mb G Y fa o pm cd doc dV kV ho hd RG hD hmg hg args vals as ah7 ah8 hrd hwl hlo;obtain⟨a,e1,e2⟩:=PySem.W.os_pre_some ah7;obtain⟨e3,hwi⟩:=Codec.encAll_of_decAll r.args args a e1;subst e3;have KX:=hY w _ Y;obtain⟨fd,hb,hF⟩:=F w mg fa _ Y KX G.T.g hmg;refine PySem.W.enter_call (Mu (xB (R:=[]) (cl:=classAt OZ.heap) (d0:=r.ret.enc (Codec.app r.args r.f a)) KX G.T.g G.T.b G.T.builtins G.T.nolimit hg hwl (pY _ _) (mO ah8) hr hF hb (by rw[nA];exact MJ)
  (fun H xs hO hS=>SR w H xs a hO hwi e2 hS) fun H e s'=>hCX w H s₁ e s') fun r' s' hq=>?_)
 obtain⟨u,as',rfl,h1,h2,h3,h4⟩:=hq;exact#[.inl #[u,_,as',rfl,fun _=>rfl,h1,(OpenSpec.post_iff Vj hwi _ _).mpr rfl,fun z=>GP (show false=true from z)],h2,h3,h4]
theorem vk {XP:(Fh->ET EH)->Gn->Prop}{YP:Ga->Gn->Prop}{K:Params->EF}{CX:pX}{sp:EF->Sp}
  (Vj:r.wellSaid=true) (hdf:d.params.defaults=[]) (MJ:r.args.length=ps.length) (hr:bW k Sf)
  (hY: ∀(w:Ga) (h:Gn),YP w h->[047].In h)
  (F: ∀(w:Ga) (mg:Fh->ET EH) (fa:EJ) (h:Gn),YP w h->[047].In h->h.Ns ID mg->mg d.name=some (.ref fa)->
   ∃fd:FL,(∀(s:EM) (us:EA EH),us.length=ps.length->Se s fd #[us,[]] [018])/\
    ∀base:Gn,[047].In base->base.Ns ID mg->bS r.prog w [047] mg base CX k fa fd ps (sp [047]))
  (SR: ∀(K:EF) (H:Hp) (xs:EA V) (a:Codec.denoteAll r.args),tq H->Codec.withinAll r.args a=true->Codec.app r.args r.asked a=true->hZ K H xs (Codec.encAll r.args a)->
   sp K xs H (fun v H'=>Dw K H' v (r.ret.enc (Codec.app r.args r.f a))) fun _ _ _=>False)
  (hCX: ∀(H:Hp) (s:EM) (e:EH) (s':EM),CX [] H s (fun _ _ _=>False) e s'->False):
  Vd q loose XP YP r d [] (fun f vs=>PySem.call f vs):=
 yV (K:=K) (CX:=fun _=>CX) (sp:=fun w=>sp [047]) Vj hdf MJ hr hY F (fun w H xs a h1 h2 h3 h4=>SR [047] H xs a h1 h2 h3 h4) fun _ H s e s'=>hCX H s e s'
end L2
end
namespace OS
open PySem
abbrev cT:EA EH:=[.type "Exception", .type "BaseException", .type "object"]
end OS
namespace OS
open PySem PySem.Spec L2
open PyProof.Rows hiding St
def c8:EA Fh:=["__getattribute__","__getattr__","__setattr__","number","kind","line","column"]
def XO (h:Gn) (C N:EJ) (bm:EA EH):Prop:= ∃(nm q:Fh) (bs:EA EH) (sn:EA Fh) (sub:EA EH) (ab:FR) (col:ET FR) (dd:ET EJ) (k0 k1 k2 k3 k5:ET EH),h.get? C=some (HF nm q C N bs bm true sn sub ab col dd k0 k1 k2 k3 k5 "Exception.__new__")
def XAt (h:Gn) (R C fI:EJ):Prop:= ∃(N:EJ) (mN:Fh->ET EH) (oI:Ih) (NR:EJ) (mR:Fh->ET EH),XO h C N (.ref R::cT)/\h.Ns N mN/\mN "__init__"=some (.ref fI)/\(∀n∈c8,mN n=none)/\h.get? fI=some oI/\oI.cls= .type "function"/\
 XO h R NR cT/\h.Ns NR mR/\ ∀n∈c8,mR n=none
structure dA (K:EF) (R C fI:EJ):Prop where
 at_: ∀h:Gn,K.In h->XAt h R C fI
 kp:HR K (.ref C)=true
end OS
namespace OS
open Vbemac
open PySem (Str)
def sb (w:FJ):Fh:=#[(w.map Mt).toArray]
def YF:Fh:=#[[47,114,101,115,116].toArray]
def dG (s:FJ):Fh:=if s=[37] then YF else sb s
end OS
namespace OS
open PySem PySem.Spec L2
open PyProof.Rows hiding St
def o0 (K:EF) (a:EJ) (xs:EA V):Prop:= ∃(o:Ih) (Hc:IQ EH) (n:E1),K.lookup a=some o/\o.cls= .type "tuple"/\o.data= .seq Hc n/\Hc.size<=FE/\aX xs Hc.toList
structure zt (P:Fz) (w:Ga) (K:EF) (a:EJ) (aC:EA (EA a0×V)):Prop where
 at_: ∃xs:EA (EA a0×EJ×EH),(∀h:Gn,K.In h->h.DictOfH (MM (aT P w)) a xs)/\Paired (fun(p:EA a0×V) (q:EA a0×EJ×EH)=>p.1=q.1/\bh p.2 q.2.2) aC xs
 no:(a == HN)=false
structure zD (K:EF) (C:EJ):Prop where
 cl:gA K C
 ha:Hh K (.ref C) "__class__"=some (some [066])
 hn:Om K [066] "__get__"=some (some (.builtin "getset_descriptor.__get__"))
 htk:UK K [066]=some true
 hm:VT K C (.type "object")=some true
def tp (i:E1):Stmt:=PySem.Challenge.pw_ordersheets_s06_steps.main.body.getD i (.Pass #[0,0,0,0])
abbrev abc:Stmt:=aB (tp 4) 0
abbrev abd:Stmt:=aB (tp 5) 0
abbrev abe:Stmt:=aB (tp 6) 0
abbrev abf:Stmt:=aB (tp 7) 0
abbrev abg:Stmt:=aB (tp 8) 0
abbrev abh:Stmt:=aB (tp 9) 0
abbrev abi:Stmt:=aB (tp 10) 0
abbrev abj:Stmt:=aB (tp 11) 0
abbrev abk:Stmt:=aB (tp 12) 0
abbrev abl:Stmt:=aB (tp 13) 0
abbrev abm:Stmt:=aB (tp 14) 0
abbrev abn:Stmt:=aB (tp 15) 0
abbrev abo:Stmt:=aB (tp 16) 0
abbrev abp:Stmt:=aB (tp 17) 0
abbrev abq:Stmt:=aB (tp 18) 0
abbrev abr:Stmt:=aB (tp 19) 0
abbrev abt:Stmt:=aB (tp 23) 0
abbrev abu:Stmt:=aB (tp 24) 0
abbrev s_K:Stmt:=tp 25
abbrev s_o:Stmt:=aB (tp 27) 0
abbrev abv:Stmt:=aB (tp 28) 0
abbrev s_1:Stmt:=aB (tp 29) 0
abbrev s_L:Stmt:=aB (tp 30) 0
abbrev s_M:Stmt:=aB (tp 31) 0
abbrev abw:Stmt:=aB (tp 32) 0
abbrev abx:Stmt:=aB (tp 33) 0
abbrev aby:Stmt:=aB (tp 34) 0
abbrev abz:Stmt:=aB (tp 35) 0
abbrev s_N:Stmt:=tp 38
abbrev s_O:Stmt:=tp 39
abbrev s_P:Stmt:=tp 40
abbrev abA:Stmt:=tp 41
abbrev abB:Stmt:=tp 42
abbrev abC:Stmt:=tp 43
abbrev s_Q:Stmt:=tp 44
abbrev abD:Stmt:=aB (tp 47) 0
abbrev abE:Stmt:=aB (tp 48) 0
abbrev abF:Stmt:=aB (tp 48) 1
abbrev abG:Stmt:=aB (tp 48) 2
abbrev abH:Stmt:=aB (tp 48) 3
abbrev abI:Stmt:=aB (tp 48) 4
abbrev abJ:Stmt:=aB (tp 48) 5
abbrev abK:Stmt:=aB (tp 48) 6
abbrev s_2:Stmt:=tp 49
abbrev s_3:Stmt:=tp 50
abbrev s_4:Stmt:=tp 51
abbrev s_5:Stmt:=tp 52
abbrev s_6:Stmt:=tp 53
abbrev s_7:Stmt:=tp 54
abbrev abL:Stmt:=tp 55
abbrev s_w:Stmt:=tp 56
abbrev s_8:Stmt:=tp 57
abbrev s_9:Stmt:=tp 58
abbrev abM:Stmt:=tp 59
abbrev abN:Stmt:=aB (tp 65) 0
abbrev abO:Stmt:=aB (tp 66) 0
abbrev s_R:Stmt:=tp 67
abbrev abP:Stmt:=tp 68
abbrev s_x:Stmt:=tp 69
abbrev s_k:Stmt:=tp 70
abbrev s_S:Stmt:=tp 71
abbrev s_y:Stmt:=tp 72
abbrev s_B:Stmt:=tp 73
abbrev abQ:Stmt:=tp 74
abbrev abR:Stmt:=tp 75
abbrev s_T:Stmt:=tp 76
abbrev abS:Stmt:=tp 77
abbrev s_C:Stmt:=tp 78
abbrev abT:Stmt:=tp 79
abbrev abU:Stmt:=tp 80
abbrev s_D:Stmt:=aB (tp 94) 0
abbrev s_e:Stmt:=tp 95
abbrev s_h:Stmt:=tp 96
abbrev s_E:Stmt:=tp 97
abbrev s_F:Stmt:=tp 98
abbrev s_G:Stmt:=tp 99
abbrev s_H:Stmt:=tp 100
abbrev s_I:Stmt:=tp 101
abbrev s_r:Stmt:=tp 102
abbrev s_s:Stmt:=tp 103
abbrev s_i:Stmt:=tp 104
abbrev abV:Stmt:=aB (tp 115) 0
abbrev s_a:Stmt:=aB (tp 115) 1
abbrev s_b:Stmt:=aB (tp 115) 2
abbrev s_p:Stmt:=aB (tp 115) 3
abbrev abW:Stmt:=aB (tp 115) 4
abbrev abX:Stmt:=aB (tp 115) 5
abbrev s_U:Stmt:=aB (tp 115) 6
abbrev abY:Stmt:=aB (tp 115) 7
abbrev s_t:Stmt:=aB (tp 115) 8
abbrev abZ:Stmt:=aB (tp 115) 9
abbrev ab0:Stmt:=aB (tp 115) 10
abbrev s_z:Stmt:=aB (tp 115) 11
abbrev ab1:Stmt:=aB (tp 115) 12
abbrev ab2:Stmt:=aB (tp 115) 13
abbrev ab3:Stmt:=aB (tp 115) 14
abbrev ab4:Stmt:=aB (tp 115) 15
abbrev s_f:Stmt:=tp 119
abbrev s_c:Stmt:=tp 120
abbrev ab5:Stmt:=tp 121
abbrev s_u:Stmt:=tp 122
abbrev s_l:Stmt:=tp 123
abbrev ab6:Stmt:=tp 124
abbrev ab7:Stmt:=tp 125
abbrev ab8:Stmt:=tp 126
abbrev s_V:Stmt:=tp 127
abbrev ab9:Stmt:=tp 128
abbrev s_j:Stmt:=tp 133
abbrev aca:Stmt:=tp 134
abbrev acb:Stmt:=tp 135
abbrev s_q:Stmt:=tp 136
abbrev acd:Stmt:=tp 137
abbrev ace:Stmt:=tp 138
abbrev acf:Stmt:=tp 139
abbrev acg:Stmt:=tp 140
abbrev s_m:Stmt:=tp 141
abbrev ach:Stmt:=tp 142
abbrev s_W:Stmt:=tp 143
abbrev aci:Stmt:=tp 144
abbrev acj:Stmt:=tp 145
abbrev ack:Stmt:=tp 146
abbrev acm:Stmt:=tp 147
abbrev s_n:Stmt:=tp 148
abbrev s_A:Stmt:=tp 149
abbrev s_X:Stmt:=tp 150
abbrev s_Y:Stmt:=tp 151
abbrev acn:Stmt:=tp 152
abbrev aco:Stmt:=tp 153
abbrev s_J:Stmt:=tp 159
abbrev s_Z:Stmt:=tp 160
abbrev acp:Stmt:=tp 161
abbrev s_g:Stmt:=tp 162
abbrev acq:Stmt:=tp 163
abbrev s_d:Stmt:=tp 164
set_option genInjectivity false in
structure bf where
 (acr acs acu acv acw acx acy acz acA acB acC acD acE acF acG acH acI acJ f_K f_o YG f_1 f_L f_M YH YI YJ YK f_N f_O f_P ah9 aia aib f_Q acK acL aic aid aie aif aih aii f_2 f_3 f_4 f_5 f_6 f_7 aij f_w f_8 f_9 acM acN acO f_R aik f_x f_k f_S f_y f_B ail aim f_T ain f_C aio aip f_D f_e f_h f_E f_F f_G f_H f_I f_r f_s f_i acP f_a f_b f_p aiq air f_U ais f_t ait aiu f_z aiv aiw aix aiy f_f f_c aiz f_u f_l aiA aiB aiC f_V aiD f_j aiE aiF f_q aiG aiH aiI aiJ f_m aiK f_W aiL aiM aiN aiO f_n f_A f_X f_Y aiP aiQ f_J f_Z aiR f_g aiS f_d La Nh MS Ke Jj JO Ni Lb Mz PN Km Kq Jb LI NS MT HI Ho GB Lc Hd IW Ko JW JX IX KZ LR GY JB FV IA FX RH Jy Pl GC Hz:EJ)
 (acQ acR acS acT acU acV acW acX acY acZ ac0 ac1 ac2 ac3 ac4 ac5 ac6 ac7 aiT aiU ac8 aiV aiW aiX ac9 ada adb ade aiY aiZ ai0 adf adg adh ai1 adi adj adk adl adm adn ado adp adq ads adt adu adv adw adx ai2 ady adz W9 adA adB ai3 adC ai4 ai5 ai6 ai7 ai8 adD adE ai9 adF aja adG adH ajb ajc ajd aje ajf ajg ajh aji ajj ajk ajl adI ajm ajn ajo adJ adK ajp adL ajq adM adN ajr adO adP adQ adR ajs adS adT ajt aju adU adV adW ajv adX ajw adY adZ ajx ad0 ad1 ad2 ad3 ajy ad4 ad5 ad6 ad7 ad8 ad9 ajz ajA aea aeb aec aed ajB ajC aee ajD aef Vk:FL)
structure cK (K:EF) (mg:Fh->ET EH) (n:Fh) (st:Stmt) (ps:EA Fh) (f:EJ) (fd:FL):Prop where
 F:oJ K n n st f fd
 c:CD K mg n f fd ps
structure eM (K:EF) (C:EJ) (n q:Fh) (st:Stmt) (ps:EA Fh) (f:EJ) (fd:FL):Prop where
 F:oJ K n q st f fd
 c:MD K C n f fd ps
structure aU (K:EF) (mg:Fh->ET EH) (a:bf):Prop where
 QM:mg "Number"=some (.ref a.La)
 Tz:mg "Name"=some (.ref a.Nh)
 TB:mg "Call"=some (.ref a.MS)
 RI:mg "Unary"=some (.ref a.Ke)
 RJ:mg "Chain"=some (.ref a.Jj)
 QN:mg "Choice"=some (.ref a.JO)
 YL:mg "Sum"=some (.ref a.Ni)
 SS:mg "Let"=some (.ref a.Lb)
 Vl:mg "For"=some (.ref a.Mz)
 Xa:mg "If"=some (.ref a.PN)
 TC:mg "Step"=some (.ref a.Km)
 SU:mg "Amounts"=some (.ref a.Kq)
 Vm:mg "Block"=some (.ref a.Jb)
 RK:mg "Const"=some (.ref a.LI)
 Vn:mg "Fun"=some (.ref a.NS)
 TF:mg "Desk"=some (.ref a.MT)
 Q1:mg "StepOrder"=some (.ref a.HI)
 Qy:mg "BlockOrder"=some (.ref a.Ho)
 Hi:mg "Refusal"=some (.ref a.GB)
 Ot:mg "NotAsTold"=some (.ref a.Lc)
 P7:mg "Fault"=some (.ref a.Hd)
 MA:mg "DivisorIsZero"=some (.ref a.IW)
 Pn:mg "TooGreat"=some (.ref a.Ko)
 NT:mg "NoStepLeft"=some (.ref a.JW)
 NU:mg "OutOfRange"=some (.ref a.JX)
 MB:mg "TooManyOrders"=some (.ref a.IX)
 Pp:mg "NoParent"=some (.ref a.KZ)
 Wf:mg "Task"=some (.ref a.LR)
 Ug:mg "Worker"=some (.ref a.GY)
 Uh:mg "Market"=some (.ref a.JB)
 Q2:mg "Expansion"=some (.ref a.FV)
 RL:mg "Token"=some (.ref a.IA)
 Ui:mg "Reader"=some (.ref a.FX)
 aeg:eM K a.La "__init__" "Number.__init__" abc ["self","worth"] a.acr a.acQ
 aeh:eM K a.Nh "__init__" "Name.__init__" abd ["self","name"] a.acs a.acR
 aei:eM K a.MS "__init__" "Call.__init__" abe ["self","name","arguments"] a.acu a.acS
 aej:eM K a.Ke "__init__" "Unary.__init__" abf ["self","sign","operand"] a.acv a.acT
 aek:eM K a.Jj "__init__" "Chain.__init__" abg ["self","strength","operands","signs"] a.acw a.acU
 ael:eM K a.JO "__init__" "Choice.__init__" abh ["self","condition","chosen","otherwise"] a.acx a.acV
 aem:eM K a.Ni "__init__" "Sum.__init__" abi ["self","name","first","last","body"] a.acy a.acW
 aen:eM K a.Lb "__init__" "Let.__init__" abj ["self","name","exp"] a.acz a.acX
 aeo:eM K a.Mz "__init__" "For.__init__" abk ["self","name","first","last","statements"] a.acA a.acY
 aep:eM K a.PN "__init__" "If.__init__" abl ["self","condition","statements","else_statements"] a.acB a.acZ
 aeq:eM K a.Km "__init__" "Step.__init__" abm ["self","side","zone","quarter","price","to_price","amount"] a.acC a.ac0
 aer:eM K a.Kq "__init__" "Amounts.__init__" abn ["self","name","exp"] a.acD a.ac1
 aes:eM K a.Jb "__init__" "Block.__init__" abo ["self","name","side","zone","price","amounts","under","group"] a.acE a.ac2
 aet:eM K a.LI "__init__" "Const.__init__" abp ["self","name","exp"] a.acF a.ac3
 aeu:eM K a.NS "__init__" "Fun.__init__" abq ["self","name","parameters","exp"] a.acG a.ac4
 aev:eM K a.MT "__init__" "Desk.__init__" abr ["self","name","statements"] a.acH a.ac5
 aew:eM K a.HI "__init__" "StepOrder.__init__" abt ["self","desk","zone","quarter","side","low","high","amount"] a.acI a.ac6
 aex:eM K a.Ho "__init__" "BlockOrder.__init__" abu ["self","desk","zone","side","price","group","parent","amounts"] a.acJ a.ac7
 d_K:cK K mg "side_number" s_K ["word"] a.f_K a.aiT
 VW:eM K a.GB "__init__" "Refusal.__init__" s_o ["self","number"] a.f_o a.aiU
 YM:eM K a.Lc "__init__" "NotAsTold.__init__" abv ["self"] a.YG a.ac8
 d_1:eM K a.Hd "__init__" "Fault.__init__" s_1 ["self","kind","line","column"] a.f_1 a.aiV
 d_L:eM K a.IW "__init__" "DivisorIsZero.__init__" s_L ["self"] a.f_L a.aiW
 d_M:eM K a.Ko "__init__" "TooGreat.__init__" s_M ["self"] a.f_M a.aiX
 YN:eM K a.JW "__init__" "NoStepLeft.__init__" abw ["self"] a.YH a.ac9
 YO:eM K a.JX "__init__" "OutOfRange.__init__" abx ["self"] a.YI a.ada
 YQ:eM K a.IX "__init__" "TooManyOrders.__init__" aby ["self"] a.YJ a.adb
 YR:eM K a.KZ "__init__" "NoParent.__init__" abz ["self"] a.YK a.ade
 d_N:cK K mg "has_result" s_N ["sign","right"] a.f_N a.aiY
 d_O:cK K mg "sign_result" s_O ["sign","left","right"] a.f_O a.aiZ
 d_P:cK K mg "is_so" s_P ["sign","left","right"] a.f_P a.ai0
 YS:cK K mg "unary_result" abA ["sign","number"] a.ah9 a.adf
 YT:cK K mg "function_result" abB ["name","numbers"] a.aia a.adg
 YU:cK K mg "decides" abC ["strength","number"] a.aib a.adh
 d_Q:cK K mg "decided_value" s_Q ["strength"] a.f_Q a.ai1
 YV:eM K a.LR "__init__" "Task.__init__" abD ["self","exp"] a.acK a.adi
 YW:eM K a.GY "__init__" "Worker.__init__" abE ["self"] a.acL a.adj
 Vo:eM K a.GY "take_step" "Worker.take_step" abF ["self"] a.aic a.adk
 Wg:eM K a.GY "set_value" "Worker.set_value" abG ["self","name","value"] a.aid a.adl
 YX:eM K a.GY "value_of" "Worker.value_of" abH ["self","name"] a.aie a.adm
 Wh:eM K a.GY "begin" "Worker.begin" abI ["self","exp"] a.aif a.adn
 YY:eM K a.GY "finish" "Worker.finish" abJ ["self","value"] a.aih a.ado
 YZ:eM K a.GY "work_out" "Worker.work_out" abK ["self","exp"] a.aii a.adp
 d_2:cK K mg "go_on" s_2 ["worker","exp","parts"] a.f_2 a.adq
 d_3:cK K mg "go_on_call" s_3 ["worker","call","parts"] a.f_3 a.ads
 d_4:cK K mg "go_on_unary" s_4 ["worker","unary","parts"] a.f_4 a.adt
 d_5:cK K mg "go_on_chain" s_5 ["worker","chain","parts"] a.f_5 a.adu
 d_6:cK K mg "go_on_deciding" s_6 ["worker","chain","parts"] a.f_6 a.adv
 d_7:cK K mg "go_on_reckoning" s_7 ["worker","chain","parts"] a.f_7 a.adw
 Y0:cK K mg "checked_result" abL ["sign","left","right"] a.aij a.adx
 d_w:cK K mg "not_too_great" s_w ["value"] a.f_w a.ai2
 d_8:cK K mg "go_on_choice" s_8 ["worker","choice","parts"] a.f_8 a.ady
 d_9:cK K mg "go_on_sum" s_9 ["worker","summed","parts"] a.f_9 a.adz
 aey:cK K mg "go_on_turns" abM ["worker","summed","parts"] a.acM a.W9
 aez:eM K a.JB "__init__" "Market.__init__" abN ["self","zones","quarters","low","high"] a.acN a.adA
 Y1:eM K a.FV "__init__" "Expansion.__init__" abO ["self","market"] a.acO a.adB
 d_R:cK K mg "expand_tops" s_R ["market","tops"] a.f_R a.ai3
 Y2:cK K mg "do_top" abP ["expansion","top"] a.aik a.adC
 d_x:cK K mg "give_value" s_x ["worker","given"] a.f_x a.ai4
 Wi:cK K mg "do_statements" s_k ["expansion","statements"] a.f_k a.ai5
 d_S:cK K mg "do_statement" s_S ["expansion","statement"] a.f_S a.ai6
 d_y:cK K mg "do_for" s_y ["expansion","loop"] a.f_y a.ai7
 d_B:cK K mg "do_if" s_B ["expansion","condition"] a.f_B a.ai8
 Y3:cK K mg "need_range" abQ ["number","least","most"] a.ail a.adD
 Y4:cK K mg "do_step" abR ["expansion","step"] a.aim a.adE
 d_T:cK K mg "add_order" s_T ["expansion","order"] a.f_T a.ai9
 Y5:cK K mg "do_block" abS ["expansion","block"] a.ain a.adF
 d_C:cK K mg "work_out_amounts" s_C ["expansion","amounts"] a.f_C a.aja
 Y6:cK K mg "parent_of" abT ["expansion","block"] a.aio a.adG
 Y7:cK K mg "add_block" abU ["expansion","name","order"] a.aip a.adH
 d_D:eM K a.IA "__init__" "Token.__init__" s_D ["self","kind","value","line","column"] a.f_D a.ajb
 d_e:cK K mg "is_digit" s_e ["byte"] a.f_e a.ajc
 d_h:cK K mg "is_letter" s_h ["byte"] a.f_h a.ajd
 d_E:cK K mg "comment_end" s_E ["text","at"] a.f_E a.aje
 d_F:cK K mg "word_end" s_F ["text","at"] a.f_F a.ajf
 d_G:cK K mg "digits_end" s_G ["text","at"] a.f_G a.ajg
 d_H:cK K mg "token_end" s_H ["text","at"] a.f_H a.ajh
 d_I:cK K mg "token_kind" s_I ["text","at","end"] a.f_I a.aji
 d_r:cK K mg "decimal_worth" s_r ["part"] a.f_r a.ajj
 d_s:cK K mg "token_value" s_s ["kind","part"] a.f_s a.ajk
 d_i:cK K mg "scan_text" s_i ["text"] a.f_i a.ajl
 Y8:eM K a.FX "__init__" "Reader.__init__" abV ["self","tokens"] a.acP a.adI
 Vp:eM K a.FX "current" "Reader.current" s_a ["self"] a.f_a a.ajm
 Vq:eM K a.FX "fail" "Reader.fail" s_b ["self","kind"] a.f_b a.ajn
 d_p:eM K a.FX "sees" "Reader.sees" s_p ["self","value"] a.f_p a.ajo
 Y9:eM K a.FX "at_end" "Reader.at_end" abW ["self"] a.aiq a.adJ
 Za:eM K a.FX "at_number" "Reader.at_number" abX ["self"] a.air a.adK
 d_U:eM K a.FX "at_name" "Reader.at_name" s_U ["self"] a.f_U a.ajp
 Zb:eM K a.FX "number_follows" "Reader.number_follows" abY ["self"] a.ais a.adL
 d_t:eM K a.FX "take" "Reader.take" s_t ["self"] a.f_t a.ajq
 Zc:eM K a.FX "expect" "Reader.expect" abZ ["self","value"] a.ait a.adM
 Zd:eM K a.FX "skips" "Reader.skips" ab0 ["self","value"] a.aiu a.adN
 d_z:eM K a.FX "need_name" "Reader.need_name" s_z ["self"] a.f_z a.ajr
 Ze:eM K a.FX "take_free_name" "Reader.take_free_name" ab1 ["self"] a.aiv a.adO
 Zg:eM K a.FX "take_name_not_in" "Reader.take_name_not_in" ab2 ["self","given"] a.aiw a.adP
 Zh:eM K a.FX "learn" "Reader.learn" ab3 ["self","name"] a.aix a.adQ
 Wj:eM K a.FX "forget" "Reader.forget" ab4 ["self","name"] a.aiy a.adR
 d_f:cK K mg "deeper" s_f ["reader","depth"] a.f_f a.ajs
 RM:cK K mg "read_exp" s_c ["reader","depth"] a.f_c a.adS
 Wl:cK K mg "read_choice" ab5 ["reader","depth"] a.aiz a.adT
 Xb:cK K mg "read_chain" s_u ["reader","depth","strength"] a.f_u a.ajt
 VX:cK K mg "read_unary" s_l ["reader","depth"] a.f_l a.aju
 Wm:cK K mg "read_primary" ab6 ["reader","depth"] a.aiA a.adU
 Wn:cK K mg "read_brackets" ab7 ["reader","depth"] a.aiB a.adV
 Wo:cK K mg "read_sum" ab8 ["reader","depth"] a.aiC a.adW
 d_V:cK K mg "read_call" s_V ["reader","depth"] a.f_V a.ajv
 Zi:cK K mg "refuse_here" ab9 ["reader","sign"] a.aiD a.adX
 d_j:cK K mg "read_sheet" s_j ["text"] a.f_j a.ajw
 Wq:cK K mg "read_top" aca ["reader"] a.aiE a.adY
 Wr:cK K mg "read_const" acb ["reader"] a.aiF a.adZ
 Xc:cK K mg "read_given" s_q ["reader"] a.f_q a.ajx
 Ws:cK K mg "read_fun" acd ["reader"] a.aiG a.ad0
 Zj:cK K mg "read_parameters" ace ["reader","function"] a.aiH a.ad1
 Zk:cK K mg "read_parameter" acf ["reader","function"] a.aiI a.ad2
 Wt:cK K mg "read_desk" acg ["reader"] a.aiJ a.ad3
 VY:cK K mg "read_braces" s_m ["reader","depth"] a.f_m a.ajy
 Wu:cK K mg "read_statement" ach ["reader","depth"] a.aiK a.ad4
 d_W:cK K mg "read_let" s_W ["reader"] a.f_W a.ad5
 Zl:cK K mg "deeper_braces" aci ["reader","depth"] a.aiL a.ad6
 Wv:cK K mg "read_for" acj ["reader","depth"] a.aiM a.ad7
 Ww:cK K mg "read_if" ack ["reader","depth"] a.aiN a.ad8
 Zm:cK K mg "read_side" acm ["reader"] a.aiO a.ad9
 Wx:cK K mg "read_part" s_n ["reader","word"] a.f_n a.ajz
 d_A:cK K mg "read_part_if_there" s_A ["reader","word"] a.f_A a.ajA
 d_X:cK K mg "read_step" s_X ["reader"] a.f_X a.aea
 d_Y:cK K mg "read_block" s_Y ["reader"] a.f_Y a.aeb
 Wy:cK K mg "read_amounts" acn ["reader"] a.aiP a.aec
 Zn:cK K mg "read_under_name" aco ["reader"] a.aiQ a.aed
 d_J:cK K mg "is_text" s_J ["text"] a.f_J a.ajB
 d_Z:cK K mg "is_price" s_Z ["price"] a.f_Z a.ajC
 Zo:cK K mg "is_market" acp ["zones","quarters","low","high"] a.aiR a.aee
 d_g:cK K mg "need" s_g ["as_told"] a.f_g a.ajD
 Zp:cK K mg "expanded" acq ["zones","quarters","low","high","text"] a.aiS a.aef
 d_d:cK K mg "steps" s_d ["zones","quarters","low","high","text"] a.f_d a.Vk
 O0:gA K a.La
 Uj:Mk K a.La a.acr
 MZ:ao K a.La "worth"
 Q3:gA K a.Nh
 Wz:Mk K a.Nh a.acs
 Ou:ao K a.Nh "name"
 PY:gA K a.MS
 WA:Mk K a.MS a.acu
 Ov:ao K a.MS "name"
 Md:ao K a.MS "arguments"
 Ox:gA K a.Ke
 Vr:Mk K a.Ke a.acv
 NV:ao K a.Ke "sign"
 MC:ao K a.Ke "operand"
 ME:gA K a.Jj
 Vs:Mk K a.Jj a.acw
 KC:ao K a.Jj "strength"
 Me:ao K a.Jj "operands"
 Nj:ao K a.Jj "signs"
 O2:gA K a.JO
 Uk:Mk K a.JO a.acx
 LC:ao K a.JO "condition"
 MF:ao K a.JO "chosen"
 LD:ao K a.JO "otherwise"
 O3:gA K a.Ni
 Zq:Mk K a.Ni a.acy
 Pq:ao K a.Ni "name"
 Oy:ao K a.Ni "first"
 Pu:ao K a.Ni "last"
 Pw:ao K a.Ni "body"
 Q4:gA K a.Lb
 Zr:Mk K a.Lb a.acz
 Nk:ao K a.Lb "name"
 P8:ao K a.Lb "exp"
 O4:gA K a.Mz
 Zs:Mk K a.Mz a.acA
 Px:ao K a.Mz "name"
 Oz:ao K a.Mz "first"
 Py:ao K a.Mz "last"
 Mf:ao K a.Mz "statements"
 RN:gA K a.PN
 aeA:Mk K a.PN a.acB
 M0:ao K a.PN "condition"
 MG:ao K a.PN "statements"
 KR:ao K a.PN "else_statements"
 LJ:gA K a.Km
 WB:Mk K a.Km a.acC
 OA:ao K a.Km "side"
 OB:ao K a.Km "zone"
 M3:ao K a.Km "quarter"
 NW:ao K a.Km "price"
 K0:ao K a.Km "to_price"
 Nl:ao K a.Km "amount"
 N6:gA K a.Kq
 SV:Mk K a.Kq a.acD
 M4:ao K a.Kq "name"
 Nm:ao K a.Kq "exp"
 J9:gA K a.Jb
 Vt:Mk K a.Jb a.acE
 NX:ao K a.Jb "name"
 NY:ao K a.Jb "side"
 NZ:ao K a.Jb "zone"
 Np:ao K a.Jb "price"
 MH:ao K a.Jb "amounts"
 Nq:ao K a.Jb "under"
 LS:ao K a.Jb "group"
 P9:gA K a.LI
 Vu:Mk K a.LI a.acF
 N0:ao K a.LI "name"
 OC:ao K a.LI "exp"
 Qa:gA K a.NS
 Zu:Mk K a.NS a.acG
 Pz:ao K a.NS "name"
 Mg:ao K a.NS "parameters"
 Qb:ao K a.NS "exp"
 Q5:gA K a.MT
 WC:Mk K a.MT a.acH
 Q6:ao K a.MT "name"
 LU:ao K a.MT "statements"
 Q7:gA K a.HI
 Q8:Mk K a.HI a.acI
 OD:ao K a.HI "desk"
 OE:ao K a.HI "zone"
 Nr:ao K a.HI "quarter"
 OF:ao K a.HI "side"
 O5:ao K a.HI "low"
 OG:ao K a.HI "high"
 NJ:ao K a.HI "amount"
 Qz:gA K a.Ho
 QA:Mk K a.Ho a.acJ
 N7:ao K a.Ho "desk"
 N8:ao K a.Ho "zone"
 N9:ao K a.Ho "side"
 NK:ao K a.Ho "price"
 NL:ao K a.Ho "group"
 Nt:ao K a.Ho "parent"
 M6:ao K a.Ho "amounts"
 OH:gA K a.LR
 WD:Mk K a.LR a.acK
 PB:ao K a.LR "exp"
 Mq:ao K a.LR "parts"
 Hw:gA K a.GY
 Ul:Mk K a.GY a.acL
 Kh:ao K a.GY "taken"
 JZ:ao K a.GY "functions"
 Jk:ao K a.GY "scopes"
 Ia:ao K a.GY "tasks"
 K3:ao K a.GY "result"
 QO:gA K a.JB
 Um:Mk K a.JB a.acN
 Lm:ao K a.JB "zones"
 Kp:ao K a.JB "quarters"
 Mr:ao K a.JB "low"
 KD:ao K a.JB "high"
 G9:gA K a.FV
 Q9:Mk K a.FV a.acO
 LF:ao K a.FV "market"
 J1:ao K a.FV "worker"
 J2:ao K a.FV "orders"
 KG:ao K a.FV "desk"
 Jz:ao K a.FV "named"
 HU:gA K a.IA
 RO:Mk K a.IA a.f_D
 JF:ao K a.IA "kind"
 IP:ao K a.IA "value"
 Ms:ao K a.IA "line"
 Ln:ao K a.IA "column"
 Fy:gA K a.FX
 Uo:Mk K a.FX a.acP
 K4:ao K a.FX "tokens"
 JY:ao K a.FX "at"
 JC:ao K a.FX "known"
 HV:ao K a.FX "functions"
 Lo:ao K a.FX "desks"
 Jl:ao K a.FX "blocks"
 Vv: ∃t,mg "EITHER"=some (.int 0 t)
 SW: ∃t,mg "BOTH"=some (.int 1 t)
 Ra: ∃t,mg "COMPARISON"=some (.int 2 t)
 WE: ∃t,mg "SELLS"=some (.int 0 t)
 Zv: ∃t,mg "BUYS"=some (.int 1 t)
 SX: ∃t,mg "GREATEST"=some (.int 1000000000000000000 t)
 Rc: ∃t,mg "MOST_STEPS"=some (.int 10000 t)
 QB: ∃t,mg "MOST_ORDERS"=some (.int 48 t)
 N3: ∃t,mg "MOST_AMOUNT"=some (.int 1000000000 t)
 QC: ∃t,mg "MOST_SPREAD"=some (.int 10000 t)
 Rf: ∃t,mg "MOST_GROUP"=some (.int 9 t)
 SY: ∃t,mg "WORD"=some (.int 0 t)
 OI: ∃t,mg "NUMBER"=some (.int 1 t)
 Vw: ∃t,mg "SIGN"=some (.int 2 t)
 Xd: ∃t,mg "END"=some (.int 3 t)
 OJ: ∃t,mg "WRONG"=some (.int 4 t)
 Qc: ∃t,mg "LONGEST_WORD"=some (.int 24 t)
 O6: ∃t,mg "LONGEST_NUMBER"=some (.int 18 t)
 PD: ∃t,mg "LINE_FEED"=some (.int 10 t)
 Uq: ∃t,mg "COMMENT"=some (.int 35 t)
 Vx:mg "BLANKS"=some (.ref a.RH)
 Rg:mg "SIGNS"=some (.ref a.Jy)
 S6: ∃t,mg "SPELLING"=some (.str "0123456789:;<=>?@ABCDEFGHIJKLMNOPQRSTUVWXYZ[\\]^_`abcdefghijklmnopqrstuvwxyz" t)
 QD: ∃t,mg "WRONG_TOKEN"=some (.int 1 t)
 Oa: ∃t,mg "NOT_HERE"=some (.int 2 t)
 PF: ∃t,mg "NOT_KNOWN"=some (.int 3 t)
 Ob: ∃t,mg "NOT_FREE"=some (.int 4 t)
 RP: ∃t,mg "ARGUMENTS"=some (.int 5 t)
 Qg: ∃t,mg "TOO_DEEP"=some (.int 6 t)
 Qh: ∃t,mg "TOO_MANY"=some (.int 7 t)
 RQ:mg "KEY_WORDS"=some (.ref a.Pl)
 Mh:mg "FIRST_FUNCTIONS"=some (.ref a.GC)
 QF: ∃t,mg "MOST_LEVELS"=some (.int 12 t)
 N4:mg "CHAIN_SIGNS"=some (.ref a.Hz)
 QG: ∃t,mg "MOST_BRACES"=some (.int 6 t)
 O7: ∃t,mg "MOST_FUNCTIONS"=some (.int 6 t)
 OK: ∃t,mg "MOST_PARAMETERS"=some (.int 6 t)
 Qi: ∃t,mg "LONGEST_TEXT"=some (.int 3000 t)
 Rh: ∃t,mg "MOST_ZONES"=some (.int 6 t)
 PQ: ∃t,mg "MOST_QUARTERS"=some (.int 4 t)
 OL: ∃t,mg "MOST_PRICE"=some (.int 1000000 t)
 Vy:o0 K a.RH [.int 9, .int 10, .int 13, .int 32]
 RR:o0 K a.Pl [.str "const", .str "fun", .str "desk", .str "let", .str "for", .str "in", .str "if", .str "then", .str "else", .str "sell", .str "buy", .str "zone", .str "quarter", .str "price", .str "to", .str "amount", .str "block", .str "under", .str "group", .str "sum"]
 RT:mg "Exception"=none
 Xe:mg "abs"=none
 aeB:mg "all"=none
 Vz:mg "dict"=none
 LK:mg "isinstance"=none
 JP:mg "len"=none
 aeC:mg "max"=none
 aeD:mg "min"=none
 WG:mg "range"=none
 aeE:mg "sum"=none
 Ri:mg "tuple"=none
 aeF:mg "zip"=none
variable {P:Fz}{w:Ga}{K:EF}{mg:Fh->ET EH}{base:Gn}{a:bf}
abbrev nb (c:Io):Int:=(c.toNat:Int)
def kb (c:Io):a0:=Ji (nb c)
def dW:EA (EA a0×V):=F6.map fun s=>(s.map kb,V.str (dG s))
structure BC (K:EF) (R:EJ) (m:Fh) (f:EJ):Prop where
 sp:Om K (.ref R) "__getattribute__"=some (some (.builtin "type.__getattribute__"))
 ty:Ve K (.ref R)=some (.type "type")
 rd:PySem.W.readsIn K R (.type "type")=true
 fc:UL K (.ref R) (.type "type") m=some (.val (.ref f))
 kp:HR K (.ref f)=true
structure XT (K:EF) (a:bf):Prop where
 fc:dA K a.GB a.Hd a.f_1
 rm:BC K a.GB "__init__" a.f_o
structure CV (P:Fz) (w:Ga) (K:EF) (a:EJ) (aC:EA (a0×V)):Prop where
 at_: ∃vs:EA (a0×EH),(∀h:Gn,K.In h->h.DictOf (aT P w) a vs)/\KV aC vs
 len:aC.length<=FE
 no:(a == HN)=false
def dq:EA (a0×V):=[(.inr "min", .int 2),(.inr "max", .int 2),(.inr "abs", .int 1)]
end OS
namespace OS
open PySem PySem.Spec L2
open PyProof.Rows hiding St
variable {P:Fz}{w:Ga}{K:EF}{mg:Fh->ET EH}{base:Gn}{a:bf}
structure XW (K:EF) (a:bf):Prop extends XT K a where
 Lq:dA K a.GB a.IW a.f_L
 Oc:dA K a.GB a.Ko a.f_M
 MU:dA K a.GB a.JW a.YH
 MV:dA K a.GB a.JX a.YI
 Lr:dA K a.GB a.IX a.YJ
 Od:dA K a.GB a.KZ a.YK
def zk (a:bf):EA EJ:=[a.La,a.Nh,a.MS,a.Ke,a.Jj,a.JO,a.Ni,a.Lb,a.Mz,a.PN,a.Km,a.Jb,a.LI,a.NS,a.MT]
structure lW (K:EF) (a:bf):Prop where
 ty: ∀C∈zk a,zD K C
 kit:((zk a).map fun C=>(zk a).map fun D=>Hy K (.ref C) (.ref D))=(IS 15).map fun i=>(IS 15).map fun j=>some (decide (i=j))
end OS
namespace OS
open PySem PySem.Spec L2
open PyProof.Rows hiding St
variable {P:Fz}{w:Ga}{K:EF}{mg:Fh->ET EH}{base:Gn}{a:bf}
def zu (K:EF) (ad:EJ) (rows:EA (EA V)):Prop:= ∃qs:EA EJ,o0 K ad (qs.map V.ref)/\Paired (fun q xs=>o0 K q xs) qs rows
def di:EA (EA V):=[[.str "||"],[.str "&&"],[.str "==", .str "!=", .str "<=", .str ">=", .str "<", .str ">"],[.str "+", .str "-"],[.str "*", .str "/", .str "/rest"]]
end OS
namespace OS
open PySem PySem.Spec L2
open PyProof.Rows hiding St
variable {P:Fz}{w:Ga}{K:EF}{mg:Fh->ET EH}{base:Gn}{a:bf}


def lN (zs:EA Int):EA V:=zs.map V.int
structure XN (K:EF) (a:bf):Prop extends XW K a where
 Nu:dA K a.GB a.Lc a.YG
inductive jU (K:EF) (vs:EA V) (H:Hp) (Q:VK) (_E:XK):Prop
 |mk (z t lo hi:Int) (l:EJ) (zs:EA Int) (_:vs=[.int z, .int t, .int lo, .int hi, .ref l]) (_:cP K H l (lN zs)) (_:zs.length<=4000) (_: ∀(H':Hp) (p:EJ),H' p=some (.lst (lN (Ky z t lo hi zs)))->Q (.ref p) H'):jU K vs H Q _E
def dOf:Data->EA NG
 | .dict es _=>es.toList
 |_=>[]
theorem Zw (h:dOf d=e::r): ∃es ep,d= .dict es ep/\es.toList=e::r:=by
 cases d with
 |dict es n=>exact#[es,n,rfl,h]
 |_=>cases h
noncomputable def RU (K:EF) (a:EJ):EA NG:=((K.lookup a).map fun o=>if o.cls= .type "dict"/\o.dict=none/\o.slots.size=0 then dOf o.data else []).getD []
theorem ww {K:EF}{a:EJ}(h:RU K a=e::r): ∃o es ep,K.lookup a=some o/\o.ExactDict/\o.data= .dict es ep/\es.toList=e::r:=by
 unfold RU at h;cases q:K.lookup a with
 |none=>rw[q] at h;cases h
 |some o=>
  rw[q] at h;have h:(if o.cls= .type "dict"/\o.dict=none/\o.slots.size=0 then dOf o.data else [])=e::r:=h
  by_cases c:o.cls= .type "dict"/\o.dict=none/\o.slots.size=0
  ·rw[EL c] at h
   obtain⟨es,n,h1,h2⟩:=Zw h;exact#[o,es,n,rfl,#[c.1,c.2.1,IQ.eq_empty_of_size_eq_zero c.2.2],h1,h2]
  ·rw[EI c] at h
   cases h
section
variable {a:EJ}
theorem C6 {mg:Fh->ET EH}(X:K.In h) (G:h.Ns N mg) (e:Jv K N n=some (some v)):mg n=some v:=by
 obtain⟨o,es,ep,ho,hd,_,hf⟩:=G;unfold Jv at e;rw[022]
 ·rename_i c d es' n' sl q
  have:=X _ _ q;rw[ho] at this;cases this;cases hd;rw[022]
  ·rename_i en he
   cases e;rw[<-hf];unfold nsFind findBy;rw[<-T8,he]
   rfl
  ·split at e<;>cases e
 ·cases e
def iOf:EH->ET Int
 | .int i _=>some i
 |_=>none
def xOf:EH->ET Fh
 | .str i _=>some i
 |_=>none
def rOf:EH->ET EJ
 | .ref i=>some i
 |_=>none
theorem vh (h:iOf v=some i): ∃t,v= .int i t:=by
 cases v with
 |int j t=>cases h;exact#[t,rfl]
 |_=>cases h
theorem vg (h:xOf v=some i): ∃t,v= .str i t:=by
 cases v with
 |str j t=>cases h;exact#[t,rfl]
 |_=>cases h
theorem zK (h:rOf v=some i):v= .ref i:=by
 cases v with
 |ref j=>cases h;rfl
 |_=>cases h
abbrev su {A:Type}(f:EH->ET A) (l:EA EH):ET (EA A):=l.mapM f
abbrev mJ:=su iOf
abbrev mG:=su xOf
abbrev uN:=su rOf
theorem iD {A B:Type}{f:EH->ET A}{g:A->B}{R:B->EH->Prop}(hf: ∀v x,f v=some x->R (g x) v): ∀ {vs:EA EH}{l:EA A},su f vs=some l->Paired R (l.map g) vs
 |[],l,h=>by cases h;exact .nil
 |v::r,l,h=>by
  rw[su,EA.mapM_cons] at h;cases e:f v with
  |none=>rw[e] at h;cases h
  |some x=>
   cases q:r.mapM f with
   |none=>rw[e,q] at h;cases h
   |some l'=>rw[e,q] at h;cases h;exact .cons (hf v x e) (iD hf q)
def qOf:Data->ET (IQ EH)
 | .seq Hc _=>some Hc
 |_=>none
theorem Zy (h:qOf d=some Hc): ∃n,d= .seq Hc n:=by
 cases d with
 |seq es n=>cases h;exact#[n,rfl]
 |_=>cases h
noncomputable def LV (K:EF) (a:EJ):ET (EA EH):=(K.lookup a).bind fun o=>(qOf o.data).bind fun Hc=>if o.cls= .type "tuple"/\Hc.size<=1000 then some Hc.toList else none
theorem ro (h:LV K a=some l): ∃o Hc n,K.lookup a=some o/\o.cls= .type "tuple"/\o.data= .seq Hc n/\Hc.size<=FE/\Hc.toList=l:=by
 obtain⟨o,h1,h⟩:=HK.mp h;obtain⟨Hc,h2,h⟩:=HK.mp h;obtain⟨n,h2⟩:=Zy h2;by_cases c:o.cls= .type "tuple"/\Hc.size<=1000
 ·rw[EL c] at h
  exact#[o,Hc,n,h1,c.1,h2,Fj c.2 [01],E5 h]
 ·rw[EI c] at h
  cases h
theorem sO (h:mJ vs=some l):aX (l.map V.int) vs:=iD (fun _ _ e=>vh e) h
theorem tJ (h:mG vs=some l):aX (l.map V.str) vs:=iD (fun _ _ e=>vg e) h
theorem sk (h:uN vs=some l):aX (l.map V.ref) vs:=iD (fun _ _ e=>zK e) h
theorem qv (h:LV K a=some vs) (v:aX xs vs):o0 K a xs:=by
 obtain⟨o,Hc,n,h1,h2,h3,h4,h5⟩:=ro h;exact#[o,Hc,n,h1,h2,h3,h4,by rw[h5];exact v]
theorem Ad (h:(LV K a).bind mJ=some l):o0 K a (l.map V.int):=by
 cases e:LV K a with
 |none=>rw[e] at h;cases h
 |some vs=>rw[e] at h;exact qv e (sO h)
theorem tK (h:(LV K a).bind mG=some l):o0 K a (l.map V.str):=by
 cases e:LV K a with
 |none=>rw[e] at h;cases h
 |some vs=>rw[e] at h;exact qv e (tJ h)
noncomputable def TH (K:EF) (e:NG):ET (Int×EA Int×Fh):=(rOf e.key).bind fun p=>(xOf e.val).bind fun x=>((LV K p).bind mJ).map fun l=>(e.hash,l,x)
theorem B8 (z:TH K e=some (h,l,x)): ∃p t,e.key= .ref p/\e.val= .str x t/\e.hash=h/\(LV K p).bind mJ=some l:=by
 obtain⟨p,h1,z⟩:=HK.mp z;obtain⟨x',h2,z⟩:=HK.mp z;obtain⟨l',h3,z⟩:=FG.mp z;cases z;obtain⟨t,h2⟩:=vg h2;exact#[p,t,zK h1,h2,rfl,h3]
theorem Ab (h:Paired (fun k v=>(aT P w).is k v=true) ks vs):ItemsAre (aT P w) ks vs:=by
 induction h with
 |nil=>exact .nil
 |cons h _ i=>exact .cons h i
theorem zh (h:mJ vs=some l):ItemsAre (aT P w) (l.map fun i=>(Ji i:a0)) vs:=
 Ab (iD (f:=iOf) (g:=fun i=>(Ji i:a0)) (fun v i e=>by
  obtain⟨t,rfl⟩:=vh e;exact Gr i) h)
theorem wK: ∀ {es:EA NG}{L:EA (EA Int×Fh)},es.map (TH K)=(L.map fun p=>some (U1 (aT P w) (p.1.map fun i=>(Ji i:a0)),p.1,p.2))->
  ∃xs:EA (EA a0×EJ×EH),Paired (fun(p:EA a0×V) (q:EA a0×EJ×EH)=>p.1=q.1/\bh p.2 q.2.2) (L.map fun p=>(p.1.map fun i=>(Ji i:a0),V.str p.2)) xs/\es=xs.map (entryOfKey (MM (aT P w)))/\(xs.map (·.1))=(L.map fun p=>p.1.map fun i=>(Ji i:a0))/\ ∀h:Gn,K.In h-> ∀x∈xs,(MM (aT P w)).is h x.1 x.2.1
 |[],[],_=>#[[], .nil,rfl,rfl,fun _ _ _ z=>nomatch z]
 |[],_::_,h=>by cases h
 |_::_,[],h=>by cases h
 |e::es,p::L,h=>by
  rw[Fe,Fe] at h;obtain⟨h1,h2⟩:=IZ h;obtain⟨xs,k1,k2,k3,k4⟩:=wK h2;obtain⟨q,t,e1,e2,e3,e4⟩:=B8 h1;refine#[(p.1.map fun i=>Ji i,q, .str p.2 t)::xs, .cons #[rfl,#[t,rfl]] k1,?_,by rw[Fe,Fe,k3],fun hp hK y hy=>?_]
  ·rw[Fe,<-k2]
   congr 1
   obtain⟨eh,ek,ev⟩:=e;cases e1;cases e2;cases e3
   rfl
  ·rcases EW.mp hy with rfl|hy
   ·cases z:LV K q with
    |none=>rw[z] at e4;cases e4
    |some vs=>
     rw[z] at e4;obtain⟨o,Hc,n,g1,g2,g3,g4,g5⟩:=ro z;exact#[o,Hc,n,hK _ _ g1,g2,g3,by rw[g5];exact zh e4]
   ·exact k4 hp hK y hy
theorem Zz {L:EA (EA Int×Fh)}(ne:L≠[]) (h:(RU K a).map (TH K)=(L.map fun p=>some (U1 (aT P w) (p.1.map fun i=>(Ji i:a0)),p.1,p.2))) (nd:(L.map fun p=>p.1.map fun i=>(Ji i:a0)).Nodup) (no:(a == HN)=false):
  zt P w K a (L.map fun p=>(p.1.map fun i=>(Ji i:a0),V.str p.2)):=by
 obtain⟨xs,k1,k2,k3,k4⟩:=wK (P:=P) (w:=w) h;cases he:RU K a with
 |nil=>rw[he] at h;exact E7 (EA.map_eq_nil_iff.mp h.symm) ne
 |cons e r=>
  obtain⟨o,es,ep,lk,ex,od,el⟩:=ww he;refine#[#[xs,fun hp hK=>#[o,es,ep,hK a o lk,ex,od,by rw[el,<-he];exact k2,k4 hp hK,by rw[k3];exact nd],k1],no]
def Xf:EA (EA Int×Fh):=F6.map fun s=>(s.map nb,dG s)
theorem zF:dW=Xf.map fun p=>(p.1.map fun i=>(Ji i:a0),V.str p.2):=by decide+kernel
theorem DE {mg:Fh->ET EH}{a:bf}(_:aU K mg a) (e:(RU K a.Jy).map (TH K)=(Xf.map fun p=>some (U1 (aT P w) (p.1.map fun i=>(Ji i:a0)),p.1,p.2))) (no:(a.Jy == HN)=false):zt P w K a.Jy dW:=by
 rw[zF];exact Zz [00] e [00] no
theorem iq {A:Type}{C:EA A->Prop}{us:EA A}(h:us.length=n+1) (k: ∀a r,r.length=n->C (a::r)):C us:=by
 cases us with
 |nil=>cases h
 |cons a r=>exact k a r (QK h)
theorem v0 {A:Type}{C:EA A->Prop}{us:EA A}(h:us.length=0) (k:C []):C us:=by
 cases us with
 |nil=>exact k
 |cons a r=>cases h
theorem v1 {A:Type}{C:EA A->Prop}{us:EA A}(h:us.length=1) (k: ∀a,C [a]):C us:=iq h fun a r h=>v0 (C:=fun r=>C (a::r)) h (k a)
theorem v2 {A:Type}{C:EA A->Prop}{us:EA A}(h:us.length=2) (k: ∀a b,C [a,b]):C us:=iq h fun a r h=>v1 (C:=fun r=>C (a::r)) h (k a)
theorem v3 {A:Type}{C:EA A->Prop}{us:EA A}(h:us.length=3) (k: ∀a b c,C [a,b,c]):C us:=iq h fun a r h=>v2 (C:=fun r=>C (a::r)) h (k a)
theorem v4 {A:Type}{C:EA A->Prop}{us:EA A}(h:us.length=4) (k: ∀a b c d,C [a,b,c,d]):C us:=iq h fun a r h=>v3 (C:=fun r=>C (a::r)) h (k a)
theorem v5 {A:Type}{C:EA A->Prop}{us:EA A}(h:us.length=5) (k: ∀a b c d e,C [a,b,c,d,e]):C us:=iq h fun a r h=>v4 (C:=fun r=>C (a::r)) h (k a)
theorem v6 {A:Type}{C:EA A->Prop}{us:EA A}(h:us.length=6) (k: ∀a b c d e f,C [a,b,c,d,e,f]):C us:=iq h fun a r h=>v5 (C:=fun r=>C (a::r)) h (k a)
theorem v7 {A:Type}{C:EA A->Prop}{us:EA A}(h:us.length=7) (k: ∀a b c d e f g,C [a,b,c,d,e,f,g]):C us:=iq h fun a r h=>v6 (C:=fun r=>C (a::r)) h (k a)
theorem v8 {A:Type}{C:EA A->Prop}{us:EA A}(h:us.length=8) (k: ∀a b c d e f g h,C [a,b,c,d,e,f,g,h]):C us:=iq h fun a r h=>v7 (C:=fun r=>C (a::r)) h (k a)
theorem u0 {fd:FL}{ps:EA Fh}{us:EA EH}(h:us.length=0) (k:GQ fd #[[],[]]=pure (ps.zip [])):GQ fd #[us,[]]=pure [018]:=v0 (C:=fun us=>GQ fd #[us,[]]=pure [018]) h k
theorem u1 {fd:FL}{ps:EA Fh}{us:EA EH}(h:us.length=1) (k: ∀a,GQ fd #[[a],[]]=pure (ps.zip [a])):GQ fd #[us,[]]=pure [018]:=v1 (C:=fun us=>GQ fd #[us,[]]=pure [018]) h k
theorem u2 {fd:FL}{ps:EA Fh}{us:EA EH}(h:us.length=2) (k: ∀a b,GQ fd #[[a,b],[]]=pure (ps.zip [a,b])):GQ fd #[us,[]]=pure [018]:=v2 (C:=fun us=>GQ fd #[us,[]]=pure [018]) h k
theorem u3 {fd:FL}{ps:EA Fh}{us:EA EH}(h:us.length=3) (k: ∀a b c,GQ fd #[[a,b,c],[]]=pure (ps.zip [a,b,c])):GQ fd #[us,[]]=pure [018]:=v3 (C:=fun us=>GQ fd #[us,[]]=pure [018]) h k
theorem u4 {fd:FL}{ps:EA Fh}{us:EA EH}(h:us.length=4) (k: ∀a b c d,GQ fd #[[a,b,c,d],[]]=pure (ps.zip [a,b,c,d])):GQ fd #[us,[]]=pure [018]:=v4 (C:=fun us=>GQ fd #[us,[]]=pure [018]) h k
theorem u5 {fd:FL}{ps:EA Fh}{us:EA EH}(h:us.length=5) (k: ∀a b c d e,GQ fd #[[a,b,c,d,e],[]]=pure (ps.zip [a,b,c,d,e])):GQ fd #[us,[]]=pure [018]:=v5 (C:=fun us=>GQ fd #[us,[]]=pure [018]) h k
theorem u6 {fd:FL}{ps:EA Fh}{us:EA EH}(h:us.length=6) (k: ∀a b c d e f,GQ fd #[[a,b,c,d,e,f],[]]=pure (ps.zip [a,b,c,d,e,f])):GQ fd #[us,[]]=pure [018]:=v6 (C:=fun us=>GQ fd #[us,[]]=pure [018]) h k
theorem u7 {fd:FL}{ps:EA Fh}{us:EA EH}(h:us.length=7) (k: ∀a b c d e f g,GQ fd #[[a,b,c,d,e,f,g],[]]=pure (ps.zip [a,b,c,d,e,f,g])):GQ fd #[us,[]]=pure [018]:=v7 (C:=fun us=>GQ fd #[us,[]]=pure [018]) h k
theorem u8 {fd:FL}{ps:EA Fh}{us:EA EH}(h:us.length=8) (k: ∀a b c d e f g h,GQ fd #[[a,b,c,d,e,f,g,h],[]]=pure (ps.zip [a,b,c,d,e,f,g,h])):GQ fd #[us,[]]=pure [018]:=v8 (C:=fun us=>GQ fd #[us,[]]=pure [018]) h k
theorem Dg {h:Gn}{mg:Fh->ET EH}(X:K.In h) (G:h.Ns ID mg) {x:Fh}{st:Stmt}{ps:EA Fh}{f:EJ}{oc:EH}{od an:ET EJ}{sl:IQ (ET EH)}{kV doc pm cd ct:EH}
  (a:Jv K ID x=some (some (.ref f))) (l:K.lookup f=some #[oc,od, .func (HB x x (dN st) (a7 st) (af st) .none kV doc pm an cd ct),sl]) (c:KA K cd x=true) (k:HR K (.ref f)=true)
  (hb: ∀(kV doc pm:EH) (an:ET EJ) (Gp ct:EH) (us:EA EH),us.length=ps.length->GQ (HB x x (dN st) (a7 st) (af st) .none kV doc pm an Gp ct) #[us,[]]=pure [018]):
  ∃fd,cK K mg x st ps f fd/\ ∀(s:EM) (us:EA EH),us.length=ps.length->Se s fd #[us,[]] [018]:=#[_,#[kE (st:=st) l c k,Fm X G a,k,(kE (st:=st) l c k).binds hb],fun s us hu=> .of_eq (hb _ _ _ _ _ _ us hu)]
theorem aD {h:Gn}{mg:Fh->ET EH}(X:K.In h) (G:h.Ns ID mg) {x:Fh}{st:Stmt}{ps:EA Fh}{f:EJ}{oc:EH}{od an:ET EJ}{sl:IQ (ET EH)}{kV doc pm cd ct:EH}
  (z:Jv K ID x=some (some (.ref f))/\K.lookup f=some #[oc,od, .func (HB x x (dN st) (a7 st) (af st) .none kV doc pm an cd ct),sl]/\KA K cd x=true/\HR K (.ref f)=true)
  (hb: ∀(kV doc pm:EH) (an:ET EJ) (Gp ct:EH) (us:EA EH),us.length=ps.length->GQ (HB x x (dN st) (a7 st) (af st) .none kV doc pm an Gp ct) #[us,[]]=pure [018]):
  cK K mg x st ps f (HB x x (dN st) (a7 st) (af st) .none kV doc pm an cd ct):=#[kE (st:=st) z.2.1 z.2.2.1 z.2.2.2,Fm X G z.1,z.2.2.2,(kE (st:=st) z.2.1 z.2.2.1 z.2.2.2).binds hb]
theorem aH {x q:Fh}{st:Stmt}{ps:EA Fh}{C f:EJ}{oc:EH}{od an:ET EJ}{sl:IQ (ET EH)}{kV doc pm cd ct:EH}
  (z:Hh K (.ref C) x=some (some (.ref f))/\Oq K (.ref f)=true/\K.lookup f=some #[oc,od, .func (HB x q (dN st) (a7 st) (af st) .none kV doc pm an cd ct),sl]/\KA K cd q=true/\HR K (.ref f)=true)
  (hb: ∀(kV doc pm:EH) (an:ET EJ) (Gp ct:EH) (us:EA EH),us.length=ps.length->GQ (HB x q (dN st) (a7 st) (af st) .none kV doc pm an Gp ct) #[us,[]]=pure [018]):
  eM K C x q st ps f (HB x q (dN st) (a7 st) (af st) .none kV doc pm an cd ct):=#[kE (st:=st) z.2.2.1 z.2.2.2.1 z.2.2.2.2,#[z.1,z.2.1,z.2.2.2.2],(kE (st:=st) z.2.2.1 z.2.2.2.1 z.2.2.2.2).binds hb]
end
section
variable {a:EJ}
def cOf:Data->ET ClassData
 | .cls c=>some c
 |_=>none
theorem ZA (h:cOf d=some c):d= .cls c:=by
 cases d with
 |cls c=>cases h;rfl
 |_=>cases h
theorem six {A:Type}{l:IQ A}{x:A}(h:l.toList.length=6):l.toList[4]?=some x-> ∃a b c d f,l= [a,b,c,d,x,f].toArray:=by
 obtain⟨l⟩:=l;exact v6 (C:=fun l=>l[4]?=some x-> ∃a b c d f,(#[l]:IQ A)= [a,b,c,d,x,f].toArray) h fun a b c d e f z=>by cases z;exact#[a,b,c,d,f,rfl]
noncomputable def ZC (K:EF) (C:EJ) (u:EA EJ):ET EJ:=(K.lookup C).bind fun o=>(cOf o.data).bind fun cd=>
 if o.cls= .type "type"/\cd.mro= .ref C::(u.map Fq++cT)/\cd.hasDict=true/\cd.hasDel=false/\o.slots.toList.length=6/\o.slots.toList[4]?=some (some (.builtin "Exception.__new__")) then some cd.ns else none
theorem vQ (q:ZC K C u=some N) (X:K.In h):XO h C N (u.map Fq++cT):=by
 obtain⟨o,h1,q⟩:=HK.mp q;obtain⟨cd,h2,q⟩:=HK.mp q;split at q
 ·rename_i g
  obtain⟨g1,g2,g3,g4,g5,g6⟩:=g;cases q;obtain⟨k0,k1,k2,k3,k5,g5⟩:=six g5 g6;have h2:=ZA h2;obtain⟨nm,bs,mro,ns,qn,hd,sn,sub,ab,col,CS⟩:=cd;obtain⟨cl,dd,da,sl⟩:=o;cases g1;cases g2;cases g3;cases g4;cases h2;cases g5;exact#[nm,qn,bs,sn,sub,ab,col,dd,k0,k1,k2,k3,k5,X _ _ h1]
 ·cases q
theorem fX {mg:Fh->ET EH}(_:K.In h0) (_:mg x=some (.ref C)) (_:mg "Refusal"=some (.ref R)) (l:ZC K C [R]=some N)
  (HH:Vf K N=true) (hi:Jv K N "__init__"=some (some (.ref fI))) (hq:(c8.map fun n=>Jv K N n)=c8.map fun _=>some none) (lI:((K.lookup fI).map fun o=>o.cls)=some (.type "function")) (kp:HR K (.ref C)=true)
  (lR:ZC K R []=some NR) (aeG:Vf K NR=true) (hqR:(c8.map fun n=>Jv K NR n)=c8.map fun _=>some none):dA K R C fI:=by
 obtain⟨oI,lI,cI⟩:=FG.mp lI;refine#[fun h X=>?_,kp];have ns:h.Ns N (h.nsMap N):= .of_isNs (SM X HH);have nR:h.Ns NR (h.nsMap NR):= .of_isNs (SM X aeG);have all: ∀ {M:EJ},(c8.map fun n=>Jv K M n)=(c8.map fun _=>some none)-> ∀n∈c8,Jv K M n=some none:=fun e=>EA.map_inj_left.mp e
 exact#[N,h.nsMap N,oI,NR,h.nsMap NR,vQ l X,ns,C6 X ns hi,fun n hn=>Qt X HH (all hq n hn),X _ _ lI,cI,vQ lR X,nR,fun n hn=>Qt X aeG (all hqR n hn)]
end
def vR (e:NG):ET (Int×Fh×Int):=(xOf e.key).bind fun x=>(iOf e.val).map fun i=>(e.hash,x,i)
theorem CK (z:vR e=some (h,x,i)): ∃t u,e.key= .str x t/\e.val= .int i u/\e.hash=h:=by
 obtain⟨x',h1,z⟩:=HK.mp z;obtain⟨i',h2,z⟩:=FG.mp z;cases z;obtain⟨t,h1⟩:=vg h1;obtain⟨u,h2⟩:=vh h2;exact#[t,u,h1,h2,rfl]
section
variable {a:EJ}
theorem wR: ∀ {es:EA NG}{L:EA (Fh×Int)},es.map vR=(L.map fun p=>some (hashStr w p.1,p.1,p.2))->
  ∃vs:EA (a0×EH),KV (L.map fun p=>((Hu p.1:a0),V.int p.2)) vs/\PySem.Pairs (aT P w) es vs/\(vs.map (·.1))=(L.map fun p=>(Hu p.1:a0))/\ ∀e∈es,∃k,(aT P w).is k e.key=true/\e.hash=(aT P w).hash k
 |[],[],_=>#[[], .nil, .nil,rfl,fun _ z=>nomatch z]
 |[],_::_,h=>by cases h
 |_::_,[],h=>by cases h
 |e::es,p::L,h=>by
  rw[Fe,Fe] at h;obtain⟨h1,h2⟩:=IZ h;obtain⟨vs,k1,k2,k3,k4⟩:=wR h2;obtain⟨t,u,e1,e2,e3⟩:=CK h1;have is:(aT P w).is (Hu p.1) e.key=true:=by rw[e1];show Oh p.1 (.str p.1 t)=true;simp [Oh]
  refine#[(Hu p.1, .int p.2 u)::vs, .cons #[rfl,#[u,rfl]] k1, .cons is e2 k2,by rw[Fe,Fe,k3],fun y hy=>?_];rcases EW.mp hy with rfl|hy
  ·exact#[Hu p.1,is,e3]
  ·exact k4 y hy
theorem ZD {p:Fh×Int}{L:EA (Fh×Int)}(h:(RU K a).map vR=((p::L).map fun p=>some (hashStr w p.1,p.1,p.2))) (nd:((p::L).map (·.1)).Nodup) (len:(p::L).length<=FE) (no:(a == HN)=false):
  CV P w K a ((p::L).map fun p=>((Hu p.1:a0),V.int p.2)):=by
 obtain⟨vs,k1,k2,k3,k4⟩:=wR (P:=P) h;cases he:RU K a with
 |nil=>rw[he] at h;cases h
 |cons e r=>
  obtain⟨o,es,ep,lk,ex,od,el⟩:=ww he;rw[he,<-el] at k2;rw[he] at k4;refine#[#[vs,fun hp hK=>#[o,es,ep,hK a o lk,ex,od,fun y hy=>k4 y (by rw[<-el];exact SI.mpr hy),k2,?_],k1],by rw[EY];exact len,no];rw[k3,Fe];rw[show(fun p:Fh×Int=>(Hu p.1:a0))=(fun x=>Hu x) ∘ (fun p:Fh×Int=>p.1) from rfl];rw[show(Hu p.1:a0)::L.map ((fun x=>(Hu x:a0)) ∘ fun p=>p.1)=((p::L).map (·.1)).map (fun x=>(Hu x:a0)) by rw[Fe,Fe,Jg]];exact EA.Pairwise.map (fun x=>(Hu x:a0)) (fun _ _ h z=>h (Ja z)) nd
theorem wL: ∀ {qs:EA EJ}{rows:EA (EA Fh)},(qs.map fun q=>(LV K q).bind mG)=rows.map some->Paired (fun q xs=>o0 K q xs) qs (rows.map fun r=>r.map V.str)
 |[],[],_=> .nil
 |[],_::_,h=>by cases h
 |_::_,[],h=>by cases h
 |q::qs,r::rows,h=>by
  rw[Fe,Fe] at h;obtain⟨h1,h2⟩:=IZ h;exact .cons (tK h1) (wL h2)
theorem ZE {qs:EA EJ}{rows:EA (EA Fh)}(h:(LV K a).bind uN=some qs) (h2:(qs.map fun q=>(LV K q).bind mG)=rows.map some):zu K a (rows.map fun r=>r.map V.str):=by
 cases e:LV K a with
 |none=>rw[e] at h;cases h
 |some vs=>rw[e] at h;exact#[qs,qv e (sk h),wL h2]
theorem Dx {mg:Fh->ET EH}{a:bf}(_:aU K mg a) (e:(RU K a.GC).map vR=(([("min",2),("max",2),("abs",1)]:EA (Fh×Int)).map fun p=>some (hashStr w p.1,p.1,p.2))) (no:(a.GC == HN)=false):CV P w K a.GC dq:=ZD (p:=("min",2)) (L:=[("max",2),("abs",1)]) e [00] [01] no
theorem Dl {mg:Fh->ET EH}{a:bf}(_:aU K mg a) (e:(((LV K a.Hz).bind uN).map fun qs=>qs.map fun q=>(LV K q).bind mG)=some (([["||"],["&&"],["==","!=","<=",">=","<",">"],["+","-"],["*","/","/rest"]]:EA (EA Fh)).map some)):zu K a.Hz di:=by
 obtain⟨qs,e1,e2⟩:=FG.mp e;exact ZE e1 e2
end
theorem aeH (_:aU K mg a) (c:BC K a.GB "__init__" a.f_o) (x0:dA K a.GB a.Hd a.f_1) (x1:dA K a.GB a.IW a.f_L) (x2:dA K a.GB a.Ko a.f_M) (x3:dA K a.GB a.JW a.YH) (x4:dA K a.GB a.JX a.YI) (x5:dA K a.GB a.IX a.YJ) (x6:dA K a.GB a.KZ a.YK) (x7:dA K a.GB a.Lc a.YG):XN K a:=#[#[#[x0,c],x1,x2,x3,x4,x5,x6],x7]
def yZ (K:EF):EA EJ->Prop
 |[]=>True
 |C::l=>zD K C/\yZ K l
theorem rn {C:EJ} : ∀ {l:EA EJ},yZ K l->C∈l->zD K C
 |D::l,h,m=>by
  rcases EW.mp m with z|z
  ·rw[z];exact h.1
  ·exact rn h.2 z
theorem Cd:yZ K []:=trivial
theorem bU (h:zD K C) (t:yZ K l):yZ K (C::l):=#[h,t]
theorem ZF {a:bf}(t:yZ K (zk a)) (kit:((zk a).map fun C=>(zk a).map fun D=>Hy K (.ref C) (.ref D))=(IS 15).map fun i=>(IS 15).map fun j=>some (decide (i=j))):lW K a:=#[fun C h=>rn t h,kit]
end OS
set_option maxHeartbeats 0 in
inductive PySem.W.Fast|tw6974696554852351628|tw11465262380026530085|tw17566605699814158901|tw767053742490192274|tw2721203481419681383|tw5326422548053520253|tw3101713952721482898|tw7618330041097363584|tw16422517597492016308|tw9735733411004528924|tw9104243900971958194|tw13038173578366633668|tw17337086160722495614|tw2128594517655763824|tw17035703046183322850|tw14760148283948447159|tw12190177592776438033|tw6547546799538474994|tw15427995346470963569|tw16452960051804497795|tw3533997663903152675|tw1986474715056340295|tw1297662878533595027|tw14103447069359133975|tw10813568304796345533|tw6366608552651669958|tw17879439167773206944|tw10399341611419646156|tw3345972774013358373|tw2101235523078360676|tw7564442192972249080|tw12112006272394088342|tw2114572400355726971|tw11776764363543038743|tw8885548186582366460|tw5711999090986289336|tw7693096902889189698|tw5224761200299687006|tw10138800087232610707|tw5430310247480353336|tw7994718013525580993|tw9745688727825779967|tw12336333532876627519|tw7650403452765372530|tw6685450026255998791|tw15939320612822590788|tw18358272940808936262|tw8664240078877117573|tw339596131235172298|tw185540678100047957|tw2293243432104424825|tw15681717870255010219|tw5596566225495195005|tw591390710817921523|tw771317861046157562|tw30815120070980466|tw18066087553070028857|tw1360402833787245888|tw2699411932227457444|tw15584818009317146443|tw11391600435910351222|tw13641069965382144689|tw3612789619295811419|tw10348203404658158764|tw8004608418805671884|tw13146923259408199248|tw14596711072268124078|tw9972481782394881637|tw9972462321472133271|tw1309106303869736807|tw9087425530108827670|tw2864783824885483132|tw8921093729656330724|tw5188394623788646328|tw10510418274118129730|tw17853561929573878323|tw4998434815306887058|tw726616418493371604|tw3611723453875361005|tw9971997348038816572|tw9400473237738557174|tw16528240107122017557|tw7556802158934717079|tw3351195239740728643|tw9171972995495725395|tw3740770418114780142|tw16132509220612384811|tw15445688832030098581|tw14844124692365495372|tw1653725402320283995|tw3241011859445356724|tw6191246187526524400|tw5677070392986353902|tw2948222223935160106|tw17867430558673576740|tw5512213551369212941|tw1091512293310900269|tw4529953207041958291|tw1461773131735002569|tw10152004864738692091|tw1550776211818863012|tw15965135506787489358|tw15588569587374078318|tw8581606275839478649|tw9309137013236139208|tw3668040723587018140|tw6511630432790203852|tw7068904397000839758|tw16081168646634152332|tw5290967411700902423|tw11781925554900476192|tw11390771378992955211|tw1020061590325759002|tw4109618407225220178|tw10048091863412126891|tw7213494784661735215|tw7913214715863757570|tw13166823108817951058|tw708759064702667059|tw8135713549346849176|tw13489787337650999629|tw1493260857578212150|tw15327282301261349617|tw12716971896563257570|tw15006510294993163514|tw2057183094168081371|tw8298397783379066813|tw6689995498953319888|tw195639152210884055|tw18320054171372202194|tw2387382865187296769|tw7913818665297725450|tw12447513483148276436|tw5868836673314102453|tw15205995453137874707|tw9410726534764131963|tw7967452623138090567|tw16161875529509359767|tw13914342197109180706|tw1144057274081704962|tw17390841409782607806|tw1601700356488929925|tw10460751160439562551|tw14377698572624007504|tw18059880555860582476|tw8323432625621305877|tw981810899589205924|tw17581690657479533168|tw18299358274850088139|tw7468242286452269798|tw4779576886826720030|tw9507104916814734190|tw6093819548366316425|tw14595089253670774264|tw10685552123827601688|tw10908702752165291297|tw6731047297758748690|tw16188295686965623896|tw5800328349192012165|tw5524147348311068246|tw537943918729129421|tw14146460989071262785|tw15301476200113603212|tw3070062977338661787|tw9074451754034414462|tw18169351153293614482|tw465546616782116998|tw6747250123368850170|tw4715122662848140505|tw17501996510963066585|tw6850466353467538872|tw11620733446084599140|tw14489763127451462199|tw5173291649433909278|tw17036973246032160889|tw15391573557256250521|tw16569221689559942009|tw3345878717138660396|tw12774590685978045215|tw13830131940412977825|tw13552508108251349173|tw5687556369298235244|tw8465091591410055124|tw5546508534336822153|tw17744122913263204085|tw11353565863698157957|tw11364483933824204509|tw5563242478615023905|tw17402237741010803762|tw11635894226234846442|tw3263629475507932417|tw14957670083187164752|tw937683945458234059|tw10538850884570124858|tw6072219723182469857|tw12134070687236387242|tw14428488593921487818|tw17537121343740744340|tw3064789048932713745|tw154457570205322505|tw14137861114786536904|tw8810875686541963813|tw364684637543813384|tw3448395960541815026|tw17810141871073099492|tw3962750027250613902|tw4566730338086504614|tw5868101852194822690|tw15539322244625204257|tw9673041984883223496|tw17407832139216743327|tw2784366803108825358|tw12378942385574215270|tw1573753645553433079|tw2773798728525234291|tw14720024034376593979|tw4927482761382820028|tw12392529481414253227|tw17408084079597075262|tw7155648908594429168|tw15115931413594987335|tw7369421666470006152|tw15661722903941246935|tw2244008833096759222|tw17807647176081172440|tw1977476214511769573|tw3799132898798457393|tw13832700602451523031|tw697662537208603454|tw9847158981155946461|tw2720522213202277383|tw205643565088356075|tw12164877400873175113|tw8944597044649121136|tw12607334655294744125|tw6366730386164662813|tw10761112499320063314|tw17203456781828247804|tw14492662250815095992|tw13607172508184565190|tw5515446419743381827|tw14120674156817905266|tw17213555507604603853|tw4035690404945409180|tw11515616744907198887|tw7973016040012110909|tw14861319827364239046|tw1499960120019439316|tw13015439731422229746|tw15284570878949116342|tw17107644656292985290|tw2984342840016680351|tw15313404301431601781|tw13117262185415128445|tw1766235718995067083|tw7548516685779566479|tw9534796473365158604|tw3741572909462056621|tw16214574561654833430|tw17504746874536460721|tw3275697983783193495|tw16304879699508136269|tw13137580803088604781|tw6917317377726269921|tw3733319885405699171|tw926303741331132138|tw3456729474240490735|tw5933427302642634842|tw3727197020162687900|tw6197755954043501142|tw1854497206046879948|tw10090991588593655230|tw10272547781357635130|tw16424033785227540174|tw1049297113862099905|tw12332673825422845563|tw15706154311742884753|tw1990823805085307055|tw7645675689195513160|tw10954287094914704952|tw5649035300222482749|tw4496815094742290868|tw17644845065176475308|tw1888012340667688324|tw4329893946944946403|tw3629808641327752943|tw12320428075004386879|tw6801154961278812750|tw3344026304106651402|tw17951708630492986868|tw13441792444498079049|tw12423539582997464081|tw14660635329066197203|tw10866909145659026590|tw16800775871865269541|tw8732541880691455575|tw11794440631334782225|tw11498366790747599022|tw8796465982172057555|tw13930042020391934970|tw7747708763277877033|tw14487208299778040245|tw3716362442261081993|tw5343548201574624381|tw10119566664715652320|tw1624720936430251614|tw2099365564378996892|tw18363782374844614389|tw9881316217148515542|tw5286445715809729031|tw16428282848337969337|tw7201806734281476627|tw17907439601761660785|tw6976012748268769985|tw7935964587789358774|tw7812256322914821375|tw3018018742236388730|tw15614307117405397281|tw7888773188904114091|tw16188768286880082598|tw16741506615092899655|tw6118032431345333092|tw17438405433112547005|tw9568231761187245728|tw12285062300600627956|tw7138052700374049033|tw10198018849978883714|tw5885509957605836722|tw15690706006464732144|tw12690822118476239235|tw14898000949775680214|tw18363331032116347817|tw9330905757533438632|tw4836752848926254028|tw5322445002788205250|tw8331002755321757130|tw888911112300918226|tw1377829608864334641|tw11846241355799487781|tw4166910745352056651|tw8493578247085897829|tw4273336673841489060|tw18198259707928110897|tw2590935139699214515|tw9879877167045810768|tw11188146662200315005|tw4385005661892988854|tw14637704426364130894|tw10773354321213415101|tw7796626061633581557|tw4555256247859990753|tw5897528038549658819|tw11136533887039404133|tw8782724642174756471|tw16507279584643232493|tw14594310289104043324|tw5796914028461113387|tw14251158642248826375|tw2659679921996593005|tw12353254386261957076|tw7261440963274203142|tw18335753282125467904|tw11488264929523498049|tw14052481035384133176|tw13480689939659700709|tw7614788603953512888|tw9468571418492656385|tw15584740322462308253|tw421543441076948847|tw213021714402082489|tw1469693907083581957|tw5437541163988565528|tw803941825268991267|tw13675442710506573693|tw514074608835375679|tw7477090161183701159|tw1311712304620869339|tw6770215171330808629|tw1608082077085288784|tw5625586495548305059|tw2486369500830646724|tw8107795683710126385|tw17008348349807842724|tw13085170882278619023|tw11817693586006539098|tw6425184519401602396|tw3207672259999197386|tw10611342528665427309|tw11572930105919411912|tw2314358471635466901|tw6801304487987086709|tw12131799972977064974|tw9535977362551882001|tw4475798961995099971|tw13163874534261711970|tw16067483559126768436|tw6076126693231779400|tw9452202785753191379|tw5633700912088558403|tw5191694711023669557|tw1478528697426629561|tw11851885254864752058|tw14771251571108240727|tw17038040622094788178|tw18200544498857819119|tw10596662641634947296|tw1153416968898571693|tw14506206914906242097|tw11409896687112429014|tw4490789802767219841|tw3335859399662512226|tw286242913390474679|tw3703757814500222760|tw9469444766396611008|tw10946056970582322949|tw2632080968123448961|tw11457556938295795170|tw12636244380029516522|tw9967343986697571810|tw10570362880661006354|tw1592796038869731197|tw13060205539275791216|tw4089902311330492931|tw12855410333767678156|tw4073688350286201390|tw10673066652328527293|tw6888073801594141656|tw14497684386512228378|tw4350806030386940287|tw4176957475822283527|tw13360120149643795527|tw13288658748871089143|tw16303746528508560941|tw8689253390868645854|tw9129366518227583571|tw9669366011530241919|tw5287445546778295088|tw16902285242527940906|tw6452407695606654359|tw3147773105114475922|tw17851934798672026656|tw785046077209643409|tw4959217440703943575|tw5434472568974188514|tw12450987143497709183|tw11591463098791849001|tw14870575777412053682|tw14830556947581255082|tw16724420376308795566|tw676271356276644187|tw7189773188773422072|tw5799049189659594007|tw10573738122944461641|tw5893189626401081552|tw10507623540353288921|tw530247136175164915|tw12404434618806285420|tw15551628363098533765|tw9667193952009579586|tw9321206793614422212|tw9902961179240176371|tw15847730265099819195|tw3891350850865342141|tw15509940974076246417|tw2075573982420195362|tw16088297794274876557|tw14284973143653794601|tw3188965083471695088|tw7319688316597330246|tw16342235789791651767|tw1700226463477585695|tw15584182304110094579|tw2797088416998336897|tw6979997190486324366|tw6673203029636148067|tw11782139730998868315|tw6663911238605352680|tw5030791273541251596|tw3510026278158004224|tw17553012718313940907|tw751727984368296630|tw300626733567563761|tw3036932292506288649|tw744408991406084721|tw4485627440613004646|tw7196493801575052141|tw13298249909133843509|tw10314092821290891604|tw9968660540463536612|tw17141872684604196372|tw1315919657545986417|tw9073345238528405127|tw4467690995160444506|tw10805710202574592071|tw17574110641439207144|tw7974536292468119052|tw5196049963838221092|tw16917725531403410017|tw4505790879425342394|tw15391973707106821602|tw9731918553918518190|tw17529258956074934286|tw5501486043075752370|tw6748676980723020343|tw5818145516178471750|tw7528143623199997950|tw16258057059658989294|tw108738298093806064|tw3144786474194404967|tw16074972515496941951|tw1102604834772257368|tw5035928234942083499|tw8531582269786310059|tw11719491793262653316|tw12333180858081575099|tw2579367184861327012|tw4223499288552204105|tw5978854351928839297|tw5118062124763547972|tw7864326086155077378|tw13146992526340050163|tw11941671034812326145|tw6487608209910942348|tw1864610349582043617|tw15923080888821381418|tw14128133850102727484|tw10824932506291894421|tw10806455552072049075|tw16266819351087633630|tw14714013116014485386|tw14979895010352973179|tw2136663961028826036|tw9287867883566591377|tw13546219926136297613|tw4666233846708688606|tw12780987293277768860|tw10861430775418774050|tw7893056127136505536|tw6652170019818956272|tw16663200579925665921|tw17415132106151252100|tw9548389265989195582|tw11765516505854593528|tw15448677850367595557|tw6157608207601270745|tw8008375357333578890|tw8652287183914496819|tw14828404327971746123|tw15412092588494471719|tw8427815548295503015|tw16690116423895029294|tw9618398518850246284|tw7684543503271228248|tw7446825926220243997|tw15299091683928204310|tw15330813068574423596|tw9904949958301640691|tw6494010941879026026|tw10265464306785707440|tw13858055777245602330|tw14772066764306131651|tw10959228826820739064|tw11760335384636916685|tw13105187195867851988|tw14564796378355467004|tw18077544387988612161|tw3793614107145138030|tw3515565369469705877|tw5789840397221225460|tw11769002245810188898|tw7794019798971355944|tw10038038746697597116|tw1992023488003923113|tw4733696456866288795|tw13809841220806234677|tw14630373048013098653|tw1311958358353064276|tw8310916235155059508|tw4598968990409520367|tw3457157243788170468|tw16215214657553934610|tw11047283662766009452|tw9761280863680897066|tw9832345612300963674|tw13331834819471870999|tw17822818426524487024|tw16242732961017789748|tw9377369007473747280|tw4105841272556761400|tw7385716209507319352|tw4287223618874363328|tw13459178232239939069|tw5089913930634865753|tw221688597062926430|tw10827681205203616989|tw866035979127224312|tw9421996502496344769|tw922613346384217623|tw3273793361869684717|tw1414753687997126141|tw5843011787212113218|tw3000510737766519989|tw11180110956999223957|tw594905204785922004|tw7994788311425641591|tw18316904861741447590|tw1964495808810845583|tw1157906709704334970|tw6649320014641154890|tw12993195574595187452|tw4320928450443459590|tw6671348392765378344|tw5751238002744471694|tw8643481830817471870|tw8500902977836727523|tw6523885974614983165|tw13032807937007990380|tw8101825442683645178|tw14612323738795816140|tw15427516195646908745|tw8873369581323970786|tw11111116825688168599|tw13041303351933600061|tw9503289835871158504|tw15642531303990078685|tw5841532880449761957|tw8397490943452871254|tw5954236087741973362|tw8610623106135970623|tw13844076752308572366|tw2919937653725533118|tw16131020323894860940|tw10697104852297554737|tw2339754455289754498|tw17568297926522977299|tw9421314034989492184|tw4102386705979760916|tw711019276554751200|tw12088124113939765500|tw14101533874443546608|tw3099777956256603554|tw1029915932131095405|tw3164053350961260798|tw18080937313871845078|tw812401521920423694|tw7125387740694262642|tw15795516673926068998|tw10191987741770136824|tw2524017375386172731|tw14835884364167966104|tw15276025850082671760|tw9151680280573249086|tw16966893757668314929|tw8302314875894849987|tw14852322868990542461|tw12825851354723389579|tw17087762010749638376|tw16374604192490291628|tw10517296981994869027|tw4117928081825204142|tw17094119960656019914|tw17458123161944743841|tw6801348096594519743|tw11146915288694329447|tw5990108858323064350|tw15338300829194269315|tw3868419232493806379|tw7537824771720713229|tw11277167437841128118|tw8461992447289193120|tw14644554967198977854|tw3148692710363566365|tw12871855087702209114|tw13148208817212350734|tw5387982018217317954|tw10697594234111972357|tw4262400042142020671|tw7304997594322346723|tw12710429649156619521|tw5794249789072464959|tw14806160091242210877|tw10920399590664849868|tw15970743011318421995|tw11731356305776045665|tw5322787790410017063|tw13782358884491729137|tw3207345083789973246|tw10398218887961022635|tw18269161428412771625|tw16660417202156947881|tw15198916508999597597|tw18126722418697989720|tw11014677519905183963|tw3431451689847200807|tw8044341948367909908|tw6231349572275443856|tw8351468593528413778|tw13179973422206244435|tw4999602618956312789|tw11333347721475918614|tw3482753363320180295|tw5619861793567848799|tw4502771350760739332|tw11141414509470489384|tw7704007113799696873|tw4919682586175757506
section
open PySem PySem.W PyProof.Rows
set_option hygiene false
local macro_rules
|`(tactic|o_headS ($_ $k $a $e))=>`(tactic|o_headS ((OS.hook $k $a $e):PySem.W.Hook))
local macro_rules
|`(?hc)=>`(OS.ap Z ?hcc)
|`([0x0])=>`((by kernel_rfl))
|`([0x1])=>`(#[_,Fm KX G (by exact rfl)])
|`([0x3])=>`(OS.noAttr (by kernel_rfl))
|`([0x4])=>`(#[by kernel_rfl,by kernel_rfl,by kernel_rfl,by kernel_rfl])
|`([0x5])=>`(#[by exact rfl,by exact rfl,by kernel_rfl,by kernel_rfl])
|`([0x6])=>`(#[by exact rfl,by kernel_rfl,by exact rfl,by kernel_rfl,by kernel_rfl])
|`([0x2])=>`(#[by kernel_rfl,by kernel_rfl,by kernel_rfl,by kernel_rfl,by kernel_rfl])
def OS.Zt:Prop:= ∀ {P:Fz}{w:Ga}{K:EF}{mg:Fh->ET EH}{base:Gn}{a:OS.bf}(_:OS.aU K mg a) (_:OS.XN K a) (_:OS.zt P w K a.Jy OS.dW) (_:OS.CV P w K a.GC OS.dq) (_:OS.zu K a.Hz OS.di) (_:OS.lW K a),L2.bS P w K mg base L2.wX 180 a.f_d a.Vk ["zones","quarters","low","high","text"] (OS.jU K)
theorem OS.noAttr {K:EF}{C:EJ}{f:Fh}(h:Hh K (.ref C) f=some none):L2.ao K C f:=h
theorem OS.ap {P:Prop}(z:OS.Zt) (h:OS.Zt->P):P:=h z
set_option maxRecDepth 100000 in
set_option maxHeartbeats 0 in
theorem OS.hd (Z:OS.Zt):PySem.Challenge.rw_ordersheets_s06_steps.Holds:=by
 have W:=OS.aa9
 w_on;k_headS;(case hw=>exact#[[.int 0, .int 0, .int 0, .int 0, .list []],by decide+kernel,by decide+kernel])
 k_fillS
 intro Z;refine L2.vk (r:=PySem.Challenge.rw_ordersheets_s06_steps) (k:=180) (CX:=L2.wX) (ps:=["zones","quarters","low","high","text"]) (sp:=OS.jU) [00] rfl rfl #[rfl,by decide,by decide] (fun w h Y=>OS.UQ Y) ?F ?S (fun _ _ _ _ z=>z)
 case F=>
  intro w mg fa h Y KX G hmg;obtain⟨Vk,d_d,ajE⟩:=OS.Dg (x:="steps") (st:=OS.s_d) (ps:=["zones","quarters","low","high","text"]) KX G [08] [08] [08] [08] [050];have T:OS.aU _ mg ⟨_,_,_,_,_,_,_,_,_,_,_,_,_,_,_,_,_,_,_,_,_,_,_,_,_,_,_,_,_,_,_,_,_,_,_,_,_,_,_,_,_,_,_,_,_,_,_,_,_,_,_,_,_,_,_,_,_,_,_,_,_,_,_,_,_,_,_,_,_,_,_,_,_,_,_,_,_,_,_,_,_,_,_,_,_,_,_,_,_,_,_,_,_,_,_,_,_,_,_,_,_,_,_,_,_,_,_,_,_,_,_,_,_,_,_,_,_,_,_,_,_,_,_,_,_,_,_,_,_,_,_,_,_,_,_,_,_,_,_,_,_,_,_,_,_,_,_,_,_,_,_,_,_,_,_,_,_,_,_,_,_,_,_,_,_,_,_,_,_,_,_,_,_,_,_,_,_,_,_,_,_,_,_,_,_,_,_,_,_,_,_,_,_,_,_,_,_,_,_,_,_,_,_,_,_,_,_,_,_,_,_,_,_,_,_,_,_,_,_,_,_,_,_,_,_,_,_,_,_,_,_,_,_,_,_,_,_,_,_,_,_,_,_,_,_,_,_,_,_,_,_,_,_,_,_,_,_,_,_,_,_,_,_,_,_,_,_,_,_,_,_,_,_,_,_,_,_,_,_,_,_,_,_,_,_,_,_,_,_,_,_,_,_,_,_,_,_,_,_,_,_,_,_,_,_,Vk⟩:=#[[006],[006],[006],[006],[006],[006],[006],[006],[006],[006],[006],[006],[006],[006],[006],[006],[006],[006],[006],[006],[006],[006],[006],[006],[006],[006],[006],[006],[006],[006],[006],[006],[006],[020],[020],[077],[077],(OS.aH [0x6] [051]),(OS.aH [0x6] [051]),(OS.aH [0x6] [050]),[077],(OS.aH [0x6] [050]),(OS.aH [0x6] [051]),(OS.aH [0x6] (fun _ _ _ _ _ _ us hl=>OS.u7 hl fun _ _ _ _ _ _ _=>[0x0])),[077],(OS.aH [0x6] (fun _ _ _ _ _ _ us hl=>OS.u8 hl fun _ _ _ _ _ _ _ _=>[0x0])),[077],(OS.aH [0x6] [051]),[077],(OS.aH [0x6] (fun _ _ _ _ _ _ us hl=>OS.u8 hl fun _ _ _ _ _ _ _ _=>[0x0])),(OS.aH [0x6] (fun _ _ _ _ _ _ us hl=>OS.u8 hl fun _ _ _ _ _ _ _ _=>[0x0])),[009],[020],[019],(OS.aH [0x6] [051]),[019],[019],[019],[019],[019],[019],[09],[014],[014],[09],[09],[09],[009],[020],[019],[019],[077],[020],[020],[020],[020],[014],[014],[014],[014],[014],[014],[014],[009],[014],[014],[014],(OS.aH [0x6] [050]),[020],[09],[09],[09],[09],[09],[09],[09],[014],[09],[09],[09],[09],[09],[014],(OS.aH [0x6] [050]),[009],[009],[09],[09],[09],[09],[014],[009],[09],[009],[020],[019],[020],[020],[019],[019],[019],[019],[019],[020],[020],[019],[019],[020],[020],[020],[09],[09],[09],[014],[09],[09],[09],[09],[09],[09],[009],[009],[009],[009],[009],[09],[09],[009],[09],[09],[009],[09],[09],[09],[009],[09],[09],[009],[009],[009],[009],[009],[009],(OS.aD KX G [0x5] [051]),[009],(OS.aD KX G [0x5] [050]),d_d,[0x4],[0x4],[0x3],[0x4],[0x4],[0x3],[0x4],[0x4],[0x3],[0x3],[0x4],[0x4],[0x3],[0x3],[0x4],[0x4],[0x3],[0x3],[0x3],[0x4],[0x4],[0x3],[0x3],[0x3],[0x4],[0x4],[0x3],[0x3],[0x3],[0x3],[0x4],[0x4],[0x3],[0x3],[0x4],[0x4],[0x3],[0x3],[0x3],[0x3],[0x4],[0x4],[0x3],[0x3],[0x3],[0x4],[0x4],[0x3],[0x3],[0x3],[0x3],[0x3],[0x3],[0x4],[0x4],[0x3],[0x3],[0x4],[0x4],[0x3],[0x3],[0x3],[0x3],[0x3],[0x3],[0x3],[0x4],[0x4],[0x3],[0x3],[0x4],[0x4],[0x3],[0x3],[0x3],[0x4],[0x4],[0x3],[0x3],[0x4],[0x4],[0x3],[0x3],[0x3],[0x3],[0x3],[0x3],[0x3],[0x4],[0x4],[0x3],[0x3],[0x3],[0x3],[0x3],[0x3],[0x3],[0x4],[0x4],[0x3],[0x3],[0x4],[0x4],[0x3],[0x3],[0x3],[0x3],[0x3],[0x4],[0x4],[0x3],[0x3],[0x3],[0x3],[0x4],[0x4],[0x3],[0x3],[0x3],[0x3],[0x3],[0x4],[0x4],[0x3],[0x3],[0x3],[0x3],[0x4],[0x4],[0x3],[0x3],[0x3],[0x3],[0x3],[0x3],[0x1],[0x1],[0x1],[0x1],[0x1],[0x1],[0x1],[0x1],[0x1],[0x1],[0x1],[0x1],[0x1],[0x1],[0x1],[0x1],[0x1],[0x1],[0x1],[0x1],[006],[006],[0x1],[0x1],[0x1],[0x1],[0x1],[0x1],[0x1],[0x1],[006],[006],[0x1],[006],[0x1],[0x1],[0x1],[0x1],[0x1],[0x1],[0x1],(OS.Ad (l:=[9,10,13,32]) [0x0]),(OS.tK (l:=["const","fun","desk","let","for","in","if","then","else","sell","buy","zone","quarter","price","to","amount","block","under","group","sum"]) [0x0]),[044],[044],[044],[044],[044],[044],[044],[044],[044],[044],[044],[044]]
  have kS:=OS.DE T (P:=PySem.Challenge.rw_ordersheets_s06_steps.prog) (w:=w) [0x0] rfl
  have kF:=OS.Dx T (P:=PySem.Challenge.rw_ordersheets_s06_steps.prog) (w:=w) [0x0] rfl
  have KT:=OS.Dl T [0x0]
  have XC:=OS.aeH T [0x2] (OS.fX KX T.P7 T.Hi [08] [0x0] [0x0] [0x0] [0x0] [0x0] [08] [0x0] [0x0]) (OS.fX KX T.MA T.Hi [08] [0x0] [0x0] [0x0] [0x0] [0x0] [08] [0x0] [0x0]) (OS.fX KX T.Pn T.Hi [08] [0x0] [0x0] [0x0] [0x0] [0x0] [08] [0x0] [0x0]) (OS.fX KX T.NT T.Hi [08] [0x0] [0x0] [0x0] [0x0] [0x0] [08] [0x0] [0x0]) (OS.fX KX T.NU T.Hi [08] [0x0] [0x0] [0x0] [0x0] [0x0] [08] [0x0] [0x0]) (OS.fX KX T.MB T.Hi [08] [0x0] [0x0] [0x0] [0x0] [0x0] [08] [0x0] [0x0]) (OS.fX KX T.Pp T.Hi [08] [0x0] [0x0] [0x0] [0x0] [0x0] [08] [0x0] [0x0]) (OS.fX KX T.Ot T.Hi [08] [0x0] [0x0] [0x0] [0x0] [0x0] [08] [0x0] [0x0]);cases hmg.symm.trans d_d.c.m;exact#[Vk,ajE,fun base _ _=>Z T XC kS kF KT (OS.ZF (OS.bU #[T.O0,[0x0],[0x0],[0x0],[0x0]] (OS.bU #[T.Q3,[0x0],[0x0],[0x0],[0x0]] (OS.bU #[T.PY,[0x0],[0x0],[0x0],[0x0]] (OS.bU #[T.Ox,[0x0],[0x0],[0x0],[0x0]] (OS.bU #[T.ME,[0x0],[0x0],[0x0],[0x0]] (OS.bU #[T.O2,[0x0],[0x0],[0x0],[0x0]] (OS.bU #[T.O3,[0x0],[0x0],[0x0],[0x0]] (OS.bU #[T.Q4,[0x0],[0x0],[0x0],[0x0]] (OS.bU #[T.O4,[0x0],[0x0],[0x0],[0x0]] (OS.bU #[T.RN,[0x0],[0x0],[0x0],[0x0]] (OS.bU #[T.LJ,[0x0],[0x0],[0x0],[0x0]] (OS.bU #[T.J9,[0x0],[0x0],[0x0],[0x0]] (OS.bU #[T.P9,[0x0],[0x0],[0x0],[0x0]] (OS.bU #[T.Qa,[0x0],[0x0],[0x0],[0x0]] (OS.bU #[T.Q5,[0x0],[0x0],[0x0],[0x0]] OS.Cd))))))))))))))) [0x0])]
 case S=>
  intro K H xs a hO hwi alK hx;cases hx with
  |cons h1 hx=>
  cases hx with
  |cons h2 hx=>
  cases hx with
  |cons h3 hx=>
  cases hx with
  |cons h4 hx=>
  cases hx with
  |cons h5 hx=>
  cases hx;cases h1;cases h2;cases h3;cases h4;cases h5 with
  |lst hs ha=>
   have e:=L2.xq a.2.2.2.2.1 _ ha;subst e
   let I:=Codec.inInt (-1000000000000000000) 1000000000000000000
   have q:(I a.1&&(I a.2.1&&(I a.2.2.1&&(I a.2.2.2.1&&((Codec.inLen 0 4000 a.2.2.2.2.1&&a.2.2.2.2.1.all I)&&true)))))=true:=hwi;simp only[Gh] at q;exact#[_,_,_,_,_,a.2.2.2.2.1,rfl,hs,(Codec.inNat_iff.mp q.2.2.2.2.1.1).2,fun H' p hp=> .lst (L2.cP.of hp) (L2.wJ _)]
end

namespace L2
open PySem PySem.Spec PyProof.Rows
theorem yf (i:Int) (t:Tok):jk (.inl i) (.int i t)=true:=by simp [jk,EH.isInt]
theorem yQ (x:Fh) (t:Tok):jk (.inr x) (.str x t)=true:=by simp [jk,Oh]
theorem tF (prog:Fz) (w:Ga) (i:Int) (t:Tok):(aT prog w).is (.inl i) (.int i t)=true:=yf i t
theorem rG (prog:Fz) (w:Ga) (x:Fh) (t:Tok):(aT prog w).is (.inr x) (.str x t)=true:=yQ x t
theorem aX.length {xs:EA V}(r:aX xs us):xs.length=us.length:=QJ r
theorem aX.get: ∀ {xs:EA V}{us:EA EH}{i:E1}{x:V},aX xs us->xs[i]?=some x-> ∃u,us[i]?=some u/\bh x u
 |_,_,_,_, .nil,e=>by simp at e
 |_,_,0,_, .cons r _,e=>by simp at e;subst e;exact#[_,rfl,r]
 |_,_,i+1,x, .cons _ t,e=>by
  obtain⟨u,h1,h2⟩:=aX.get (i:=i) (x:=x) t (by simpa using e);exact#[u,by simpa using h1,h2]
theorem aX.append: ∀ {xs ys:EA V}{us ws:EA EH},aX xs us->aX ys ws->aX (xs++ys) (us++ws)
 |_,_,_,_, .nil,s=>s
 |_,_,_,_, .cons r t,s=> .cons r (aX.append t s)
theorem aX.take: ∀ {xs:EA V}{us:EA EH}(n:E1),aX xs us->aX (xs.take n) (us.take n)
 |_,_,0,_=> .nil
 |_,_,_+1, .nil=> .nil
 |_,_,n+1, .cons r t=> .cons r (aX.take n t)
theorem aX.drop: ∀ {xs:EA V}{us:EA EH}(n:E1),aX xs us->aX (xs.drop n) (us.drop n)
 |_,_,0,r=>r
 |_,_,_+1, .nil=> .nil
 |_,_,n+1, .cons _ t=>aX.drop n t
def aF (H:Hp) (a:EJ) (o:HO):Hp:=fun b=>if b=a then some o else H b
theorem ae {H:Hp}{a:EJ}{o:HO} :aF H a o a=some o:=by unfold aF;rw[EL rfl]
theorem ac {H:Hp}{a b:EJ}{o:HO}(h:b≠a):aF H a o b=H b:=by unfold aF;rw[EI h]
theorem Ea {H:Hp}{a:EJ}{o u:HO} :aF (aF H a o) a u=aF H a u:=by
 funext b;unfold aF;split<;>rfl
theorem pZ {H:Hp}{a b:EJ}{o u:HO}(h:H a=some o) (h':H b=some u) (d:o≠u):a≠b:=by
 intro e;subst e;rw[h] at h';exact d (E5 h')
theorem ai {H:Hp}{a b:EJ}{o:HO}(h:H a=some o) (h':H b=none):a≠b:=by
 intro e;subst e;rw[h] at h';cases h'
section
variable {P:Fz}{w:Ga}{H H':Hp}{h h':Gn}{a:EJ}{o:HO}
theorem cw.lt (x:cw P w H h a o):a<h.objs.size:=by
 cases o with
 |lst xs=>obtain⟨_,_,_,_,e⟩:=x;exact Fn e
 |tup xs=>obtain⟨_,_,_,p⟩:=x;exact p.lt
 |dK aC=>obtain⟨_,_,_,_,o,_,_,e,_⟩:=x;exact Fn e
 |dT aC=>obtain⟨_,_,_,_,o,_,_,e,_⟩:=x;exact Fn e
 |set S n=>obtain⟨o,_,_,_,e,_⟩:=x;exact Fn e
 |ins C dx fs=>obtain⟨_,_,_,e,_⟩:=x;exact Fn e
 |own y=>obtain⟨_,e⟩:=x;exact Fn e
 |xd fs=>obtain⟨_,⟨_,_,_,e,_⟩,_⟩:=x;exact Fn e
 |rng lo hi=>obtain⟨_,_,_,e⟩:=x;exact Fn e
 |P5 ob u=>obtain⟨e,_⟩:=x;exact Fn e
 |YB ps=>exact Fn (show h.get? a=some _ from x)
 |met f y=>exact Fn (show h.get? a=some _ from x)
 |ext φ=>obtain⟨_,⟨_,e⟩,_⟩:=x;exact Fn e
theorem Paired.M7 {α β:Type}{F G:α->β->Prop} : ∀ {l₁:EA α}{l₂:EA β},Paired F l₁ l₂->(∀a b,F a b->G a b)->Paired G l₁ l₂
 |_,_, .nil,_=> .nil
 |_,_, .cons r t,f=> .cons (f _ _ r) (Paired.M7 t f)
theorem cw.Rj (x:cw P w H h a o) (k: ∀b u,(b=a\/H b=some (.own a))->h.get? b=some u->h'.get? b=some u)
  (ho: ∀b,H b=some (.own a)->H' b=some (.own a)) (ht: ∀b xs,H b=some (.tup xs)->H' b=some (.tup xs)):cw P w H' h' a o:=by
 induction o with
 |lst xs=>obtain⟨z,Hc,n,r,e⟩:=x;exact#[z,Hc,n,r,k _ _ (.inl rfl) e]
 |tup xs=>obtain⟨z,Hc,r,ob,e,c⟩:=x;exact#[z,Hc,r,ob,k _ _ (.inl rfl) e,c]
 |dK aC=>obtain⟨z,y,vs,r,ob,es,ep,e,c⟩:=x;exact#[z,y,vs,r,ob,es,ep,k _ _ (.inl rfl) e,c]
 |dT aC=>
  obtain⟨z,y,xs,r,ob,es,ep,e,c⟩:=x;exact#[z,y,xs,Paired.M7 r fun p q z=>#[z.1,ht _ _ z.2.1,z.2.2],ob,es,ep,k _ _ (.inl rfl) e,c]
 |set S n=>obtain⟨ob,es,ep,t,e,c⟩:=x;exact#[ob,es,ep,t,k _ _ (.inl rfl) e,c]
 |ins C dx fs=>
  obtain⟨d,z,ne,e,mA,⟨od,es,ep,e2,c⟩,r⟩:=x;exact#[ho _ d,z,ne,k _ _ (.inl rfl) e,mA,#[od,es,ep,k _ _ (.inr d) e2,c],r]
 |own y=>obtain⟨ob,e⟩:=x;exact#[ob,k _ _ (.inl rfl) e]
 |xd fs=>obtain⟨mA,⟨od,es,ep,e,c⟩,r⟩:=x;exact#[mA,#[od,es,ep,k _ _ (.inl rfl) e,c],r]
 |rng lo hi=>obtain⟨t,u,v,e⟩:=x;exact#[t,u,v,k _ _ (.inl rfl) e]
 |P5 ob u ih=>obtain⟨e,q⟩:=x;exact#[k _ _ (.inl rfl) e,ih q]
 |YB ps=>
  have e:h.get? a=some { cls:= .none,data:= .fields ps } :=x
  show h'.get? a=some { cls:= .none,data:= .fields ps }
  exact k a _ (.inl rfl) e
 |met f y=>
  have e:h.get? a=some (Oj (.ref f) (.ref y)):=x
  show h'.get? a=some (Oj (.ref f) (.ref y))
  exact k a _ (.inl rfl) e
 |ext φ=>obtain⟨p,⟨o,e⟩,st⟩:=x;exact#[st _ _ p fun o q=>k _ _ (.inl rfl) q,#[o,k _ _ (.inl rfl) e],st]
theorem hX.lt (x:hX P w H h) (e:H a=some o):a<h.objs.size:=(x a o e).lt
theorem hX.fresh (x:hX P w H h) (e:h.objs.size<=a):H a=none:=by
 cases q:H a with
 |none=>rfl
 |some u=>exact E7 (Fv (x.lt q) e) (Hq _)
theorem hX.kept (x:hX P w H h) (k: ∀b u,h.get? b=some u->h'.get? b=some u):hX P w H h':=fun a o e=>
 (x a o e).Rj (fun b u _ q=>k b u q) [05] fun _ _ q=>q
theorem hX.laid (x:hX P w H h) (k: ∀b u,h.get? b=some u->h'.get? b=some u) (hp:h.objs.size<=a) (new:cw P w (aF H a o) h' a o):hX P w (aF H a o) h':=fun b u e=>by
 have hn:=x.fresh hp;by_cases hb:b=a
 ·subst hb;rw[ae] at e;cases e;exact new
 ·rw[ac hb] at e
  exact(x b u e).Rj (fun c v _ q=>k c v q) (fun c q=>by rw[ac (ai q hn)];exact q) fun c xs q=>by rw[ac (ai q hn)];exact q
end
def eW:ET HO->Prop
 |some (.lst _)=>True
 |some (.dK _)=>True
 |some (.dT _)=>True
 |some (.set _ _)=>True
 |some (.ins _ _ _)=>True
 |some (.ext _)=>True
 |_=>False
section
variable {P:Fz}{w:Ga}{H:Hp}{h h':Gn}{x e:EJ}{o':HO}
theorem hX.write (ok:hX P w H h) (mu:eW (H x)) (he:e=x\/H e=some (.own x)) (k: ∀b u,b≠e->h.get? b=some u->h'.get? b=some u) (heo: ∃u,h'.get? e=some u)
  (new:cw P w (aF H x o') h' x o'):hX P w (aF H x o') h':=fun b u q=>by
 have aeI: ∀c y,H c=some (.own y)->c≠x:=fun c y r z=>by subst z;rw[r] at mu;exact mu
 have ajF: ∀c xs,H c=some (.tup xs)->c≠x:=fun c xs r z=>by subst z;rw[r] at mu;exact mu
 by_cases hb:b=x
 ·subst hb;rw[ae] at q;cases q;exact new
 ·rw[ac hb] at q
  by_cases ZG:b=e
  ·have q':H b=some (.own x):=by
    rcases he with z|z
    ·exact E7 (ZG.trans z) hb
    ·rw[ZG];exact z
   rw[q] at q';cases q';obtain⟨v,hv⟩:=heo;exact#[v,by rw[ZG];exact hv]
  ·refine(ok b u q).Rj (fun c v hc r=>k c v ?_ r) (fun c r=>by rw[ac (aeI c b r)];exact r) fun c xs r=>by rw[ac (ajF c xs r)];exact r
   rcases hc with rfl|hc
   ·exact ZG
   ·rintro rfl
    rcases he with z|z
    ·exact aeI c b hc z
    ·rw[hc] at z;cases z;exact hb rfl
end
section
variable {fs fs' ex ex':EA EJ}{H H1 H2:Hp}{h h1 h2 h':Gn}{a x e:EJ}{o:HO}
theorem Un.any (u:Un fs ex H H1 h h1) {b:EJ}(q:h.get? b=some ob) (n:H b=none) (hx:b∉ex): ∃sl,h1.get? b=some { ob with slots:=sl } :=by
 by_cases hb:b∈fs
 ·exact u.slot b ob q n hb hx
 ·exact#[ob.slots,u.keep b ob q n hb hx]
theorem Un.kept (k: ∀b u,h.get? b=some u->h'.get? b=some u):Un fs ex H H h h':=
 #[fun b ob q _ _ _=>k b ob q,fun b ob q _ _ _=>#[ob.slots,k b ob q],fun _ _ _ n _=>n,fun b ob q _=>#[ob,k b ob q],fun _ _ q=>q,fun _ _ _ q=>q,fun _ ps q=>#[[].toArray,by rw[q];simp]]
theorem Un.refl:Un fs ex H H h h:=Un.kept fun _ _ q=>q
theorem Un.laid (k: ∀b u,h.get? b=some u->h'.get? b=some u) (hp:h.objs.size<=a) (hn:H a=none):Un fs ex H (aF H a o) h h' where
 keep:=fun b u q _ _ _=>k b u q
 slot:=fun b u q _ _ _=>#[u.slots,k b u q]
 free:=fun b u q n _=>by rw[ac (Gu (Fv (Fn q) hp))];exact n
 there:=fun b u q _=>#[u,k b u q]
 Qw:=fun b xs q=>by rw[ac (ai q hn)];exact q
 P6:=fun b u xs q=>by rw[ac (ai q hn)];exact q
 Qx:=fun b ps q=>#[[].toArray,by rw[ac (ai q hn),q];simp]
theorem Un.write (mu:eW (H x)) (he:e=x\/H e=some (.own x)) (k: ∀b u,b≠e->h.get? b=some u->h'.get? b=some u) (heo: ∃u,h'.get? e=some u):Un fs ex H (aF H x o) h h':=by
 have hx: ∀b,H b=none->b≠x:=fun b n z=>by subst z;rw[n] at mu;exact mu
 have hb: ∀b,H b=none->b≠e:=fun b n z=>by
  subst z;rcases he with r|r
  ·exact hx b n r
  ·rw[n] at r;cases r
 have hm: ∀b u,H b=some u-> ¬eW (some u)->b≠x:=fun b u q nm z=>by subst z;rw[q] at mu;exact nm mu
 refine#[fun b u q n _ _=>k b u (hb b n) q,fun b u q n _ _=>#[u.slots,k b u (hb b n) q],fun b u q n _=>by rw[ac (hx b n)];exact n,fun b u q _=>?_,
  fun b xs q=>by rw[ac (hm b _ q fun z=>z)];exact q,fun b u xs q=>by rw[ac (hm b _ q fun z=>z)];exact q,fun b ps q=>#[[].toArray,by rw[ac (hm b _ q fun z=>z),q];simp]]
 by_cases ZG:b=e
 ·subst ZG;exact heo
 ·exact#[u,k b u ZG q]
end
structure Cx where
 prog:Fz
 w:Ga
 K:EF
 mg:Fh->ET EH
 base:Gn
 A:Gk
 N:EA Fh
 OZ:EM
 H_0:Hp
 env:Env
 outer:EA Env
 stack:EA Env
 ex:EA EJ
 fn:Fh->FR
 calm:FR
 pn:EA (EJ×Ih)
 xe:EH->EM->Prop
abbrev Cx.fs (X:Cx):EA EJ:=rk X.outer
def oH (sc:Scope) (x:Fh):Prop:=sc.names.lookup x=some .local\/sc.names.lookup x=some .cell\/sc.names.lookup x=some .free
def Loc (sc:Scope) (x:Fh):Prop:=sc.names.lookup x=some .local\/sc.names.lookup x=some .cell
def Look (env:Env) (h:Gn) (m:Fh->ET EH) (x:Fh) (u:EH):Prop:=
 (env.kindOf x=some .local/\m x=some u)\/((env.kindOf x=some .cell\/env.kindOf x=some .free)/\ ∃c,env.cells.lookup x=some c/\h.IsCell c (some u))
structure Cx.Ok (X:Cx):Prop where
 mod:Mod X.K X.mg X.base
 kind:X.env.scope.kind= .function
 glob:X.env.globals=ID
 blt:X.env.builtins=Ym
 above:X.OZ.heap.objs.size<=X.env.locals
 inj: ∀x y c,X.env.cells.lookup x=some c->X.env.cells.lookup y=some c->x=y
 has: ∀x,(X.env.kindOf x=some .cell\/X.env.kindOf x=some .free)-> ∃c,X.env.cells.lookup x=some c
 Xg: ∀x c,X.fn x=true->X.env.cells.lookup x=some c->X.OZ.heap.objs.size<=c
 hd:X.calm=true->X.A.handled=none
 frames:X.A.frames=some X.stack
 Xh:X.stack=X.outer\/(X.stack=X.env::X.outer/\X.env.frame=some X.env.locals)
 ZH: ∀b∈X.ex,b≠X.env.locals/\ ∀x c,X.env.cells.lookup x=some c->c≠b
 bs: ∀b o,X.base.get? b=some o->X.OZ.heap.get? b=some o/\X.H_0 b=none
 Ue:X.base.objs.size<=X.OZ.heap.objs.size
 RV: ∀b o,X.base.get? b=some o->b∉X.ex
 RW: ∀b∈X.ex,b∉X.fs
 funs:X.OZ.heap.FunFrames X.base X.outer
 VU: ∀b∈X.fs,X.H_0 b=none
structure aE (X:Cx) (pins:EA (EJ×Ih)) (σ:EA (ET V)) (H:Hp) (s:EM):Prop where
 ok:X.Ok
 os:s.os=X.OZ.os
 bare:Pg s.gens
 base:Un X.fs X.ex X.H_0 H X.OZ.heap s.heap
 loc: ∃m,s.heap.Ns X.env.locals m/\ ∀(i:E1) (x:Fh) (v:V),X.N[i]?=some x->σ[i]?=some (some v)->oH X.env.scope x-> ∃u,bh v u/\Look X.env s.heap m x u
 cell: ∀x c,X.env.cells.lookup x=some c-> ∃v,s.heap.IsCell c v
 free:H X.env.locals=none
 LG: ∀x c,X.env.cells.lookup x=some c->H c=none
 pin: ∀p∈X.pn++pins,s.heap.get? p.1=some p.2/\H p.1=none/\p.1≠X.env.locals/\p.1∉X.fs/\ ∀v,p.2.data≠ .cell v
 HH:hX X.prog X.w H s.heap
 len:σ.length=X.N.length
section
variable {X:Cx}{pins:EA (EJ×Ih)}{σ:EA (ET V)}{H H':Hp}{s:EM}{h':Gn}
theorem Cx.Ok.ajG (ok:X.Ok) {b:EJ}{o:Ih}(e:X.base.get? b=some o):b∉X.fs:=fun hb=>by
 have:=(ok.funs.mem hb).1;rw[e] at this;cases this
theorem aE.bs (I:aE X pins σ H s): ∀b o,X.base.get? b=some o->s.heap.get? b=some o/\H b=none:=fun b o e=>
 #[I.base.keep b o (I.ok.bs b o e).1 (I.ok.bs b o e).2 (I.ok.ajG e) (I.ok.RV b o e),I.base.free b o (I.ok.bs b o e).1 (I.ok.bs b o e).2 (I.ok.RV b o e)]
theorem aE.bk (I:aE X pins σ H s): ∀b o,X.base.get? b=some o->s.heap.get? b=some o:=fun b o e=>(I.bs b o e).1
theorem aE.mod (I:aE X pins σ H s):Mod X.K X.mg X.base:=I.ok.mod
theorem aE.MI (I:aE X pins σ H s):X.K.In s.heap:=I.ok.mod.UQ.keeps I.bk
theorem aE.fr (I:aE X pins σ H s): ∃m,Fr X.base X.env.locals s.heap m:=
 let ⟨m,hn,_⟩:=I.loc
 #[m,hn,I.bk,Fj I.ok.Ue I.ok.above]
theorem aE.lt (I:aE X pins σ H s):X.env.locals<s.heap.objs.size:=let ⟨_,hn,_⟩:=I.loc;hn.lt
theorem aE.sz (I:aE X pins σ H s):X.OZ.heap.objs.size<=s.heap.objs.size:=Fj I.ok.above (J6 I.lt)
theorem aE.ajH (I:aE X pins σ H s) {a:EJ}(h:s.heap.objs.size<=a):a∉X.fs:=fun hb=>by
 obtain⟨_,o,ho,_⟩:=I.ok.funs.mem hb;exact E7 (Fv (Fn ho) (Fj I.sz h)) (Hq _)
theorem aE.Xi (I:aE X pins σ H s): ∀x c,X.env.cells.lookup x=some c->c≠X.env.locals:=fun x c e z=>by
 obtain⟨v,o,ho,hd⟩:=I.cell x c e;obtain⟨m,⟨o',es,ep,QP,WH,_⟩,_⟩:=I.loc;rw[z,QP] at ho;cases ho;rw[WH] at hd;cases hd
theorem aE.funs (I:aE X pins σ H s):s.heap.FunFrames X.base X.outer:=by
 have all: ∀(l:EA Env),(∀b∈rk l,b∈X.fs)->X.OZ.heap.FunFrames X.base l->s.heap.FunFrames X.base l:=by
  intro l
  induction l with
  |nil=>intro _ _;trivial
  |cons env r ih=>
   intro hs hl;obtain⟨hk,⟨L,o,hf,hn,ho,hd⟩,hr⟩:=hl;have hL:L∈X.fs:=hs L (by unfold rk;rw[Kb,hf];exact EO);obtain⟨sl,e⟩:=I.base.slot L o ho (I.ok.VU L hL) hL fun z=>I.ok.RW L z hL;exact#[hk,#[L,_,hf,hn,e,hd],ih (fun b hb=>hs b (by unfold rk;rw[Kb,hf];exact EN _ hb)) hr]
 exact all X.outer (fun _ hb=>hb) I.ok.funs
theorem aE.stack (I:aE X pins σ H s):s.heap.FunFrames X.base X.stack:=by
 rcases I.ok.Xh with e|⟨e,hf⟩
 ·rw[e];exact I.funs
 ·rw[e]
  obtain⟨m,hn,_⟩:=I.loc;refine .cons (by rw[I.ok.kind];decide) hf hn ?_ I.funs;exact Gn.get?_none_of_le (Fj I.ok.Ue I.ok.above)
theorem aE.Rk (I:aE X pins σ H s): ∀b∈rk X.stack,b∈X.env.locals::X.fs:=fun b hb=>by
 rcases I.ok.Xh with e|⟨e,hf⟩
 ·rw[e] at hb;exact EN _ hb
 ·rw[e] at hb
  unfold rk at hb;rw[Kb,hf] at hb;exact hb
theorem aE.PZ (I:aE X pins σ H s): ∀b∈rk X.stack,H b=none:=fun b hb=>by
 rcases EW.mp (I.Rk b hb) with e|hb
 ·rw[e];exact I.free
 ·obtain⟨_,o,ho,_⟩:=I.ok.funs.mem hb
  exact I.base.free b o ho (I.ok.VU b hb) fun z=>I.ok.RW b z hb
theorem aE.step {g':IQ Qu}{t':E1}{d':Drawn}{ch:EA EJ}(I:aE X pins σ H s)
  (S7: ∀b∈ch,(b∈X.ex\/X.OZ.heap.objs.size<=b)/\b≠X.env.locals/\(∀x c,X.env.cells.lookup x=some c->c≠b)/\ ∀p∈X.pn++pins,p.1≠b)
  (keep: ∀b o,b≠X.env.locals->b∉X.fs->b∉ch->s.heap.get? b=some o->H b=none->h'.get? b=some o)
  (slot: ∀b o,b≠X.env.locals->b∈X.fs->b∉ch->s.heap.get? b=some o->H b=none-> ∃sl,h'.get? b=some { o with slots:=sl }) (free: ∀b o,b∉ch->s.heap.get? b=some o->H b=none->H' b=none)
  (there: ∀b o,b∉ch->s.heap.get? b=some o-> ∃o',h'.get? b=some o')
  (Qw: ∀b xs,H b=some (.tup xs)->H' b=some (.tup xs)) (P6: ∀b o u,H b=some (.P5 o u)->H' b=some (.P5 o u)) (Qx: ∀b ps,H b=some (.YB ps)-> ∃more,H' b=some (.YB (ps++more)))
  (ns: ∀m,s.heap.Ns X.env.locals m->h'.Ns X.env.locals m) (HH:hX X.prog X.w H' h') (hg:Pg g'):
  aE X pins σ H' { s with heap:=h',gens:=g',drawn:=d',toks:=t' } :=by
 have neL: ∀b o,X.OZ.heap.get? b=some o->b≠X.env.locals:=fun b o e=>Gu [055]
 have neC: ∀b o,X.OZ.heap.get? b=some o->b∉X.ex->b∉ch:=fun b o e hx hb=>by
  rcases(S7 b hb).1 with z|z
  ·exact hx z
  ·exact E7 (Fv (Fn e) z) (Hq _)
 have cellK: ∀x c,X.env.cells.lookup x=some c-> ∀v,s.heap.IsCell c v->h'.IsCell c v:=fun x c e v ⟨o,ho,hd⟩=>by
  have nch:c∉ch:=fun z=>(S7 c z).2.2.1 x c e rfl
  by_cases hc:c∈X.fs
  ·obtain⟨sl,q⟩:=slot c o (I.Xi x c e) hc nch ho (I.LG x c e)
   exact#[_,q,hd]
  ·exact#[o,keep c o (I.Xi x c e) hc nch ho (I.LG x c e),hd]
 refine#[I.ok,I.os,hg,#[fun b o e n hb hx=>?_,fun b o e n hb hx=>?_,fun b o e n hx=>?_,fun b o e hx=>?_,fun b xs e=>Qw b xs (I.base.Qw b xs e),fun b o xs e=>P6 b o xs (I.base.P6 b o xs e),fun b ps e=>?_],?_,fun x c e=>?_,?_,fun x c e=>?_,fun p hp=>?_,HH,I.len]
 ·exact keep b o (neL b o e) hb (neC b o e hx) (I.base.keep b o e n hb hx) (I.base.free b o e n hx)
 ·obtain⟨sl,e1⟩:=I.base.slot b o e n hb hx
  obtain⟨sl',e2⟩:=slot b _ (neL b o e) hb (neC b o e hx) e1 (I.base.free b o e n hx);exact#[sl',e2]
 ·obtain⟨o',e1⟩:=I.base.there b o e hx
  exact free b o' (neC b o e hx) e1 (I.base.free b o e n hx)
 ·obtain⟨o',e1⟩:=I.base.there b o e hx
  exact there b o' (neC b o e hx) e1
 ·obtain⟨m1,e1⟩:=I.base.Qx b ps e
  obtain⟨m2,e2⟩:=Qx b _ e1;exact#[m1++m2,by rw[e2,IQ.append_assoc]]
 ·obtain⟨m,hn,hl⟩:=I.loc
  refine#[m,ns m hn,fun i x v e1 e2 e3=>?_];obtain⟨u,r,l⟩:=hl i x v e1 e2 e3;refine#[u,r,?_];rcases l with l|⟨k,c,e,z⟩
  ·exact .inl l
  ·exact .inr #[k,c,e,cellK x c e _ z]
 ·obtain⟨v,z⟩:=I.cell x c e
  exact#[v,cellK x c e v z]
 ·obtain⟨m,⟨o,_,_,ho,_⟩,_⟩:=I.loc
  exact free _ o (fun z=>(S7 _ z).2.1 rfl) ho I.free
 ·obtain⟨v,o,ho,hd⟩:=I.cell x c e
  exact free c o (fun z=>(S7 c z).2.2.1 x c e rfl) ho (I.LG x c e)
 ·obtain⟨e,n,ne,nf,d⟩:=I.pin p hp
  have nch:p.1∉ch:=fun z=>(S7 p.1 z).2.2.2 p hp rfl
  exact#[keep p.1 p.2 ne nf nch e n,free p.1 p.2 nch e n,ne,nf,d]
theorem aE.un {t':E1}(I:aE X pins σ H s) (u:Un X.fs [] H H' s.heap h') (HH:hX X.prog X.w H' h'):aE X pins σ H' { s with heap:=h',toks:=t' } :=by
 obtain⟨m,⟨o,es,ep,ho,r⟩,_⟩:=id I.loc;obtain⟨sl,hL⟩:=u.any ho I.free [024];exact I.step (g':=s.gens) (d':=s.drawn) (ch:=[]) [038] (fun b o _ hb _ e n=>u.keep b o e n hb [024]) (fun b o _ hb _ e n=>u.slot b o e n hb [024]) (fun b o _ e n=>u.free b o e n [024]) (fun b o _ e=>u.there b o e [024]) u.Qw u.P6 u.Qx (fun m' hm=>by
  obtain⟨o',es',ep',QP,r'⟩:=hm;rw[ho] at QP;cases QP;exact#[_,es',ep',hL,r']) HH I.bare
theorem aE.call {g':IQ Qu}{t':E1}{d':Drawn}{ch:EA EJ}(I:aE X pins σ H s) (u:Un (rk X.stack) ch H H' s.heap h') (HH:hX X.prog X.w H' h') (hg:Pg g')
  (S7: ∀b∈ch,(b∈X.ex\/X.OZ.heap.objs.size<=b)/\b≠X.env.locals/\(∀x c,X.env.cells.lookup x=some c->c≠b)/\ ∀p∈X.pn++pins,p.1≠b):
  aE X pins σ H' { s with heap:=h',gens:=g',drawn:=d',toks:=t' } :=by
 obtain⟨m,⟨o,es,ep,ho,r⟩,_⟩:=id I.loc;obtain⟨sl,hL⟩:=u.any ho I.free fun z=>(S7 _ z).2.1 rfl;exact I.step (ch:=ch) S7 (fun b o hL hb hc e n=>u.keep b o e n (fun z=>(EW.mp (I.Rk b z)).elim hL hb) hc) (fun b o _ _ hc e n=>u.any e n hc) (fun b o hc e n=>u.free b o e n hc) (fun b o hc e=>u.there b o e hc) u.Qw u.P6 u.Qx (fun m' hm=>by
  obtain⟨o',es',ep',QP,r'⟩:=hm;rw[ho] at QP;cases QP;exact#[_,es',ep',hL,r']) HH hg
theorem aE.turned {t':E1}{it:EJ}(I:aE X pins σ H s) (k: ∀b o,b≠it->s.heap.get? b=some o->h'.get? b=some o) (hn:H it=none) (hL:it≠X.env.locals)
  (h1:it∈X.ex\/X.OZ.heap.objs.size<=it) (h2: ∀x c,X.env.cells.lookup x=some c->c≠it) (h3: ∀p∈X.pn++pins,p.1≠it):aE X pins σ H { s with heap:=h',toks:=t' } :=by
 have nit: ∀b u,H b=some u->b≠it:=fun b u e z=>by rw[z,hn] at e;cases e
 refine I.step (g':=s.gens) (d':=s.drawn) (ch:=[it]) (fun b hb=>?_) (fun b o _ _ hc e _=>k b o (fun z=>hc (by simp [z])) e) (fun b o _ _ hc e _=>#[o.slots,k b o (fun z=>hc (by simp [z])) e]) (fun _ _ _ _ n=>n)
  (fun b o hc e=>#[o,k b o (fun z=>hc (by simp [z])) e]) (fun _ _ e=>e) (fun _ _ _ e=>e) (fun b ps e=>#[[].toArray,by rw[e];simp]) (fun m hm=>?_) (fun b u e=>?_) I.bare
 ·have e:b=it:=by simpa using hb
  subst e;exact#[h1,hL,h2,h3]
 ·obtain⟨o,es,ep,ho,r⟩:=hm
  exact#[o,es,ep,k _ o (HS hL) ho,r]
 ·refine(I.HH b u e).Rj (fun c v hc q=>k c v ?_ q) [05] fun _ _ q=>q
  rcases hc with z|z
  ·rw[z];exact nit b u e
  ·exact nit c _ z
theorem aE.tok (I:aE X pins σ H s) (t:E1):aE X pins σ H { s with toks:=t } :=I.un (h':=s.heap) (t':=t) Un.refl I.HH
theorem aE.kept (I:aE X pins σ H s) (k: ∀b u,s.heap.get? b=some u->h'.get? b=some u):aE X pins σ H { s with heap:=h',toks:=t' } :=I.un (Un.kept k) (I.HH.kept k)
theorem aE.laid {a:EJ}{o:HO}(I:aE X pins σ H s) (k: ∀b u,s.heap.get? b=some u->h'.get? b=some u) (hp:s.heap.objs.size<=a) (new:cw X.prog X.w (aF H a o) h' a o):
  aE X pins σ (aF H a o) { s with heap:=h',toks:=t' } :=I.un (Un.laid k hp (I.HH.fresh hp)) (I.HH.laid k hp new)
theorem aE.write {x e:EJ}{o:HO}(I:aE X pins σ H s) (mu:eW (H x)) (he:e=x\/H e=some (.own x)) (k: ∀b u,b≠e->s.heap.get? b=some u->h'.get? b=some u) (heo: ∃u,h'.get? e=some u)
  (new:cw X.prog X.w (aF H x o) h' x o):aE X pins σ (aF H x o) { s with heap:=h',toks:=t' } :=I.un (Un.write mu he k heo) (I.HH.write mu he k heo new)
theorem aE.weak (I:aE X pins σ H s) (hl:σ'.length=σ.length) (w: ∀(i:E1) v,σ'[i]?=some (some v)->σ[i]?=some (some v)):aE X pins σ' H s:=
 #[I.ok,I.os,I.bare,I.base,let ⟨m,hn,hl'⟩:=I.loc;#[m,hn,fun i x v e1 e2 e3=>hl' i x v e1 (w i v e2) e3],I.cell,I.free,I.LG,I.pin,I.HH,hl.trans I.len]
theorem aE.TJ (I:aE X pins σ H s) (h: ∀p∈TK,s.heap.get? p.1=some p.2/\H p.1=none/\p.1≠X.env.locals/\p.1∉X.fs/\ ∀v,p.2.data≠ .cell v):aE X TK σ H s:=
 #[I.ok,I.os,I.bare,I.base,I.loc,I.cell,I.free,I.LG,fun p hp=>(Fp.mp hp).elim (fun z=>I.pin p (Lu _ z)) (h p),I.HH,I.len]
theorem nU {N:EA Fh}(hN:N.Nodup) {i j:E1}{x:Fh}(a:N[i]?=some x) (b:N[j]?=some x):i=j:=by
 obtain⟨h1,e1⟩:=FF.mp a;obtain⟨h2,e2⟩:=FF.mp b;exact(EA.getElem_inj hN).mp (e1.trans e2.symm)
theorem zm {M:Model}{A:Gk}{E:EH->EM->Prop}{i:E1}{x:Fh}{v:V}{u:EH}{Q:Mo->EM->Prop}(I:aE X pins σ H s) (hN:X.N.Nodup) (hi:X.N[i]?=some x) (hx:Loc X.env.scope x) (r:bh v u)
  (h: ∀s',aE X pins (σ.set i (some v)) H s'->(∃a,LZ a s.heap s'.heap/\(a=X.env.locals\/X.env.cells.lookup x=some a))->Q () s') (hf:X.fn x=true\/X.env.scope.names.lookup x=some .local:=by first|exact .inl rfl|exact .inr rfl|assumption):Fl M A (storeName X.env x u) Q E s:=by
 obtain⟨m,hn,hl⟩:=id I.loc;have ZI:(X.env.scope.kind == .class||(X.env.scope.kind == .module&&X.env.locals !=X.env.globals))=false:=by rw[I.ok.kind];rfl
 have hiσ:i<σ.length:=by rw[I.len];exact(FF.mp hi).1
 have Xi:=I.Xi
 have tracked: ∀ {a:EJ}{h':Gn},(∃o,s.heap.get? a=some o/\H a=none)->LZ a s.heap h'->hX X.prog X.w H h':=fun {a h'} ha hs b ob e=>by
  obtain⟨_,_,QQ⟩:=ha;refine(I.HH b ob e).Rj (fun c w' hc q=>(hs.2 c ?_).trans q) [05] fun _ _ q=>q;rintro rfl;rcases hc with rfl|hc
  ·rw[QQ] at e;cases e
  ·rw[QQ] at hc;cases hc
 rcases hx with hk|hk
 ·refine wpAny_storeName_local hk hn (fun h' Xj hs=>?_) ZI
  obtain⟨oL,_,_,hoL,_⟩:=id hn;refine h _ #[I.ok,I.os,I.bare,#[fun b o e n hb hx=>?_,fun b o e n hb hx=>?_,I.base.free,fun b o e hx=>?_,I.base.Qw,I.base.P6,I.base.Qx],#[_,Xj,fun j y v' e1 e2 e3=>?_],fun y c e=>?_,I.free,I.LG,fun p hp=>?_,tracked #[oL,hoL,I.free] hs,by simpa using I.len] #[_,hs, .inl rfl]
  ·exact(hs.2 b (Gu [055])).trans (I.base.keep b o e n hb hx)
  ·obtain⟨sl,e1⟩:=I.base.slot b o e n hb hx
   exact#[sl,(hs.2 b (Gu [055])).trans e1]
  ·obtain⟨o',e1⟩:=I.base.there b o e hx
   exact#[o',(hs.2 b (Gu [055])).trans e1]
  ·by_cases hj:j=i
   ·subst hj
    rw[hi] at e1;cases e1;rw[M8 hiσ] at e2;cases e2;exact#[u,r, .inl #[hk,by simp]]
   ·rw[NN (HS hj)] at e2
    obtain⟨u',r',q⟩:=hl j y v' e1 e2 e3;refine#[u',r',?_];rcases q with⟨k,e⟩|⟨k,c,e,z⟩
    ·refine .inl #[k,?_]
     have:y≠x:=fun e=>hj (nU hN e1 (e▸hi))
     simp [this,e]
    ·exact .inr #[k,c,e,z.sameBut hs (Xi y c e)]
  ·obtain⟨w',z⟩:=I.cell y c e
   exact#[w',z.sameBut hs (Xi y c e)]
  ·obtain⟨e,n,ne,nf,d⟩:=I.pin p hp
   exact#[(hs.2 p.1 ne).trans e,n,ne,nf,d]
 ·have TM:X.fn x=true:=by
   rcases hf with z|z
   ·exact z
   ·rw[z] at hk;cases hk
  obtain⟨c,hc⟩:=I.ok.has x (.inl hk);obtain⟨w',z⟩:=I.cell x c hc;refine wpAny_storeName_cell I.ok.kind hk hc z (fun h' VZ hs=>?_);obtain⟨oc,hoc,ajI⟩:=id z;refine h { s with heap:=h' } #[I.ok,I.os,I.bare,#[fun b o e n hb hx=>?_,fun b o e n hb hx=>?_,I.base.free,fun b o e hx=>?_,I.base.Qw,I.base.P6,I.base.Qx],#[m,hn.sameBut hs (HS (Xi x c hc)),fun j y v' e1 e2 e3=>?_],fun y c' e=>?_,I.free,I.LG,fun p hp=>?_,tracked #[oc,hoc,I.LG x c hc] hs,by simpa using I.len] #[c,hs, .inr hc]
  ·exact(hs.2 b (Gu (Fv (Fn e) (I.ok.Xg x c TM hc)))).trans (I.base.keep b o e n hb hx)
  ·obtain⟨sl,e1⟩:=I.base.slot b o e n hb hx
   exact#[sl,(hs.2 b (Gu (Fv (Fn e) (I.ok.Xg x c TM hc)))).trans e1]
  ·obtain⟨o',e1⟩:=I.base.there b o e hx
   exact#[o',(hs.2 b (Gu (Fv (Fn e) (I.ok.Xg x c TM hc)))).trans e1]
  ·by_cases hj:j=i
   ·subst hj
    rw[hi] at e1;cases e1;rw[M8 hiσ] at e2;cases e2;exact#[u,r, .inr #[.inl hk,c,hc,VZ]]
   ·rw[NN (HS hj)] at e2
    obtain⟨u',r',q⟩:=hl j y v' e1 e2 e3;refine#[u',r',?_];rcases q with q|⟨k,c',e,z'⟩
    ·exact .inl q
    ·refine .inr #[k,c',e,z'.sameBut hs ?_]
     rintro rfl;exact hj (nU hN e1 (I.ok.inj _ _ _ e hc▸hi))
  ·by_cases hcc:c'=c
   ·subst hcc;exact#[_,VZ]
   ·obtain⟨w2,z2⟩:=I.cell y c' e
    exact#[w2,z2.sameBut hs hcc]
  ·obtain⟨e,n,ne,nf,d⟩:=I.pin p hp
   refine#[(hs.2 p.1 ?_).trans e,n,ne,nf,d];intro q;rw[q,hoc] at e;have q':oc=p.2:=E5 e;exact d w' (by rw[<-q'];exact ajI)
theorem jM {A:Gk}{E:EH->EM->Prop}{i:E1}{x:Fh}{v:V}{u:EH}{Q:Mo->EM->Prop}(I:aE X pins σ H s) (hN:X.N.Nodup) (hi:X.N[i]?=some x) (hx:Loc X.env.scope x) (r:bh v u)
  (h: ∀s',aE X pins (σ.set i (some v)) H s'->Q () s') (hf:X.fn x=true\/X.env.scope.names.lookup x=some .local:=by first|exact .inl rfl|exact .inr rfl|assumption):Fl M A (storeName X.env x u) Q E s:=
 zm I hN hi hx r (fun s' I' _=>h s' I') hf
theorem aE.VA {s':EM}(I:aE X pins σ H s) (ho:s'.os=s.os) (u:Un (rk X.stack) ch H H' s.heap s'.heap) (HH:hX X.prog X.w H' s'.heap) (hg:Pg s'.gens)
  (S7: ∀b∈ch,(b∈X.ex\/X.OZ.heap.objs.size<=b)/\b≠X.env.locals/\(∀x c,X.env.cells.lookup x=some c->c≠b)/\ ∀p∈X.pn++pins,p.1≠b):aE X pins σ H' s':=by
 obtain⟨h',g',d',t',o'⟩:=s';have e:o'=s.os:=ho;subst e;exact I.call (g':=g') (t':=t') (d':=d') u HH hg S7
end
abbrev St:=EA (ET V)
abbrev TE:=St->Hp->VK->Prop
abbrev TT:=St->Hp->(FR->Hp->Prop)->Prop
abbrev TA:=St->Hp->(EA V->Hp->Prop)->Prop
structure eG where
 nx:St->Hp->Prop
 rt:VK
 bk:St->Hp->Prop:=fun _ _=>False
 ct:St->Hp->Prop:=fun _ _=>False
abbrev TS:=eG->St->Hp->Prop
inductive EP (X:Cx) (pins:EA (EJ×Ih)) (σ:St) (Q:VK) (u:EH) (s':EM):Prop
 |mk (v:V) (H':Hp) (_:aE X pins σ H' s') (_:bh v u) (_:Q v H'):EP X pins σ Q u s'
def TP (X:Cx) (pins:EA (EJ×Ih)) (σ:St) (Q:FR->Hp->Prop) (b:FR) (s':EM):Prop:= ∃H',aE X pins σ H' s'/\Q b H'
inductive AP (X:Cx) (pins:EA (EJ×Ih)) (σ:St) (Q:EA V->Hp->Prop) (us:EA EH) (s':EM):Prop
 |mk (vs:EA V) (H':Hp) (_:aE X pins σ H' s') (_:aX vs us) (_:Q vs H'):AP X pins σ Q us s'
def SP (X:Cx) (pins:EA (EJ×Ih)) (D:eG) (f:Flow) (s':EM):Prop:=
 match f with
 | .next=> ∃σ' H',aE X pins σ' H' s'/\D.nx σ' H'
 | .brk=> ∃σ' H',aE X pins σ' H' s'/\D.bk σ' H'
 | .cont=> ∃σ' H',aE X pins σ' H' s'/\D.ct σ' H'
 | .ret u=> ∃v σ' H',aE X pins σ' H' s'/\bh v u/\D.rt v H'
def PE (X:Cx) (e:G8) (t:TE):Prop:=
 ∀(pins:EA (EJ×Ih)) (s:EM) (σ:St) (H:Hp) (Q:VK),aE X pins σ H s->t σ H Q->Fl (model X.prog X.w) X.A (eval e X.env) [028] X.xe s
def PT (X:Cx) (e:G8) (t:TT):Prop:=
 ∀(pins:EA (EJ×Ih)) (s:EM) (σ:St) (H:Hp) (Q:FR->Hp->Prop),aE X pins σ H s->t σ H Q->Fl (model X.prog X.w) X.A (isTrue e X.env (eval e X.env)) (TP X pins σ Q) X.xe s
def PW (X:Cx) (e:G8) (t:TT):Prop:=
 ∀(whole:Sem EH) (pins:EA (EJ×Ih)) (s:EM) (σ:St) (H:Hp) (Q:FR->Hp->Prop),aE X pins σ H s->t σ H Q->Fl (model X.prog X.w) X.A (isTrue e X.env whole) (TP X pins σ Q) X.xe s
theorem PW.pt {X:Cx}{e:G8}{t:TT}(h:PW X e t):PT X e t:=h _
def PA (X:Cx) (es:EA G8) (t:TA):Prop:=
 ∀(pos:Pos) (pins:EA (EJ×Ih)) (s:EM) (σ:St) (H:Hp) (Q:EA V->Hp->Prop),aE X pins σ H s->t σ H Q->Fl (model X.prog X.w) X.A (spliced (Ie pos [034])) (AP X pins σ Q) X.xe s
def PS (X:Cx) (st:Stmt) (t:TS):Prop:=
 ∀(pins:EA (EJ×Ih)) (s:EM) (σ:St) (H:Hp) (D:eG),aE X pins σ H s->t D σ H->Fl (model X.prog X.w) X.A (exec st X.env) (SP X pins D) X.xe s
def tY (X:Cx) (st:EA Stmt) (t:TS):Prop:=
 ∀(pins:EA (EJ×Ih)) (s:EM) (σ:St) (H:Hp) (D:eG),aE X pins σ H s->t D σ H->Fl (model X.prog X.w) X.A (execs st X.env) (SP X pins D) X.xe s
inductive Bd (X:Cx) (st:EA Stmt) (D:eG) (σ:St) (H:Hp):Prop
 |mk (t:TS) (_:tY X st t) (_:t D σ H):Bd X st D σ H
theorem ca {α:Type}{t:Sem α}{Q Q':α->EM->Prop}{A:Gk}{E:EH->EM->Prop}{s:EM}(h:Fl M A t Q E s) (hQ: ∀a s,Q a s->Q' a s):Fl M A t Q' E s:=HP h hQ fun _ _ x=>x
section
variable {X:Cx}
theorem bin {a b:G8}{ta tb:TE}(ha:PE X a ta) (hb:PE X b tb) {pins:EA (EJ×Ih)}{s:EM}{σ:St}{H:Hp}{R:V->V->Hp->Prop}(I:aE X pins σ H s) (h:ta σ H fun x H1=>tb σ H1 fun y H2=>R x y H2)
  {α:Type}{Q:α->EM->Prop}{f:EH->EH->Sem α}
  (hf: ∀v u s2 x y H2,aE X pins σ H2 s2->bh x v->bh y u->R x y H2->Fl (model X.prog X.w) X.A (f v u) Q X.xe s2):
  Fl (model X.prog X.w) X.A (eval a X.env) (fun v s₁=>Fl (model X.prog X.w) X.A (eval b X.env) (fun u s₂=>Fl (model X.prog X.w) X.A (f v u) Q X.xe s₂) X.xe s₁) X.xe s:=by
 refine ca [023] fun v s1 ⟨x,H1,I1,r1,q1⟩=>?_;refine ca (hb pins s1 σ H1 _ I1 q1) fun u s2 ⟨y,H2,I2,r2,q2⟩=>?_;exact hf v u s2 x y H2 I2 r1 r2 q2
def k8:E1->St->Hp->VK->Prop
 |0,some v::_,H,Q=>Q v H
 |i+1,_::σ,H,Q=>k8 i σ H Q
 |_,_,_,_=>False
theorem BB {H:Hp}{Q:VK} : ∀ {i:E1}{σ:St},k8 i σ H Q-> ∃v,σ[i]?=some (some v)/\Q v H
 |0,some v::_,h=>#[v,rfl,h]
 |i+1,_::σ,h=>BB (i:=i) (σ:=σ) h
theorem m6 {H:Hp}{Q:VK}{v:V}(q:Q v H): ∀ {i:E1}{σ:St},σ[i]?=some (some v)->k8 i σ H Q
 |0,some _::_,e=>E5 (E5 e)▸q
 |i+1,_::σ,e=>m6 q (i:=i) (σ:=σ) e
def tC (v:V):TE:=fun _ H Q=>Q v H
theorem dU {i:E1}{x:Fh}{pos:Pos}(hN:X.N[i]?=some x) (hv:oH X.env.scope x) (hd:(x == [003])=false:=by decide) (RG:(x == ("__classdict__":Fh))=false:=by decide):PE X (.Name x pos) (k8 i):=by
 rw[01];obtain⟨v,e,h⟩:=BB h;obtain⟨m,hn,hl⟩:=I.loc;obtain⟨u,r,l⟩:=hl i x v hN e hv;have eN:EP X pins σ Q u s:=#[v,H,I,r,h];rcases l with⟨hk,hm⟩|⟨hk,c,hc,TN⟩
 ·exact Yn (V4 I.ok.kind hk hn hm eN) hd
 ·rcases hk with hk|hk
  ·exact Yn (WV I.ok.kind hk hc TN eN) hd
  ·exact Yn (wpAny_loadName_free I.ok.kind hk hc TN eN RG) hd
theorem aj {i j pos} :PE X (.Constant (.int i) j pos) (tC (.int i)):=fun _ _ _ H _ I h=>wpAny_Constant_int #[.int i,H,I.tok _,#[_,rfl],h]
theorem rZ {b j pos} :PE X (.Constant (.bool b) j pos) (tC (.bl b)):=fun _ _ _ H _ I h=>Constant_bool #[.bl b,H,I,rfl,h]
theorem ZJ {j pos} :PE X (.Constant .none j pos) (tC .HZ):=fun _ _ _ H _ I h=>Constant_none #[.HZ,H,I,rfl,h]
theorem dH {x j pos} :PE X (.Constant (.str x) j pos) (tC (.str x)):=fun _ _ _ H _ I h=>Calls.Constant_str #[.str x,H,I.tok _,#[_,rfl],h]
def Gl (X:Cx) (x:Fh):Prop:=X.env.kindOf x=some .globalImplicit
theorem gj {E:EH->EM->Prop}{pins:EA (EJ×Ih)}{s:EM}{σ:St}{H:Hp}{x:Fh}{u:EH}{pos:Pos}{Q:EH->EM->Prop}(I:aE X pins σ H s) (hg:Gl X x) (hm:X.mg x=some u) (h:Q u s)
  (hd:(x == [003])=false:=by decide):Fl (model X.prog X.w) X.A (eval (.Name x pos) X.env) Q E s:=
 Qs I.ok.kind hg (Calls.loadGlobal_global (by rw[I.ok.glob];exact I.mod.glob.keeps I.bk) hm h) hd
theorem lj {E:EH->EM->Prop}{pins:EA (EJ×Ih)}{s:EM}{σ:St}{H:Hp}{x:Fh}{u:EH}{pos:Pos}{Q:EH->EM->Prop}(I:aE X pins σ H s) (hg:Gl X x) (hm:X.mg x=none) (hv:Kr x=some u) (h:Q u s)
  (hn:x≠"__name__":=by decide) (hd:(x == [003])=false:=by decide):Fl (model X.prog X.w) X.A (eval (.Name x pos) X.env) Q E s:=by
 obtain⟨mb,h1,h2⟩:=I.mod.blt;exact Qs I.ok.kind hg (Calls.loadGlobal_builtin (by rw[I.ok.glob];exact I.mod.glob.keeps I.bk) hm (by rw[I.ok.blt];exact h1.keeps I.bk) ((h2 x hn).trans hv) h) hd
theorem qg {x:Fh}{v:V}{u:EH}{pos:Pos}(hg:Gl X x) (hm:X.mg x=some u) (r:bh v u) (hd:(x == [003])=false:=by decide):PE X (.Name x pos) (tC v):=
 fun _ _ _ H _ I h=>gj I hg hm #[v,H,I,r,h] hd
variable {a b:G8}{ta tb:TE}{pos:Pos}
def PC (X:Cx) (op:CmpOp) (a b:G8) (t:TE):Prop:=
 ∀(pins:EA (EJ×Ih)) (s:EM) (σ:St) (H:Hp) (Q:VK),aE X pins σ H s->t σ H Q->
  Fl (model X.prog X.w) X.A (eval a X.env) (fun v s₁=>Fl (model X.prog X.w) X.A (eval b X.env) (fun u s₂=>Fl (model X.prog X.w) X.A (HL op v u) [028] X.xe s₂) X.xe s₁) X.xe s
theorem AW (b:G8) (h:op≠ .In) (h2:op≠ .NotIn):behindInMarks op b=false:=by
 have e1:(op == CmpOp.In)=false:=by cases op<;>first|rfl|exact E7 rfl h
 have e2:(op == CmpOp.NotIn)=false:=by cases op<;>first|rfl|exact E7 rfl h2
 cases b<;>simp [behindInMarks,e1,e2]
def aeJ (ta:TE):TE:=fun σ H Q=>ta σ H fun x H1=>Q (.bl (!decide (x= .HZ))) H1
theorem bh.VB {x:V}{v:EH}(r:bh x v):(v == Hn)=decide (x= .HZ):=by
 cases x with
 |HZ=>cases r;rfl
 |bl _=>cases r;rfl
 |int _=>obtain⟨t,rfl⟩:=r;rfl
 |str _=>obtain⟨t,rfl⟩:=r;rfl
 |RF _=>obtain⟨t,rfl⟩:=r;rfl
 |W8 _=>obtain⟨t,rfl⟩:=r;rfl
 |ref _=>cases r;rfl
 |ty _=>cases r;rfl
theorem C7 {j MK} (ha:PE X a ta):PC X .IsNot a (.Constant .none j MK) (aeJ ta):=by
 rw[01];refine ca [023] fun v s1 ⟨x,H1,I1,r1,q1⟩=>?_;exact Constant_none (isnot_none_gen #[.bl _,H1,I1,by rw[r1.VB];rfl,q1])
inductive uu (R:FR->Hp->Prop) (x:V) (H1:Hp):Prop
 |mk (c:FR) (_:x= .bl c) (_:R c H1):uu R x H1
def tB (t:TE):TT:=fun σ H Q=>t σ H (uu Q)
theorem fB {t:TE}(h:PC X op a b t) (h1:behindInMarks op b=false:=by first|exact AW _ [01] [01]|rfl):PT X (.Compare a [op] [b] pos) (tB t):=by
 intro pins s σ H Q I hw;refine VI (ca (h pins s σ H _ I hw) fun v s1 h1=>ca h1 fun u s2 h2=>ca h2 fun c s3 ⟨x,H1,I1,r1,q1⟩=>?_) h1;obtain⟨d,rfl,q⟩:=q1;cases r1;exact Ic #[H1,I1,q]
theorem df {e:G8}{t:TE}(h:PE X e t) (he: ∀whole,isTrue e X.env whole=(do let v<-whole;standAt e.pos;holding [v] (truthy v)):=by intro _;rfl):PT X e (tB t):=by
 intro pins s σ H Q I hw;refine isTrue_plain (ca (h pins s σ H _ I hw) fun v s1 ⟨x,H1,I1,r1,q1⟩=>?_) (he _);obtain⟨d,rfl,q⟩:=q1;cases r1;exact Ic #[H1,I1,q]
variable {tA tB':TT}{rest:EA G8}
def ajJ (t u:TT):TT:=fun σ H Q=>t σ H fun c H1=>if c=true then u σ H1 Q else Q false H1
def tOr (t u:TT):TT:=fun σ H Q=>t σ H fun c H1=>if c=true then Q true H1 else u σ H1 Q
def ajK (t:TT):TT:=fun σ H Q=>t σ H fun c H1=>Q (!c) H1
theorem mh (ha:PT X a tA):PW X (.BoolOp .And [a] pos) tA:=by
 intro wh pins s σ H Q I h;refine isTrue_and (ca (ha pins s σ H Q I h) fun c s1 e=>?_);cases c with
 |true=>exact isTrue_and_nil e
 |false=>exact e
theorem qi (ha:PT X a tA):PW X (.BoolOp .Or [a] pos) tA:=by
 intro wh pins s σ H Q I h;refine isTrue_or (ca (ha pins s σ H Q I h) fun c s1 e=>?_);cases c with
 |false=>exact isTrue_or_nil e
 |true=>exact e
theorem qd (ha:PT X a tA) (hb:PW X (.BoolOp .And (b::rest) pos) tB'):PW X (.BoolOp .And (a::b::rest) pos) (ajJ tA tB'):=by
 intro wh pins s σ H Q I h;refine isTrue_and (ca [023] fun c s1 ⟨H1,I1,q1⟩=>?_);cases c with
 |true=>exact hb wh pins s1 σ H1 Q I1 q1
 |false=>exact#[H1,I1,q1]
theorem wM (ha:PT X a tA) (hb:PW X (.BoolOp .Or (b::rest) pos) tB'):PW X (.BoolOp .Or (a::b::rest) pos) (tOr tA tB'):=by
 intro wh pins s σ H Q I h;refine isTrue_or (ca [023] fun c s1 ⟨H1,I1,q1⟩=>?_);cases c with
 |true=>exact#[H1,I1,q1]
 |false=>exact hb wh pins s1 σ H1 Q I1 q1
theorem kU (ha:PT X a tA):PT X (.UnaryOp .Not a pos) (ajK tA):=by
 rw[01];exact isTrue_not (ha pins s σ H (fun c H1=>Q (!c) H1) I h)
def aeK (ta tb:TE):TE:=fun σ H Q=>ta σ H (uu (fun c H1=>if c=true then tb σ H1 Q else Q (.bl false) H1))
def ajL (ta tb:TE):TE:=fun σ H Q=>ta σ H (uu (fun c H1=>if c=true then Q (.bl true) H1 else tb σ H1 Q))
theorem jx {op} {t:TE}(h:PE X a t):PE X (.BoolOp op [a] pos) t:=fun pins s σ H Q I hw=>BoolOp_one (h pins s σ H Q I hw)
theorem on (ha:PE X a ta) (hb:PE X (.BoolOp .And (b::rest) pos) tb):PE X (.BoolOp .And (a::b::rest) pos) (aeK ta tb):=by
 rw[01];refine BoolOp_and (ca [023] fun v s1 ⟨x,H1,I1,r1,q1⟩=>?_);obtain⟨c,rfl,q1⟩:=q1;cases r1;refine Ic ?_;cases c with
 |true=>exact hb pins s1 σ H1 Q I1 q1
 |false=>exact#[.bl false,H1,I1,rfl,q1]
theorem Cc (ha:PE X a ta) (hb:PE X (.BoolOp .Or (b::rest) pos) tb):PE X (.BoolOp .Or (a::b::rest) pos) (ajL ta tb):=by
 rw[01];refine BoolOp_or (ca [023] fun v s1 ⟨x,H1,I1,r1,q1⟩=>?_);obtain⟨c,rfl,q1⟩:=q1;cases r1;refine Ic ?_;cases c with
 |false=>exact hb pins s1 σ H1 Q I1 q1
 |true=>exact#[.bl true,H1,I1,rfl,q1]
def tIf (t:TT) (ta tb:TE):TE:=fun σ H Q=>t σ H fun c H1=>if c=true then ta σ H1 Q else tb σ H1 Q
theorem dB {c:G8}(hc:PT X c tA) (ha:PE X a ta) (hb:PE X b tb):PE X (.IfExp c a b pos) (tIf tA ta tb):=by
 rw[01];refine wpAny_IfExp (ca (hc pins s σ H _ I h) fun d s1 ⟨H1,I1,q1⟩=>?_);cases d with
 |true=>exact ha pins s1 σ H1 Q I1 q1
 |false=>exact hb pins s1 σ H1 Q I1 q1
end
def ajM:EH->ET V
 | .none=>some .HZ
 | .bool b=>some (.bl b)
 | .int i _=>some (.int i)
 | .str x _=>some (.str x)
 | .bytes b _=>some (.RF b)
 | .float b _=>some (.W8 b)
 | .ref a=>some (.ref a)
 | .type n=>some (.ty n)
 |_=>none
theorem bh.abs {x:V}{u:EH}(r:bh x u):ajM u=some x:=by
 cases x with
 |HZ=>cases r;rfl
 |bl _=>cases r;rfl
 |int _=>obtain⟨t,rfl⟩:=r;rfl
 |str _=>obtain⟨t,rfl⟩:=r;rfl
 |RF _=>obtain⟨t,rfl⟩:=r;rfl
 |W8 _=>obtain⟨t,rfl⟩:=r;rfl
 |ref _=>cases r;rfl
 |ty _=>cases r;rfl
theorem bh.inj {x y:V}{u:EH}(r:bh x u) (q:bh y u):x=y:=E5 (r.abs.symm.trans q.abs)
theorem aX.inj: ∀ {xs ys:EA V}{us:EA EH},aX xs us->aX ys us->xs=ys
 |_,_,_, .nil, .nil=>rfl
 |_,_,_, .cons r t, .cons r' t'=>by rw[r.inj r',aX.inj t t']
section
variable {X:Cx}{pins:EA (EJ×Ih)}{σ:St}{H:Hp}{s:EM}{a:EJ}{xs ys:EA V}
theorem rh.of {K:EF}(h:H a=some (.tup xs)):rh K H a xs:= .inl (.inl h)
theorem aE.list (I:aE X pins σ H s) (h:cP X.K H a xs): ∃Hc:EA EH,aX xs Hc/\PlainL s.heap a Hc.toArray/\xs.length<=FE:=by
 rcases h with h|⟨o,Hc,n,hk,hc,hd,hs,hz,r⟩
 ·obtain⟨z,Hc,n,r,e⟩:=h.ok I.HH
  exact#[Hc,r,#[_,n,e,rfl,rfl,rfl],z]
 ·refine#[Hc.toList,r,#[o,n,I.MI a o hk,hc,hd,by simpa using hs],?_]
  have e:=r.length;simp only[Tq] at e;lia
theorem aE.tuple (I:aE X pins σ H s) (h:rh X.K H a xs): ∃Hc:EA EH,aX xs Hc/\IsTup s.heap a Hc.toArray/\xs.length<=FE:=by
 rcases h with h|⟨o,Hc,n,hk,hc,hs,hz,r⟩
 ·obtain⟨z,Hc,r,p⟩:=h.ok I.HH
  exact#[Hc,r,p,z]
 ·refine#[Hc.toList,r,#[o,I.MI a o hk,hc,n,by simpa using hs],?_]
  have e:=r.length;simp only[Tq] at e;lia
theorem aE.VC (I:aE X pins σ H s) (h:cP X.K H a xs) (h':cP X.K H a ys):xs=ys:=by
 obtain⟨Hc,r,⟨o,n,e,_,_,d⟩,_⟩:=I.list h;obtain⟨its',r',⟨o',n',e',_,_,d'⟩,_⟩:=I.list h';rw[e] at e';cases e';rw[d] at d';injection d' with d1 _;have:Hc=its':=by simpa using FN RE d1
 subst this;exact r.inj r'
end
abbrev Cx.QH (X:Cx) (E:EH->EM->Prop):Cx:= { X with xe:=E }
abbrev Cx.nox (X:Cx):Cx:=X.QH fun _ _=>False
theorem Cx.Ok.QH {X:Cx}(ok:X.Ok) (E:EH->EM->Prop):(X.QH E).Ok:=
 #[ok.mod,ok.kind,ok.glob,ok.blt,ok.above,ok.inj,ok.has,ok.Xg,ok.hd,ok.frames,ok.Xh,ok.ZH,ok.bs,ok.Ue,ok.RV,ok.RW,ok.funs,ok.VU]
theorem Cx.Ok.Nv {X:Cx}{E:EH->EM->Prop}(ok:(X.QH E).Ok):X.Ok:=
 #[ok.mod,ok.kind,ok.glob,ok.blt,ok.above,ok.inj,ok.has,ok.Xg,ok.hd,ok.frames,ok.Xh,ok.ZH,ok.bs,ok.Ue,ok.RV,ok.RW,ok.funs,ok.VU]
section
variable {X:Cx}{pins:EA (EJ×Ih)}{σ:St}{H:Hp}{s:EM}{E:EH->EM->Prop}
theorem aE.QH (I:aE X pins σ H s) (E:EH->EM->Prop):aE (X.QH E) pins σ H s:=#[I.ok.QH E,I.os,I.bare,I.base,I.loc,I.cell,I.free,I.LG,I.pin,I.HH,I.len]
theorem aE.Nv (I:aE (X.QH E) pins σ H s):aE X pins σ H s:=#[I.ok.Nv,I.os,I.bare,I.base,I.loc,I.cell,I.free,I.LG,I.pin,I.HH,I.len]
theorem SP.Nv {f:Flow}{s':EM}(h:SP (X.QH E) pins D f s'):SP X pins D f s':=by
 cases f with
 |next=>obtain⟨σ',H',I,q⟩:=h;exact#[σ',H',I.Nv,q]
 |brk=>obtain⟨σ',H',I,q⟩:=h;exact#[σ',H',I.Nv,q]
 |cont=>obtain⟨σ',H',I,q⟩:=h;exact#[σ',H',I.Nv,q]
 |ret u=>obtain⟨v,σ',H',I,r,q⟩:=h;exact#[v,σ',H',I.Nv,r,q]
theorem tY.nox {st:EA Stmt}{t:TS}(h:tY X.nox st t):tY X st t:=fun pins s σ H D I hw=>
 HP (h pins s σ H D (I.QH _) hw) (fun _ _ q=>q.Nv) fun _ _ z=>HW z
end
section
variable {X:Cx}{st:Stmt}{rest:EA Stmt}{t u:TS}{e:G8}{te:TE}{pos:Pos}
def aeL:TS:=fun D σ H=>D.nx σ H
def ajN (t u:TS):TS:=fun D σ H=>t { D with nx:=u D } σ H
theorem br:tY X [] aeL:=fun _ _ σ H _ I h=>Mj #[σ,H,I,h]
theorem ax (h1:PS X st t) (h2:tY X rest u):tY X (st::rest) (ajN t u):=by
 rw[04];refine wpAny_execs_cons (ca (h1 pins s σ H { D with nx:=u D } I h) fun f s1 q=>?_);cases f with
 |next=>
  obtain⟨σ',H',I',q⟩:=q;exact h2 pins s1 σ' H' D I' q
 |ret v=>exact q
 |brk=>exact q
 |cont=>exact q
theorem ah (h1:PS X st t):tY X [st] t:=by
 rw[04];refine wpAny_execs_cons (ca (h1 pins s σ H D I h) fun f s1 q=>?_);cases f with
 |next=>exact Mj q
 |ret v=>exact q
 |brk=>exact q
 |cont=>exact q
def ZK:TS:=fun D σ H=>D.bk σ H
theorem CC:PS X (.Break pos) ZK:=fun _ _ σ H _ I h=>wpAny_Break #[σ,H,I,h]
theorem aE.quiet {pins:EA (EJ×Ih)}{σ:St}{H:Hp}{s:EM}(I:aE X pins σ H s):interactive X.env=false:=by simp [interactive,I.ok.kind]
def aeM (te:TE):TS:=fun D σ H=>te σ H fun _ H1=>D.nx σ H1
theorem bi (he:PE X e te) (hs:K7 e none pos.line X.env=pure false:=by rfl):PS X (.Expr e pos) (aeM te):=by
 rw[04];exact wpAny_Expr_any (ca [043] fun v s1 ⟨x,H1,I1,r1,q1⟩=>#[σ,H1,I1,q1]) I.quiet hs
def aeN (te:TE):TS:=fun D σ H=>te σ H D.rt
theorem aJ (he:PE X e te):PS X (.Return (some e) pos) (aeN te):=by
 rw[04];exact wpAny_Return_some (ca [043] fun v s1 ⟨x,H1,I1,r1,q1⟩=>#[x,σ,H1,I1,r1,q1])
def ajO (c:TT) (t u:TS):TS:=fun D σ H=>c σ H fun b H1=>if b=true then t D σ H1 else u D σ H1
theorem cy {c:G8}{a b:EA Stmt}{tc:TT}(hc:PT X c tc) (ha:tY X a t) (hb:tY X b u):PS X (.If c a b pos) (ajO tc t u):=by
 rw[04];refine wpAny_If (ca (hc pins s σ H _ I h) fun d s1 ⟨H1,I1,q1⟩=>?_);cases d with
 |true=>exact ha pins s1 σ H1 D I1 q1
 |false=>exact hb pins s1 σ H1 D I1 q1
end
abbrev TG:=V->St->Hp->(St->Hp->Prop)->Prop
def PG (X:Cx) (target:G8) (t:TG):Prop:=
 ∀(pins:EA (EJ×Ih)) (s:EM) (σ:St) (H:Hp) (v:V) (u:EH) (Q:St->Hp->Prop),aE X pins σ H s->bh v u->t v σ H Q->
  Fl (model X.prog X.w) X.A (assign target X.env u) (fun _ s'=> ∃σ' H',aE X pins σ' H' s'/\Q σ' H') X.xe s
abbrev TIp:=V->V->Hp->VK->Prop
def PIp (X:Cx) (op:Operator) (t:TIp):Prop:=
 ∀(pins:EA (EJ×Ih)) (s:EM) (σ:St) (H:Hp) (x y:V) (v u:EH) (Q:VK),aE X pins σ H s->bh x v->bh y u->t x y H Q->
  Fl (model X.prog X.w) X.A (inplaceOp op v u) [028] X.xe s
section
variable {X:Cx}{pos:Pos}
def Xk (i:E1):TG:=fun v σ H Q=>Q (σ.set i (some v)) H
theorem ki {i:E1}{x:Fh}(hN:X.N.Nodup) (hi:X.N[i]?=some x) (hx:Loc X.env.scope x) (hf:X.fn x=true\/X.env.scope.names.lookup x=some .local:=by first|exact .inl rfl|exact .inr rfl|assumption):PG X (.Name x pos) (Xk i):=by
 intro pins s σ H v u Q I r h;exact wpAny_assign_Name (jM I hN hi hx r (fun s' I'=>#[_,H,I',h]) hf)
def ajP (te:TE) (g:TG):TS:=fun D σ H=>te σ H fun x H1=>g x σ H1 D.nx
theorem cG {i:E1}{x:Fh}{e:G8}{te:TE}{MK:Pos}(hN:X.N.Nodup) (hi:X.N[i]?=some x) (hx:Loc X.env.scope x) (he:PE X e te) (hs:K7 e (some (.Name x MK)) pos.line X.env=pure false:=by rfl) (hf:X.fn x=true\/X.env.scope.names.lookup x=some .local:=by first|exact .inl rfl|exact .inr rfl|assumption):
  PS X (.Assign [.Name x MK] e pos) (ajP te (Xk i)):=by
 rw[04];refine wpAny_Assign_Name (ca [043] fun v s1 ⟨y,H1,I1,r1,q1⟩=>?_) hs;exact jM I1 hN hi hx r1 (fun s2 I2=>#[_,H1,I2,q1]) hf
def ajQ (i:E1) (te:TE) (ti:TIp):TS:=fun D σ H=> ∃x,σ[i]?=some (some x)/\te σ H fun y H1=>ti x y H1 fun z H2=>D.nx (σ.set i (some z)) H2
theorem kG {i:E1}{x:Fh}{e:G8}{te:TE}{MK:Pos}(hN:X.N.Nodup) (hi:X.N[i]?=some x) (hx:Loc X.env.scope x) (he:PE X e te) (ho:PIp X op ti) (hf:X.fn x=true\/X.env.scope.names.lookup x=some .local:=by first|exact .inl rfl|exact .inr rfl|assumption):
  PS X (.AugAssign (.Name x MK) op e pos) (ajQ i te ti):=by
 rw[04];obtain⟨v,e1,h⟩:=h;obtain⟨m,hn,hl⟩:=I.loc;have ZL:oH X.env.scope x:=by rcases hx with k|k;exact .inl k;exact .inr (.inl k)
 obtain⟨u,r,l⟩:=hl i x v hi e1 ZL;refine wpAny_AugAssign_Name ?_;have go:Fl (model X.prog X.w) X.A (eval e X.env) (fun w s₂=>Fl (model X.prog X.w) X.A (inplaceOp op u w) (fun r s₃=>Fl (model X.prog X.w) X.A (storeName X.env x r) (fun _=>SP X pins D .next) X.xe s₃) X.xe s₂) X.xe s:=by
  refine ca [043] fun w s1 ⟨y,H1,I1,r1,q1⟩=>?_;refine ca (ho pins s1 σ H1 v y u w _ I1 r r1 q1) fun z s2 ⟨zv,H2,I2,r2,q2⟩=>?_;exact jM I2 hN hi hx r2 (fun s3 I3=>#[_,H2,I3,q2]) hf
 rcases l with⟨hk,hm⟩|⟨hk,c,hc,TN⟩
 ·exact V4 I.ok.kind hk hn hm go
 ·rcases hk with hk|hk
  ·exact WV I.ok.kind hk hc TN go
  ·rcases hx with k|k
   ·have:X.env.scope.names.lookup x=some .free:=hk
    rw[k] at this;cases this
   ·have:X.env.scope.names.lookup x=some .free:=hk
    rw[k] at this;cases this
def ipI (f:Int->Int->Int):TIp:=fun x y H Q=> ∃i j,x= .int i/\y= .int j/\Q (.int (f i j)) H
theorem kT:PIp X .Add (ipI fun i j=>i+j):=by
 intro pins s σ H x y v u Q I r1 r2 h;obtain⟨i,j,e1,e2,q⟩:=h;subst e1;subst e2;obtain⟨t,rfl⟩:=r1;obtain⟨t',rfl⟩:=r2;exact iadd_int #[.int _,H,I.tok _,#[_,rfl],q]
end
section
variable {X:Cx}{pos:Pos}
def ZM (c:TT) (tb:TS):TS:=fun D σ H=> ∃W:E1->St->Hp->Prop,(∃m,W m σ H)/\ ∀m σ H,W m σ H->
 c σ H fun b H1=>if b=true then∃N:St->Hp->Prop,(∀σ' H',N σ' H'-> ∃m',m'<m/\W m' σ' H')/\tb { D with nx:=N,ct:=N,bk:=D.nx } σ H1 else D.nx σ H1
theorem iI {c:G8}{tc:TT}{tb:TS}(hp:Pc (model X.prog X.w) X.A X.env X.xe) (hc:PT X c tc) (hb:tY X body tb):PS X (.While c body [] pos) (ZM tc tb):=by
 rw[04];obtain⟨W,⟨m0,w0⟩,turn⟩:=h;refine wpAny_While (codeAny_whileLoop (fun n s'=> ∃σ' H',aE X pins σ' H' s'/\W n σ' H') ?_ m0 #[σ,H,I,w0]);rintro n s1 ⟨σ1,H1,I1,w1⟩;refine JU hp (ca (hc pins s1 σ1 H1 _ I1 (turn n σ1 H1 w1)) fun b s2 ⟨H2,I2,q2⟩=>?_);cases b with
 |true=>
  obtain⟨N,hN,q2⟩:=q2;rw[EL rfl];refine JU hp (ca (hb pins s2 σ1 H2 _ I2 q2) fun f s3 q3=>?_);cases f with
  |next=>
   obtain⟨σ3,H3,I3,n3⟩:=q3;obtain⟨m',hm,w3⟩:=hN σ3 H3 n3;exact#[m',hm,σ3,H3,I3,w3]
  |cont=>
   obtain⟨σ3,H3,I3,n3⟩:=q3;obtain⟨m',hm,w3⟩:=hN σ3 H3 n3;exact#[m',hm,σ3,H3,I3,w3]
  |brk=>exact q3
  |ret v=>exact q3
 |false=>
  rw[EI EE];exact Mj #[σ1,H2,I2,q2]
end
structure It where
 go:E1->Hp->Prop
 yld:E1->Hp->V->Hp->Prop
 stop:E1->Hp->Prop
def oS (X:Cx) (pins:EA (EJ×Ih)) (H:Hp) (b:EJ):Prop:=
 H b=none/\b≠X.env.locals/\b∉X.fs/\(b∈X.ex\/X.OZ.heap.objs.size<=b)/\(∀x c,X.env.cells.lookup x=some c->c≠b)/\ ∀p∈X.pn++pins,p.1≠b
theorem aE.ZN {X:Cx}{pins:EA (EJ×Ih)}{σ:St}{H H':Hp}{s:EM}{b:EJ}(I:aE X pins σ H s) (hb:s.heap.objs.size<=b) (hn:H' b=none):oS X pins H' b:=by
 refine#[hn,KU (Fv I.lt hb),I.ajH hb, .inr (Fj I.sz hb),fun x c e z=>?_,fun p hp z=>?_]
 ·obtain⟨v,q⟩:=I.cell x c e
  exact E7 (Fv q.lt (by rw[z];exact hb)) (Hq _)
 ·exact E7 (Fv (Fn (I.pin p hp).1) (by rw[z];exact hb)) (Hq _)
structure Turn (P:Fz) (w:Ga) (K:EF) (tg:G8) (J:It) (fp:EA EJ) (it:EJ) (tn:E1->Gn->Prop):Prop where
 mem:it∈fp
 obj: ∀i h,tn i h-> ∀b∈fp,∃o,h.get? b=some o/\ ∀v,o.data≠ .cell v
 keep: ∀i h h',tn i h->(∀b∈fp,∀o,h.get? b=some o->h'.get? b=some o)->tn i h'
 item: ∀(X:Cx),X.prog=P->X.w=w->X.K=K->X.calm=true-> ∀(i:E1) (pins:EA (EJ×Ih)) (s:EM) (σ:St) (H:Hp) (E:EH->EM->Prop),aE X pins σ H s->(∀b∈fp,oS X pins H b)->tn i s.heap->J.go i H->
  Fl (model P w) X.A (QY (.ref it)) (fun r s1=> ∃u,r=some u/\
   Fl (model P w) X.A (Oe tg (.ref it) u) (fun _ s2=> ∃x H',aE X pins σ H' s2/\bh x u/\J.yld i H x H'/\tn (i+1) s2.heap/\ ∀b∈fp,H' b=none) E s1) E s
 done: ∀(X:Cx),X.prog=P->X.w=w->X.K=K->X.calm=true-> ∀(i:E1) (pins:EA (EJ×Ih)) (s:EM) (σ:St) (H:Hp) (E:EH->EM->Prop),aE X pins σ H s->(∀b∈fp,oS X pins H b)->tn i s.heap->J.stop i H->
  Fl (model P w) X.A (QY (.ref it)) (fun r s1=>r=none/\aE X pins σ H s1) E s
 self: ∀(A:Gk) (i:E1) (s:EM) (Q:EH->EM->Prop) (E:EH->EM->Prop),tn i s.heap->Q (.ref it) s->Fl (model P w) A (pyIter (.ref it)) Q E s
abbrev TI:=St->Hp->(It->Hp->Prop)->Prop
def PIE (X:Cx) (pins:EA (EJ×Ih)) (σ:St) (tg:G8) (R:It->Hp->Prop) (itv:EH) (s2:EM):Prop:=
 ∃(it:EJ) (fp:EA EJ) (tn:E1->Gn->Prop) (J:It) (H':Hp),itv= .ref it/\aE X pins σ H' s2/\Turn X.prog X.w X.K tg J fp it tn/\tn 0 s2.heap/\(∀b∈fp,oS X pins H' b)/\R J H'
def PI (X:Cx) (tg iter:G8) (wi:TI):Prop:=
 ∀(pins:EA (EJ×Ih)) (s:EM) (σ:St) (H:Hp) (R:It->Hp->Prop),aE X pins σ H s->wi σ H R->
  Fl (model X.prog X.w) X.A (eval iter X.env) (fun v s1=>Fl (model X.prog X.w) X.A (pyIter v) (PIE X pins σ tg R) X.xe s1) X.xe s
theorem Xl {A:Gk}{E:EH->EM->Prop}{s:EM}{tg:G8}{it:EJ}{u:EH}{o:Ih}{Q:Mo->EM->Prop}(ho:s.heap.get? it=some o) (hc:o.cls= .type n) (hd:o.data= .fields vs)
  (hn:["enumerate","zip","dict_itemiterator","dict_reverseitemiterator","odict_iterator","itertools.zip_longest","itertools.pairwise"].contains n=false) (hQ:Q () s):Fl M A (Oe tg (.ref it) u) Q E s:=by
 unfold Oe;cases tg<;>first
  |exact Fx hQ
  | (cases u<;>first
    |exact Fx hQ
    | (refine E3 (wpAny_load ho ?_)
       rw[hc,hd];show Fl M A (if(["enumerate","zip","dict_itemiterator","dict_reverseitemiterator","odict_iterator","itertools.zip_longest","itertools.pairwise"].contains n&&vs[0]? == some (Nf _))=true then _ else _) Q E s
       rw[EI (by intro h;rw[hn,Iy] at h;cases h)];exact Fx hQ))
def Xm (K:EF) (a:EJ):It:=
 #[fun i H=> ∃xs x,cP K H a xs/\xs[i]?=some x,fun i H x H'=>H'=H/\ ∀xs,cP K H a xs->xs[i]?=some x,fun i H=> ∃xs,cP K H a xs/\xs.length<=i]
def Itr (lo:Int) (n:E1):It:=#[fun i _=>i<n,fun i H x H'=>H'=H/\x= .int (lo+i),fun i _=>n<=i]
theorem zj {P:Fz}{w:Ga}{K:EF}{tg:G8}(a it:EJ):Turn P w K tg (Xm K a) [it] it (fun i h=>h.IsListIter it a i) where
 mem:=by simp
 obj:=fun i h st b hb=>by
  have e:b=it:=by simpa using hb
  subst e;obtain⟨o,e,c,d⟩:=st;exact#[o,e,fun v z=>by rw[d] at z;cases z]
 keep:=fun i h h' st k=>st.at fun o e=>k it [024] o e
 item:=by
  intro X hP hw hK hc i pins s σ H E I hf st hg;subst hP hw hK;obtain⟨xs,x,hq,hx⟩:=hg;obtain⟨Hc,rv,p,hz⟩:=I.list hq;obtain⟨u,hu,ru⟩:=rv.get hx;obtain⟨f0,f1,f2,f3,f4,f5⟩:=hf it [024];refine wpAny_pyNext_list_item st p.isList (x:=u) (by simpa using hu) fun h' st' sb=>?_;have I1:aE X pins σ H { s with heap:=h' } :=I.turned (t':=s.toks) (fun b o hb e=>(sb.2 b hb).trans e) f0 f1 f3 f4 f5
  obtain⟨o,e,c,d⟩:=id st';exact#[u,rfl,Xl (s:= { s with heap:=h' }) e c d [01] #[x,H,I1,ru,#[rfl,fun ys hy=>by rw[I.VC hy hq];exact hx],st',fun b hb=>(hf b hb).1]]
 done:=by
  intro X hP hw hK hc i pins s σ H E I hf st hg;subst hP hw hK;obtain⟨xs,hq,hx⟩:=hg;obtain⟨Hc,rv,p,hz⟩:=I.list hq;obtain⟨f0,f1,f2,f3,f4,f5⟩:=hf it [024];have hl:=rv.length;exact wpAny_pyNext_list_end (I.ok.hd hc) st p.isList (by simp;lia) fun h' eb=>#[rfl,I.turned (t':=s.toks) (fun b o hb e=>eb b o hb e) f0 f1 f3 f4 f5]
 self:=fun _ _ _ _ _ st h=>wpAny_pyIter_listiter st h
theorem vj {P:Fz}{w:Ga}{K:EF}{tg:G8}(it:EJ) (lo:Int) (n:E1):Turn P w K tg (Itr lo n) [it] it (fun i h=>IsRangeIter h it (lo+(i:E1)*1) ((n:Int)-(i:E1)) 1) where
 mem:=by simp
 obj:=fun i h st b hb=>by
  have e:b=it:=by simpa using hb
  subst e;exact#[_,st,fun v z=>by
   have z':Data.fields _=Data.cell v:=z;cases z']
 keep:=fun i h h' st k=>k it [024] _ st
 item:=by
  intro X hP hw hK hc i pins s σ H E I hf st hg;subst hP hw hK;obtain⟨f0,f1,f2,f3,f4,f5⟩:=hf it [024];have W:=Walks.range (prog:=X.prog) (w:=X.w) (I.ok.hd hc) it lo 1 n;refine W.item i s _ _ hg st fun v h' tk hv st' kk=>?_;obtain⟨t,rfl⟩:=hv;have I1:aE X pins σ H { s with heap:=h',toks:=tk } :=I.turned (fun b o hb e=>kk b o (by simpa using hb) e) f0 f1 f3 f4 f5
  refine#[_,rfl,Xl (s:= { s with heap:=h',toks:=tk }) (n:="range_iterator") st' rfl rfl [01] #[.int (lo+i),H,I1,#[t,?_],#[rfl,rfl],st',fun b hb=>(hf b hb).1]];rw[Int.mul_one]
 done:=by
  intro X hP hw hK hc i pins s σ H E I hf st hg;subst hP hw hK;obtain⟨f0,f1,f2,f3,f4,f5⟩:=hf it [024];exact wpAny_pyNext_range_end (I.ok.hd hc) st (by have:n<=i:=hg;lia) fun h' eb=>#[rfl,I.turned (t':=s.toks) (fun b o hb e=>eb b o hb e) f0 f1 f3 f4 f5]
 self:=fun _ _ _ _ _ st h=>wpAny_pyIter_rangeiter st h
section
variable {X:Cx}{tg:G8}
inductive Xn (K:EF) (R:It->Hp->Prop) (x:V) (H1:Hp):Prop
 |mk (a:EJ) (_:x= .ref a) (_:(∃xs,cP K H1 a xs)) (_:R (Xm K a) H1):Xn K R x H1
def aeO (K:EF) (tl:TE):TI:=fun σ H R=>tl σ H (Xn K R)
theorem l8 {l:G8}{tl:TE}(hl:PE X l tl):PI X tg l (aeO X.K tl):=by
 intro pins s σ H R I h;refine ca (hl pins s σ H _ I h) fun v s1 ⟨x,H1,I1,r1,q1⟩=>?_;obtain⟨a,e,⟨xs,hq⟩,q⟩:=q1;subst e;cases r1;obtain⟨Hc,rv,p,hz⟩:=I1.list hq;refine wpAny_pyIter_list p.isList ?_;refine#[s1.heap.objs.size,[s1.heap.objs.size],_,_,H1,rfl,I1.kept (t':=s1.toks) fun b o e=>E2 _ e,zj a _,#[_,Gy _ rfl,rfl,rfl],fun b hb=>?_,q];have e:b=s1.heap.objs.size:=by simpa using hb
 subst e;exact I1.ZN (E6 _) (I1.HH.fresh (E6 _))
theorem BF {pins:EA (EJ×Ih)}{σ:St}{H:Hp}{s:EM}{R:It->Hp->Prop}{E:EH->EM->Prop}{lo hi:Int}{t u v:Tok}{tk:E1}(I:aE X pins σ H s) (h1: -(2 ^ 62)<=lo) (h2:lo<2 ^ 62) (h3: -(2 ^ 62)<=hi) (h4:hi<2 ^ 62)
  (q:R (Itr lo (hi-lo).toNat) H):Fl (model X.prog X.w) X.A (pyIter [081]) (PIE X pins σ tg R) E { s with heap:=s.heap.push { cls:= .type "range",data:= .fields [.int lo t, .int hi u, .int 1 v].toArray },toks:=tk } :=by
 refine wpAny_pyIter_range (IsRange.new ..) (small_one h1 h2 h3 h4) ?_;have I1:aE X pins σ H { s with heap:=s.heap.push { cls:= .type "range",data:= .fields [.int lo t, .int hi u, .int 1 v].toArray },toks:=tk } :=I.kept fun b o e=>E2 _ e
 refine#[(s.heap.push { cls:= .type "range",data:= .fields [.int lo t, .int hi u, .int 1 v].toArray }).objs.size,[(s.heap.push { cls:= .type "range",data:= .fields [.int lo t, .int hi u, .int 1 v].toArray }).objs.size],_,_,H,rfl,
  I1.kept (t':=tk) fun b o e=>E2 _ e,vj _ lo (hi-lo).toNat,?_,fun b hb=>?_,q]
 ·have e1:lo+((0:E1):Int)*1=lo:=by simp
  have e2:(((hi-lo).toNat:E1):Int)-((0:E1):Int)=Builtin.Range.rangeSize lo hi 1:=by rw[rangeSize_one];split<;>lia
  show IsRangeIter _ _ (lo+((0:E1):Int)*1) ((((hi-lo).toNat:E1):Int)-((0:E1):Int)) 1
  rw[e1,e2];exact Gy _ rfl
 ·have e:b=(s.heap.push { cls:= .type "range",data:= .fields [.int lo t, .int hi u, .int 1 v].toArray }).objs.size:=by simpa using hb
  subst e;exact I1.ZN (E6 _) (I1.HH.fresh (E6 _))
def aeP (ta:TA):TI:=fun σ H R=>ta σ H fun vs H1=> ∃j:Int,vs=[.int j]/\ -(2 ^ 62)<=j/\j<2 ^ 62/\R (Itr 0 j.toNat) H1
theorem xV {a:G8}{ta:TA}{p pos:Pos}(hg:Gl X "range") (hm:X.mg "range"=none) (ha:PA X [a] ta) (hs:Fb [a] X.env=[(false,eval a X.env)]:=by rfl):PI X tg (.Call (.Name "range" p) [a] [] pos) (aeP ta):=by
 intro pins s σ H R I h;refine Call_ (lj I hg hm boot_range (Jt (ca [070] fun us s1 ⟨vs,H1,I1,r1,q1⟩=>?_) hs rfl));obtain⟨j,e,q1,q2,q⟩:=q1;subst e;cases r1 with
 |cons r rr=>
  cases rr;obtain⟨t,rfl⟩:=r;exact call_range_1 (BF I1 (by lia) (by lia) q1 q2 (by simpa using q))
def ajR (wi:TI) (g:TG) (tb:TS):TS:=fun D σ H=>wi σ H fun J H1=> ∃W:E1->E1->St->Hp->Prop,(∃m,W 0 m σ H1)/\ ∀i m σ H,W i m σ H->
 (J.stop i H/\D.nx σ H)\/(J.go i H/\ ∃N:St->Hp->Prop,(∀σ' H',N σ' H'-> ∃m',m'<m/\W (i+1) m' σ' H')/\ ∀x H',J.yld i H x H'->g x σ H' fun σ2 H2=>tb { D with nx:=N,ct:=N,bk:=D.nx } σ2 H2)
def mY (fp:EA EJ) (h:Gn):EA (EJ×Ih):=fp.filterMap fun b=>(h.get? b).map fun o=>(b,o)
theorem jB {h:Gn}{b:EJ}{o:Ih}(hb:b∈fp) (e:h.get? b=some o):(b,o)∈mY fp h:=Uy.mpr #[b,hb,by rw[e];rfl]
theorem yH {h:Gn}{p:EJ×Ih}(hp:p∈mY fp h):p.1∈fp/\h.get? p.1=some p.2:=by
 obtain⟨b,hb,e⟩:=Uy.mp hp;cases q:h.get? b with
 |none=>rw[q] at e;cases e
 |some o=>
  rw[q] at e;have e':(b,o)=p:=E5 e;subst e';exact#[hb,q]
theorem aE.pinned {pins:EA (EJ×Ih)}{σ:St}{H:Hp}{s:EM}(I:aE X pins σ H s) (hf: ∀b∈fp,oS X pins H b) (ho: ∀b∈fp,∃o,s.heap.get? b=some o/\ ∀v,o.data≠ .cell v):aE X (pins++mY fp s.heap) σ H s:=
 I.TJ fun p hp=>(Fp.mp hp).elim (fun z=>I.pin p (GI _ z)) fun z=>by
  obtain⟨hb,e⟩:=yH z;obtain⟨f0,f1,f2,_⟩:=hf p.1 hb;obtain⟨o,e',d⟩:=ho p.1 hb;rw[e] at e';cases e';exact#[e,f0,f1,f2,d]
theorem aE.OM {pins pl:EA (EJ×Ih)}{σ:St}{H:Hp}{s:EM}(I:aE X (pins++pl) σ H s):aE X pins σ H s:=I.TJ fun p hp=>I.pin p (GI _ (Lu _ hp))
theorem uG {g:TG}{tb:TS}{pos:Pos}(hp:Pc (model X.prog X.w) X.A X.env X.xe) (hc:X.calm=true) (hi:PI X tg iter wi) (hg:PG X tg g) (hb:tY X body tb)
  (hs: ∀x,Lk iter X.env x=pure x:=by intro _;rfl):PS X (.For tg iter body [] pos) (ajR wi g tb):=by
 rw[04];refine wpAny_For (ca (hi pins s σ H _ I h) fun v s1 h1=>ca h1 fun itv s2 h2=>?_) hs;obtain⟨it,fp,tn,J,H2,e,I2,T,st2,f2,W,⟨m0,w0⟩,turn⟩:=h2;subst e;have S8: ∀ {H':Hp},(∀b∈fp,H' b=none)-> ∀b∈fp,oS X pins H' b:=fun hn b hb=>#[hn b hb,(f2 b hb).2]
 refine codeAny_forLoop_any (fun n s'=> ∃i σ' H',aE X pins σ' H' s'/\tn i s'.heap/\(∀b∈fp,H' b=none)/\W i n σ' H') ?_ m0 #[0,σ,H2,I2,st2,fun b hb=>(f2 b hb).1,w0];rintro n s3 ⟨i,σ3,H3,I3,st3,fr3,w3⟩;rcases turn i n σ3 H3 w3 with⟨stop,qn⟩|⟨go,N,hN,step⟩
 ·refine JU hp (ca (T.done X rfl rfl rfl hc i pins s3 σ3 H3 X.xe I3 (S8 fr3) st3 stop) fun r s4 ⟨hr,I4⟩=>?_)
  subst hr;exact Mj #[σ3,H3,I4,qn]
 ·refine JU hp (ca (T.item X rfl rfl rfl hc i pins s3 σ3 H3 X.xe I3 (S8 fr3) st3 go) fun r s4 ⟨u,hr,h4⟩=>?_)
  subst hr;refine JU hp (ca h4 fun _ s5 ⟨x,H5,I5,r5,y5,st5,fr5⟩=>?_);have I5':=I5.pinned (S8 fr5) (T.obj _ _ st5);refine JU hp (ca (hg _ s5 σ3 H5 x u _ I5' r5 (step x H5 y5)) fun _ s6 ⟨σ6,H6,I6,q6⟩=>?_);refine JU hp (ca (hb _ s6 σ6 H6 _ I6 q6) fun f s7 q7=>?_);have again: ∀ {σ7:St}{H7:Hp},aE X (pins++mY fp s5.heap) σ7 H7 s7->N σ7 H7-> ∃m,m<n/\ ∃i σ' H',aE X pins σ' H' s7/\tn i s7.heap/\(∀b∈fp,H' b=none)/\W i m σ' H':=fun {σ7 H7} I7 n7=>by
   obtain⟨m',hm,w7⟩:=hN σ7 H7 n7;refine#[m',hm,i+1,σ7,H7,I7.OM,T.keep _ _ _ st5 fun b hb o e=>(I7.pin (b,o) (GI _ (GI _ (jB hb e)))).1,fun b hb=>?_,w7];obtain⟨o,e,d⟩:=T.obj _ _ st5 b hb;exact(I7.pin (b,o) (GI _ (GI _ (jB hb e)))).2.1
  cases f with
  |next=>obtain⟨σ7,H7,I7,n7⟩:=q7;exact again I7 n7
  |cont=>obtain⟨σ7,H7,I7,n7⟩:=q7;exact again I7 n7
  |brk=>obtain⟨σ7,H7,I7,q7⟩:=q7;exact#[σ7,H7,I7.OM,q7]
  |ret v=>obtain⟨x7,σ7,H7,I7,r7,q7⟩:=q7;exact#[x7,σ7,H7,I7.OM,r7,q7]
end
theorem si {K:EF}{a:EJ}{xs:EA V}{g:TG}{tb:TS}{D:eG}{σ:St}{H:Hp}(Pv:E1->St->Hp->Prop) (h0:Pv 0 σ H) (hl: ∀i σ H,i<=xs.length->Pv i σ H->cP K H a xs)
  (hs: ∀i x σ H,xs[i]?=some x->Pv i σ H->g x σ H fun σ2 H2=>tb { D with nx:=Pv (i+1),ct:=Pv (i+1),bk:=D.nx } σ2 H2) (hd: ∀σ H,Pv xs.length σ H->D.nx σ H):
  ∃W:E1->E1->St->Hp->Prop,(∃m,W 0 m σ H)/\ ∀i m σ H,W i m σ H->
   ((Xm K a).stop i H/\D.nx σ H)\/((Xm K a).go i H/\ ∃N:St->Hp->Prop,(∀σ' H',N σ' H'-> ∃m',m'<m/\W (i+1) m' σ' H')/\ ∀x H',(Xm K a).yld i H x H'->g x σ H' fun σ2 H2=>tb { D with nx:=N,ct:=N,bk:=D.nx } σ2 H2):=by
 refine#[fun i m σ H=>m=xs.length-i/\i<=xs.length/\Pv i σ H,#[xs.length,by simp,Fs _,h0],?_];rintro i m σ H ⟨rfl,hi,p⟩;have q:=hl i σ H hi p;by_cases TQ:i<xs.length
 ·refine .inr #[#[xs,xs[i],q,by simp [TQ]],Pv (i+1),fun σ' H' p'=>#[xs.length-(i+1),by lia,rfl,TQ,p'],fun x H' y=>?_]
  obtain⟨e,y⟩:=y;subst e;exact hs i x σ _ (y xs q) p
 ·have e:i=xs.length:=by lia
  subst e;exact .inl #[#[xs,q,E6 _],hd σ H p]
theorem yy {lo:Int}{n:E1}{g:TG}{tb:TS}{D:eG}{σ:St}{H:Hp}(Pv:E1->St->Hp->Prop) (h0:Pv 0 σ H)
  (hs: ∀i σ H,i<n->Pv i σ H->g (.int (lo+i)) σ H fun σ2 H2=>tb { D with nx:=Pv (i+1),ct:=Pv (i+1),bk:=D.nx } σ2 H2) (hd: ∀σ H,Pv n σ H->D.nx σ H):
  ∃W:E1->E1->St->Hp->Prop,(∃m,W 0 m σ H)/\ ∀i m σ H,W i m σ H->
   ((Itr lo n).stop i H/\D.nx σ H)\/((Itr lo n).go i H/\ ∃N:St->Hp->Prop,(∀σ' H',N σ' H'-> ∃m',m'<m/\W (i+1) m' σ' H')/\ ∀x H',(Itr lo n).yld i H x H'->g x σ H' fun σ2 H2=>tb { D with nx:=N,ct:=N,bk:=D.nx } σ2 H2):=by
 refine#[fun i m σ H=>m=n-i/\i<=n/\Pv i σ H,#[n,by simp,Fs _,h0],?_];rintro i m σ H ⟨rfl,hi,p⟩;by_cases TQ:i<n
 ·refine .inr #[TQ,Pv (i+1),fun σ' H' p'=>#[n-(i+1),by lia,rfl,TQ,p'],fun x H' y=>?_]
  obtain⟨e,y⟩:=y;subst e y;exact hs i σ _ TQ p
 ·have e:i=n:=by lia
  subst e;exact .inl #[E6 _,hd σ H p]
abbrev R2:=V->V->Hp->VK->Prop
def kZ (X:Cx) (f:EH->EH->Sem EH) (r:R2):Prop:=
 ∀(pins:EA (EJ×Ih)) (s:EM) (σ:St) (H:Hp) (x y:V) (v u:EH) (Q:VK),aE X pins σ H s->bh x v->bh y u->r x y H Q->
  Fl (model X.prog X.w) X.A (f v u) [028] X.xe s
def UnR (X:Cx) (f:EH->Sem EH) (r:V->Hp->VK->Prop):Prop:=
 ∀(pins:EA (EJ×Ih)) (s:EM) (σ:St) (H:Hp) (x:V) (v:EH) (Q:VK),aE X pins σ H s->bh x v->r x H Q->
  Fl (model X.prog X.w) X.A (f v) [028] X.xe s
def gN (X:Cx) (f:EH) (r:EA V->Hp->VK->Prop):Prop:=
 ∀(pins:EA (EJ×Ih)) (s:EM) (σ:St) (H:Hp) (xs:EA V) (us:EA EH) (Q:VK),aE X pins σ H s->aX xs us->r xs H Q->
  Fl (model X.prog X.w) X.A (call f us) [028] X.xe s
def tOp (r:R2) (ta tb:TE):TE:=fun σ H Q=>ta σ H fun x H1=>tb σ H1 fun y H2=>r x y H2 Q
def tUn (r:V->Hp->VK->Prop) (ta:TE):TE:=fun σ H Q=>ta σ H fun x H1=>r x H1 Q
inductive rI (C:Int->Int->Prop) (g:Int->Int->V) (x:V) (y:V) (H:Hp) (Q:VK):Prop
 |mk (i j:Int) (_:x= .int i) (_:y= .int j) (_:C i j) (_:Q (g i j) H):rI C g x y H Q
inductive zb (g:Int->Int->V) (x:V) (y:V) (H:Hp) (Q:VK):Prop
 |mk (i j:Int) (_:x= .int i) (_:y= .int j) (_:Q (g i j) H):zb g x y H Q
inductive rU (g:Int->V) (x:V) (H:Hp) (Q:VK):Prop
 |mk (i:Int) (_:x= .int i) (_:Q (g i) H):rU g x H Q
section
variable {X:Cx}{a b c:G8}{ta tb tc:TE}{pos:Pos}
theorem ZO (ha:PE X a ta) (hb:PE X b tb) {pins:EA (EJ×Ih)}{s:EM}{σ:St}{H:Hp}{R:V->V->Hp->Prop}(I:aE X pins σ H s)
  (h:ta σ H fun x H1=>tb σ H1 fun y H2=>R x y H2) {Q:EH->EM->Prop}{f:EH->EH->Sem EH}
  (hf: ∀v u s2 x y H2,aE X pins σ H2 s2->bh x v->bh y u->R x y H2->Fl (model X.prog X.w) X.A (f v u) Q X.xe s2):
  Fl (model X.prog X.w) X.A (eval a X.env) (fun v s₁=>Fl (model X.prog X.w) X.A (eval b X.env) (fun u s₂=>Fl (model X.prog X.w) X.A (f v u) Q X.xe s₂) X.xe s₁) X.xe s:=by
 refine ca [023] fun v s1 ⟨x,H1,I1,r1,q1⟩=>?_;refine ca (hb pins s1 σ H1 _ I1 q1) fun u s2 ⟨y,H2,I2,r2,q2⟩=>?_;exact hf v u s2 x y H2 I2 r1 r2 q2
theorem b7 {r:R2}(ho:kZ X (OW op) r) (ha:PE X a ta) (hb:PE X b tb):PE X (.BinOp a op b pos) (tOp r ta tb):=by
 rw[01];exact wpAny_BinOp (ZO ha hb I h fun v u s2 x y H2 I2 rx ry q=>ho pins s2 σ H2 x y v u Q I2 rx ry q)
theorem dJ {r:V->Hp->VK->Prop}(ho:UnR X (unaryOp op) r) (ha:PE X a ta):PE X (.UnaryOp op a pos) (tUn r ta):=by
 rw[01];exact UnaryOp_ (ca [023] fun v s1 ⟨x,H1,I1,r1,q1⟩=>ho pins s1 σ H1 x v Q I1 r1 q1)
theorem opI {f:EH->EH->Sem EH}{C:Int->Int->Prop}{g:Int->Int->Int}
  (rule: ∀(i j:Int) (t u:Tok) (s:EM) (Q:EH->EM->Prop) (E:EH->EM->Prop),C i j->Q (.int (g i j) s.toks) { s with toks:=s.toks+1 } ->Fl (model X.prog X.w) X.A (f (.int i t) (.int j u)) Q E s):
  kZ X f (rI C fun i j=> .int (g i j)):=by
 rw[006];obtain⟨i,j,rfl,rfl,hc,q⟩:=h;rw[009];obtain⟨t',rfl⟩:=ry;exact rule i j t t' s _ _ hc #[.int (g i j),H,I.tok _,#[_,rfl],q]
theorem aeQ {f:EH->EH->Sem EH}{g:Int->Int->Int}
  (rule: ∀(i j:Int) (t u:Tok) (s:EM) (Q:EH->EM->Prop) (E:EH->EM->Prop),Q (.int (g i j) s.toks) { s with toks:=s.toks+1 } ->Fl (model X.prog X.w) X.A (f (.int i t) (.int j u)) Q E s):
  kZ X f (zb fun i j=> .int (g i j)):=by
 rw[006];obtain⟨i,j,rfl,rfl,q⟩:=h;rw[009];obtain⟨t',rfl⟩:=ry;exact rule i j t t' s _ _ #[.int (g i j),H,I.tok _,#[_,rfl],q]
theorem DD {f:EH->EH->Sem EH}{g:Int->Int->FR}
  (rule: ∀(i j:Int) (t u:Tok) (s:EM) (Q:EH->EM->Prop) (E:EH->EM->Prop),Q (.bool (g i j)) s->Fl (model X.prog X.w) X.A (f (.int i t) (.int j u)) Q E s):
  kZ X f (zb fun i j=> .bl (g i j)):=by
 rw[006];obtain⟨i,j,rfl,rfl,q⟩:=h;rw[009];obtain⟨t',rfl⟩:=ry;exact rule i j t t' s _ _ #[.bl (g i j),H,I,rfl,q]
def ZP (i j:Int):Prop:=(-(2 ^ 64)<i/\i<2 ^ 64)\/(-(2 ^ 64)<j/\j<2 ^ 64)
theorem ZP.ok {i j:Int}(h:ZP i j):IntMulOk i j:=by
 rcases h with⟨h1,h2⟩|⟨h1,h2⟩
 ·exact .of_left (intBits_le_64 h1 h2)
 ·exact .of_right (intBits_le_64 h1 h2)
theorem dX:kZ X (OW .Add) (zb fun i j=> .int (i+j)):=aeQ fun _ _ _ _ _ _ _ q=>add_int q
theorem cW:kZ X (OW .Sub) (zb fun i j=> .int (i-j)):=aeQ fun _ _ _ _ _ _ _ q=>sub_int q
theorem Ax:kZ X (OW .Mult) (rI ZP fun i j=> .int (i*j)):=opI fun _ _ _ _ _ _ _ hc q=>mul_int q hc.ok
theorem DV:kZ X (OW .Mod) (rI (fun _ j=>j≠0) fun i j=> .int (i.fmod j)):=opI fun _ _ _ _ _ _ _ hc q=>mod_int' hc q
theorem unI {f:EH->Sem EH}{g:Int->Int}
  (rule: ∀(i:Int) (t:Tok) (s:EM) (Q:EH->EM->Prop) (E:EH->EM->Prop),Q (.int (g i) s.toks) { s with toks:=s.toks+1 } ->Fl (model X.prog X.w) X.A (f (.int i t)) Q E s):
  UnR X f (rU fun i=> .int (g i)):=by
 intro pins s σ H x v Q I rx h;obtain⟨i,rfl,q⟩:=h;rw[009];exact rule i t s _ _ #[.int (g i),H,I.tok _,#[_,rfl],q]
theorem cH:UnR X (unaryOp .USub) (rU fun i=> .int (-i)):=unI fun _ _ _ _ _ q=>neg_int q
end
def ZQ:V->V->FR
 | .HZ, .HZ=>true| .HZ, .int _=>true| .int _, .HZ=>true| .HZ, .bl _=>true| .bl _, .HZ=>true| .HZ, .str _=>true| .str _, .HZ=>true
 | .int _, .int _=>true| .bl _, .bl _=>true| .str _, .str _=>true| .RF _, .RF _=>true
 | .int _, .str _=>true| .str _, .int _=>true| .bl _, .str _=>true| .str _, .bl _=>true
 |_,_=>false
inductive rEq (x:V) (y:V) (H:Hp) (Q:VK):Prop
 |mk (_:ZQ x y=true) (_:Q (.bl (decide (x=y))) H):rEq x y H Q
inductive rNe (x:V) (y:V) (H:Hp) (Q:VK):Prop
 |mk (_:ZQ x y=true) (_:Q (.bl (!decide (x=y))) H):rNe x y H Q
theorem vN {i j:Int} :decide (V.int i=V.int j)=(i == j):=by
 rw[GD];simp
theorem BP {i j:FR} :decide (V.bl i=V.bl j)=(i == j):=by
 rw[GD];simp
theorem vO {i j:Fh} :decide (V.str i=V.str j)=(i == j):=by
 rw[GD];simp
theorem vM {i j:IQ Io} :decide (V.RF i=V.RF j)=(i.toList == j.toList):=by
 rw[GD];cases i;cases j;simp
section
variable {X:Cx}{a b c:G8}{ta tb tc:TE}{pos:Pos}
theorem bE {pins:EA (EJ×Ih)}{σ:St}{H:Hp}{s:EM}{Q:VK}{k k':FR}(I:aE X pins σ H s) (q:Q (.bl k) H) (e:k=k'):EP X pins σ Q (.bool k') s:=by
 subst e;exact#[.bl k,H,I,rfl,q]
theorem b8:kZ X (HL .Eq) rEq:=by
 rw[006];obtain⟨hs,q⟩:=h;cases x with
 |HZ=>
  cases rx;cases y with
  |HZ=>cases ry;exact PySem.EqNone.eq_none_none (bE I q (by simp))
  |bl j=>cases ry;exact PySem.EqNone.eq_none_bool (bE I q (by simp))
  |int j=>obtain⟨t',rfl⟩:=ry;exact PySem.EqNone.eq_none_int (bE I q (by simp))
  |str j=>obtain⟨t',rfl⟩:=ry;exact PySem.EqNone.eq_none_str (bE I q (by simp))
  |_=>exact E7 (show false=true from hs) EE
 |bl i=>
  cases rx;cases y with
  |HZ=>cases ry;exact PySem.EqNone.eq_bool_none (bE I q (by simp))
  |bl j=>cases ry;exact eq_bool (bE I q BP)
  |str j=>obtain⟨t',rfl⟩:=ry;exact PySem.EqMixed.eq_bool_str (bE I q (by simp))
  |_=>exact E7 (show false=true from hs) EE
 |int i=>
  rw[009];cases y with
  |HZ=>cases ry;exact PySem.EqNone.eq_int_none (bE I q (by simp))
  |int j=>obtain⟨t',rfl⟩:=ry;exact eq_int (bE I q vN)
  |str j=>obtain⟨t',rfl⟩:=ry;exact PySem.EqMixed.eq_int_str (bE I q (by simp))
  |_=>exact E7 (show false=true from hs) EE
 |str i=>
  rw[009];cases y with
  |HZ=>cases ry;exact PySem.EqNone.eq_str_none (bE I q (by simp))
  |bl j=>cases ry;exact PySem.EqMixed.eq_str_bool (bE I q (by simp))
  |int j=>obtain⟨t',rfl⟩:=ry;exact PySem.EqMixed.eq_str_int (bE I q (by simp))
  |str j=>obtain⟨t',rfl⟩:=ry;exact eq_str (bE I q vO)
  |_=>exact E7 (show false=true from hs) EE
 |RF i=>
  rw[009];cases y with
  |RF j=>obtain⟨t',rfl⟩:=ry;exact PySem.W.eq_bytes (bE I q vM)
  |_=>exact E7 (show false=true from hs) EE
 |_=>cases y<;>exact E7 (show false=true from hs) EE
theorem o8:kZ X (HL .NotEq) rNe:=by
 rw[006];obtain⟨hs,q⟩:=h;cases x with
 |HZ=>
  cases rx;cases y with
  |HZ=>cases ry;exact PySem.EqNone.ne_none_none (bE I q (by simp))
  |bl j=>cases ry;exact PySem.EqNone.ne_none_bool (bE I q (by simp))
  |int j=>obtain⟨t',rfl⟩:=ry;exact PySem.EqNone.ne_none_int (bE I q (by simp))
  |str j=>obtain⟨t',rfl⟩:=ry;exact PySem.EqNone.ne_none_str (bE I q (by simp))
  |_=>exact E7 (show false=true from hs) EE
 |bl i=>
  cases rx;cases y with
  |HZ=>cases ry;exact PySem.EqNone.ne_bool_none (bE I q (by simp))
  |bl j=>cases ry;exact ne_bool (bE I q (FN not BP))
  |str j=>obtain⟨t',rfl⟩:=ry;exact PySem.EqMixed.ne_bool_str (bE I q (by simp))
  |_=>exact E7 (show false=true from hs) EE
 |int i=>
  rw[009];cases y with
  |HZ=>cases ry;exact PySem.EqNone.ne_int_none (bE I q (by simp))
  |int j=>obtain⟨t',rfl⟩:=ry;exact ne_int (bE I q (FN not vN))
  |str j=>obtain⟨t',rfl⟩:=ry;exact PySem.EqMixed.ne_int_str (bE I q (by simp))
  |_=>exact E7 (show false=true from hs) EE
 |str i=>
  rw[009];cases y with
  |HZ=>cases ry;exact PySem.EqNone.ne_str_none (bE I q (by simp))
  |bl j=>cases ry;exact PySem.EqMixed.ne_str_bool (bE I q (by simp))
  |int j=>obtain⟨t',rfl⟩:=ry;exact PySem.EqMixed.ne_str_int (bE I q (by simp))
  |str j=>obtain⟨t',rfl⟩:=ry;exact ne_str (bE I q (FN not vO))
  |_=>exact E7 (show false=true from hs) EE
 |RF i=>
  rw[009];cases y with
  |RF j=>obtain⟨t',rfl⟩:=ry;exact PySem.W.ne_bytes (bE I q (FN not vM))
  |_=>exact E7 (show false=true from hs) EE
 |_=>cases y<;>exact E7 (show false=true from hs) EE
theorem jY:kZ X (HL .Lt) (zb fun i j=> .bl (decide (i<j))):=DD fun _ _ _ _ _ _ _ q=>lt_int q
theorem eP:kZ X (HL .LtE) (zb fun i j=> .bl (decide (i<=j))):=DD fun _ _ _ _ _ _ _ q=>le_int q
theorem ga:kZ X (HL .Gt) (zb fun i j=> .bl (decide (j<i))):=DD fun _ _ _ _ _ _ _ q=>gt_int q
theorem aeR:kZ X (HL .GtE) (zb fun i j=> .bl (decide (j<=i))):=DD fun _ _ _ _ _ _ _ q=>ge_int q
theorem ZR:kZ X (HL .Is) (fun x y H Q=>y= .HZ/\Q (.bl (decide (x= .HZ))) H):=by
 rw[006];obtain⟨rfl,q⟩:=h;cases ry;refine is_none_gen (bE I q ?_);cases x<;>first
  | (cases rx;rfl)
  | (obtain⟨t,rfl⟩:=rx;rfl)
theorem Ep:kZ X (HL .IsNot) (fun x y H Q=>y= .HZ/\Q (.bl (!decide (x= .HZ))) H):=by
 rw[006];obtain⟨rfl,q⟩:=h;cases ry;refine isnot_none_gen (bE I q ?_);cases x<;>first
  | (cases rx;rfl)
  | (obtain⟨t,rfl⟩:=rx;rfl)
theorem aM (b:G8) (h:op≠ .In:=by decide) (h2:op≠ .NotIn:=by decide):behindInMarks op b=false:=by
 have e1:(op == CmpOp.In)=false:=by cases op<;>first|rfl|exact E7 rfl h
 have e2:(op == CmpOp.NotIn)=false:=by cases op<;>first|rfl|exact E7 rfl h2
 cases b<;>simp [behindInMarks,e1,e2]
theorem b9 {r:R2}(ho:kZ X (HL op) r) (ha:PE X a ta) (hb:PE X b tb) (hm:behindInMarks op b=false):PE X (.Compare a [op] [b] pos) (tOp r ta tb):=by
 rw[01];exact wpAny_Compare1 (ZO ha hb I h fun v u s2 x y H2 I2 rx ry q=>ho pins s2 σ H2 x y v u Q I2 rx ry q) hm
def Cz (t:TE):TT:=fun σ H Q=>t σ H (uu Q)
theorem a8 {r:R2}(ho:kZ X (HL op) r) (ha:PE X a ta) (hb:PE X b tb) (hm:behindInMarks op b=false):PT X (.Compare a [op] [b] pos) (Cz (tOp r ta tb)):=by
 rw[01];refine VI (ca [023] fun v s1 ⟨x,H1,I1,r1,q1⟩=>ca (hb pins s1 σ H1 _ I1 q1) fun u s2 ⟨y,H2,I2,r2,q2⟩=>
  ca (ho pins s2 σ H2 x y v u _ I2 r1 r2 q2) fun c s3 ⟨z,H3,I3,r3,k,e,q3⟩=>?_) hm
 subst e;cases r3;exact Ic #[H3,I3,q3]
def uT (r r':R2) (ta tb tc:TE):TE:=fun σ H Q=>ta σ H fun x H1=>tb σ H1 fun y H2=>r x y H2 fun z H3=> ∃k,z= .bl k/\
 (if k=true then tc σ H3 fun w' H4=>r' y w' H4 Q else Q (.bl false) H3)
theorem iy {r r':R2}(ho:kZ X (HL op) r) (QP:kZ X (HL op') r') (ha:PE X a ta) (hb:PE X b tb) (hc:PE X c tc)
  (hm:UD [op,op'] [b,c]=false:=by with_unfolding_all rfl):PE X (.Compare a [op,op'] [b,c] pos) (uT r r' ta tb tc):=by
 rw[01];refine Compare_chain (ca [023] fun v s1 ⟨x,H1,I1,r1,q1⟩=>chain_link (ca (hb pins s1 σ H1 _ I1 q1) fun u s2 ⟨y,H2,I2,r2,q2⟩=>
  ca (ho pins s2 σ H2 x y v u _ I2 r1 r2 q2) fun d s3 ⟨z,H3,I3,r3,k,e,q3⟩=>?_)) hm
 subst e;cases r3;refine Ic ?_;cases k with
 |false=>exact ite_ff #[.bl false,H3,I3,rfl,q3]
 |true=>exact ite_tt (chain_last (ca (hc pins s3 σ H3 _ I3 q3) fun w' s4 ⟨z',H4,I4,r4,q4⟩=>QP pins s4 σ H4 y z' u w' Q I4 r2 r4 q4))
theorem Ae {r r':R2}(ho:kZ X (HL op) r) (QP:kZ X (HL op') r') (ha:PE X a ta) (hb:PE X b tb) (hc:PE X c tc)
  (hm:UD [op,op'] [b,c]=false:=by with_unfolding_all rfl):PT X (.Compare a [op,op'] [b,c] pos) (Cz (uT r r' ta tb tc)):=by
 rw[01];refine isTrue_chain (ca [023] fun v s1 ⟨x,H1,I1,r1,q1⟩=>test_link (ca (hb pins s1 σ H1 _ I1 q1) fun u s2 ⟨y,H2,I2,r2,q2⟩=>
  ca (ho pins s2 σ H2 x y v u _ I2 r1 r2 q2) fun d s3 ⟨z,H3,I3,r3,k,e,q3⟩=>?_)) hm
 subst e;cases r3;refine Ic ?_;cases k with
 |false=>
  obtain⟨k',e',q'⟩:=q3;cases e';exact ite_ff #[H3,I3,q']
 |true=>
  refine ite_tt (test_last (ca (hc pins s3 σ H3 _ I3 q3) fun w' s4 ⟨z',H4,I4,r4,q4⟩=>ca (QP pins s4 σ H4 y z' u w' _ I4 r2 r4 q4) fun d' s5 ⟨z2,H5,I5,r5,k2,e2,q5⟩=>?_));subst e2;cases r5;exact Ic #[H5,I5,q5]
theorem qN:(FE:E1)<2 ^ 63:=by rw[Ht];decide
theorem mQ {x:V}(r:aX [x] us): ∃u,us=[u]/\bh x u:=by
 cases r with
 |cons r1 r2=>cases r2;exact#[_,rfl,r1]
theorem vals2 {x y:V}(r:aX [x,y] us): ∃u w',us=[u,w']/\bh x u/\bh y w':=by
 cases r with
 |cons r1 r2=>
  cases r2 with
  |cons r3 r4=>cases r4;exact#[_,_,rfl,r1,r3]
theorem sD:gN X (.builtin "abs") (fun xs H Q=> ∃i,xs=[.int i]/\Q (.int (if i<0 then-i else i)) H):=by
 rw[013];obtain⟨i,rfl,q⟩:=h;obtain⟨u,rfl,t,rfl⟩:=mQ r;exact call_abs_int fun u tk=>#[.int (if i<0 then-i else i),H,I.tok _,#[_,rfl],q]
end
structure um (h:Gn) (x dx C:EJ) (mA:Fh->ET EH):Prop where
 obj:h.get? x=some (IV C dx)
 ns:h.Ns1 dx mA
 ne:dx≠x
theorem xW {h:Gn}{dx:EJ}{mA:Fh->ET EH}(n:h.Ns1 dx mA): ∃od,h.get? dx=some od/\ ∀name,Ng name od=some (mA name):=by
 obtain⟨o,es,ep,ho,hd,hk,_,hm⟩:=n;refine#[o,ho,fun name=>?_];have e:=hm name;unfold nsFind findBy at e;rw[<-T8] at e;unfold Ng;rw[hd];dsimp only;split
 ·rename_i y q
  rw[q] at e;exact FN some e
 ·rename_i q
  rw[q] at e;have a:es.toList.any (·.refKey)=false:=by
   rw[U2];intro y hy;obtain⟨z,t,ajS⟩:=hk y (SI.mp hy);simp [NG.refKey,ajS]
  have a': ¬es.toList.any (·.refKey)=true:=by rw[a];exact EE
  rw[EI a'];exact FN some e
theorem um.look {h:Gn}{x dx C:EJ}{mA:Fh->ET EH}(I:um h x dx C mA): ∃od,PySem.W.InstAt h x (IV C dx) C (some od)/\ ∀name,Ng name od=some (mA name):=
 let ⟨od,ho,hl⟩:=xW I.ns
 #[od,#[I.obj,rfl,rfl,ho],hl]
section
variable {prog:Fz}{w:Ga}{A:Gk}{E:EH->EM->Prop}{s:EM}{K:EF}{x dx C f:EJ}{mA:Fh->ET EH}{name:Fh}{v:EH}
theorem D2 {Q:EH->EM->Prop}(X:K.In s.heap) (I:um s.heap x dx C mA) (hg:My K C name=true) (hh:Ol K C=true)
  (ha:Hh K (.ref C) name=some none) (hv:mA name=some v) (hv':Uc v=true) (h:Q v { s with toks:=s.toks+1 }):
  Fl (model prog w) A (Sg (.ref x) name expr) Q E s:=by
 obtain⟨od,J,hl⟩:=I.look;exact PySem.W.get_value X J (ND hg).1 (PySem.W.findObj_own hh ha rfl (by rw[hl,hv])) hv' h
theorem AD {Q:EH×EA EH->EM->Prop}(X:K.In s.heap) (I:um s.heap x dx C mA) (hg:My K C name=true)
  (hf:Hh K (.ref C) name=some (some (.ref f))) (ht:Oq K (.ref f)=true) (hv:mA name=none) (h:Q (.ref f,[.ref x]) s):
  Fl (model prog w) A (Ku (.ref x) name pl) Q E s:=by
 obtain⟨od,J,hl⟩:=I.look;exact PySem.W.method_fn X J (ND hg).1 (ND hg).2 hf (beq_iff_eq.mp ht) (by show(Ng name od).map (·.isSome)=some false;rw[hl,hv];rfl) h
theorem Eu {ns:EA Fh}{Q:Mo->EM->Prop}(X:K.In s.heap) (I:um s.heap x dx C mA)
  (hs:Hh K (.ref C) "__setattr__"=some (some (.builtin "object.__setattr__"))) (hp:Ts K C=true) (ht:PL K C name=some none) (hh:Ol K C=true)
  (hw:M5 mA ns) (hsz:ns.length<=FE)
  (h: ∀h',um h' x dx C (fun y=>if y=name then some v else mA y)->LZ dx s.heap h'->Q () { s with heap:=h',toks:=s.toks+2 }):
  Fl (model prog w) A (Sh (.ref x) name v) Q E s:=by
 obtain⟨od,J,hl⟩:=I.look;refine PySem.W.set_plain X J hs (PySem.W.osa_open (s:= { s with toks:=s.toks+1 }) (r:=none) X J hp ht fun b=>?_);obtain⟨cd,hc,WH⟩:=PySem.W.any_some hh;have hx:s.heap.get? x=some ⟨.ref C,some dx, .plain, [].toArray⟩:=I.obj;refine E3 (Fx (E3 (E3 (wpAny_loadPart hx (E3 (PySem.W.Looks.here (s:= { s with toks:=s.toks+1 }) (PySem.W.looks_clsIn X hc) ?_))))));rw[WH];refine Fx (a:=some dx) (E3 (Fx (E3 ?_)));refine U3 (s:= { s with toks:=s.toks+1 }) I.ns fun h' hn2 US=>?_;obtain⟨oD,esD,epD,hoD,hdD,hcD⟩:=hn2.count (M5.cons name v hw);refine E3 (QT hoD (by rw[hdD];exact QU (Fj hcD (by rw[EZ];lia))) ?_);exact Fx (h _ #[(US.2 _ (HS I.ne)).trans I.obj,hn2,I.ne] US)
theorem BQ {R:Result->EM->Prop}(X:K.In s.heap) (hm:UJ K C=true)
  (hi:Hh K (.ref C) "__init__"=some (some (.ref f))) (hf:Ve K (.ref f)=some (.type "function"))
  (h:KP (model prog w) (A.under (.builtin "type.__call__" #[.ref C::vs,kw])) (.call (.ref f) #[.ref (s.heap.objs.size+1)::vs,kw]) (PySem.W.InitBack (s.heap.objs.size+1) R)
   { s with heap:=(s.heap.push HQ).push (IV C s.heap.objs.size) }):
  KP (model prog w) A (.call (.ref C) #[vs,kw]) R s:=by
 obtain⟨hh,g,d,t,os⟩:=s;exact PySem.W.make_core (PySem.W.makes_of X hm) (PySem.W.looks_findIn X hi) (fun self=>PySem.W.bind_fn X self hf) (.inl rfl) h
end
def Hs (f:Fh) (v:V):EA (Fh×V)->EA (Fh×V)
 |[]=>[(f,v)]
 | (g,x)::r=>if g=f then(g,v)::r else(g,x)::Hs f v r
theorem iB (f g:Fh) (v:V): ∀fs:EA (Fh×V),(Hs f v fs).lookup g=if g=f then some v else fs.lookup g
 |[]=>by
  show IM g [(f,v)]=_
  by_cases h:g=f
  ·have hb:(g == f)=true:=beq_iff_eq.mpr h
   simp only[IM,hb,EL h]
  ·have hb:(g == f)=false:=beq_eq_false_iff_ne.mpr h
   simp only[IM,hb,EI h]
 | (k,x)::r=>by
  have ih:=iB f g v r;rw[show Hs f v ((k,x)::r)=(if k=f then(k,v)::r else(k,x)::Hs f v r) from rfl]
  by_cases hk:k=f
  ·rw[EL hk]
   by_cases h:g=k
   ·have hb:(g == k)=true:=beq_iff_eq.mpr h
    simp only[IM,hb,EL (h.trans hk)]
   ·have hb:(g == k)=false:=beq_eq_false_iff_ne.mpr h
    simp only[IM,hb,EI (fun e:g=f=>h (e.trans hk.symm))]
  ·rw[EI hk]
   by_cases h:g=k
   ·have hb:(g == k)=true:=beq_iff_eq.mpr h
    simp only[IM,hb,EI (fun e:g=f=>hk (h.symm.trans e))]
   ·have hb:(g == k)=false:=beq_eq_false_iff_ne.mpr h
    simp only[IM,hb];exact ih
theorem gI (f:Fh) (v:V): ∀fs:EA (Fh×V),f∈(Hs f v fs).map (·.1)/\ ∀g,g∈fs.map (·.1)->g∈(Hs f v fs).map (·.1)
 |[]=>#[by simp [Hs],fun g h=>by simp at h]
 | (k,x)::r=>by
  obtain⟨i1,i2⟩:=gI f v r;rw[show Hs f v ((k,x)::r)=(if k=f then(k,v)::r else(k,x)::Hs f v r) from rfl]
  by_cases hk:k=f
  ·rw[EL hk]
   subst hk;exact#[by simp,fun g h=>by simpa using h]
  ·rw[EI hk]
   refine#[?_,fun g h=>?_]
   ·rw[Fe]
    exact EN _ i1
   ·rw[Fe] at h ⊢
    rcases EW.mp h with e|e
    ·exact EW.mpr (.inl e)
    ·exact EN _ (i2 g e)
theorem cS (f:Fh) (v:V): ∀fs:EA (Fh×V),(Hs f v fs).length<=fs.length+1
 |[]=>by simp [Hs]
 | (k,x)::r=>by
  have ih:=cS f v r;rw[show Hs f v ((k,x)::r)=(if k=f then(k,v)::r else(k,x)::Hs f v r) from rfl]
  by_cases hk:k=f
  ·rw[EL hk,EZ,EZ];lia
  ·rw[EI hk,EZ,EZ];lia
theorem fS.some_of {v:V}{o:ET EH}(r:fS (some v) o): ∃u,o=some u/\bh v u:=by
 cases o with
 |none=>exact(show False from r).elim
 |some u=>exact#[u,rfl,r]
theorem fS.none_of {o:ET EH}(r:fS none o):o=none:=by
 cases o with
 |none=>rfl
 |some u=>exact(show False from r).elim
theorem pI {v:V}{u:EH}(r:bh v u):Uc u=true:=by
 cases v with
 |HZ=>cases (show u=Hn from r);rfl
 |bl b=>cases (show u=L7 b from r);rfl
 |int i=>obtain⟨t,e⟩:=(show∃t,u=JL i t from r);cases e;rfl
 |str x=>obtain⟨t,e⟩:=(show∃t,u=NQ x t from r);cases e;rfl
 |RF b=>obtain⟨t,e⟩:=(show∃t,u=EH.bytes b t from r);cases e;rfl
 |W8 b=>obtain⟨t,e⟩:=(show∃t,u=SO b t from r);cases e;rfl
 |ref a=>cases (show u=Fq a from r);rfl
 |ty n=>cases (show u=L8 n from r);rfl
section
variable {P:Fz}{w:Ga}{H H':Hp}{h h':Gn}{a C dx:EJ}{fs fs':EA (Fh×V)}
theorem md (HH:hX P w H h) (e:H a=some [053]): ∃mA,um h a dx C mA/\(∀f,fS (fs.lookup f) (mA f))/\M5 mA (fs.map (·.1))/\fs.length<=1000/\H dx=some (.own a):=by
 obtain⟨d,z,ne,ob,mA,n,r,q⟩:=(show cw P w H h a [053] from HH a _ e);exact#[mA,#[ob,n,ne],r,q,z,d]
end
theorem gA.get {K:EF}{C:EJ}(c:gA K C) (f:Fh):My K C f=true:=c.pg
theorem ao.aeS {K:EF}{C:EJ}{f:Fh}(n:ao K C f):PL K C f=some none:=by
 unfold PL;rw[show Hh K (.ref C) f=some none from n]
 rfl
section
variable {X:Cx}{pins:EA (EJ×Ih)}{σ:St}{H:Hp}{s:EM}{a C dx:EJ}{fs:EA (Fh×V)}{f:Fh}{v:V}{A:Gk}{E:EH->EM->Prop}
theorem nz {b:FR}{Q:EH->EM->Prop}(I:aE X pins σ H s) (e:H a=some [053]) (c:gA X.K C) (n:ao X.K C f) (l:fs.lookup f=some v)
  (h: ∀u s',aE X pins σ H s'->bh v u->Q u s'):Fl (model X.prog X.w) A (Sg (.ref a) f b) Q E s:=by
 obtain⟨mA,O,r,_,_,_⟩:=md I.HH e;obtain⟨u,hu,ru⟩:=fS.some_of (v:=v) (o:=mA f) (by rw[<-l];exact r f);exact D2 I.MI O (c.get f) c.hd n hu (pI ru) (h u _ (I.tok _) ru)
theorem mB {m:Fh}{g:EJ}{Q:EH×EA EH->EM->Prop}(I:aE X pins σ H s) (e:H a=some [053]) (c:gA X.K C) (k:Meth X.K C m g) (l:fs.lookup m=none)
  (h:Q (.ref g,[.ref a]) s):Fl (model X.prog X.w) A (Ku (.ref a) m pl) Q E s:=by
 obtain⟨mA,O,r,_,_,_⟩:=md I.HH e;have hn:mA m=none:=fS.none_of (by rw[<-l];exact r m);exact AD I.MI O (c.get m) k.at_ k.fn hn h
theorem mU {y:V}{u:EH}{Q:Mo->EM->Prop}(I:aE X pins σ H s) (e:H a=some [053]) (c:gA X.K C) (n:ao X.K C f) (hl:fs.length<1000) (ry:bh y u)
  (h: ∀s',aE X pins σ (aF H a (.ins C dx (Hs f y fs))) s'->Q () s'):Fl (model X.prog X.w) A (Sh (.ref a) f u) Q E s:=by
 obtain⟨mA,O,r,wi,_,ho⟩:=md I.HH e;have hz:(fs.map (·.1)).length<=FE:=by rw[EY,Ht];lia
 refine Eu I.MI O c.sa c.po n.aeS c.hd wi hz fun h' O' sb=>h _ ?_;have hd: ∃o,h'.get? dx=some o:=let ⟨o,_,_,e',_⟩:=O'.ns;#[o,e'];refine I.write (x:=a) (e:=dx) (by rw[e];exact GH) (.inr ho) (fun b q hb z=>(sb.2 b hb).trans z) hd ?_;refine#[by rw[ac O.ne];exact ho,?_,O.ne,O'.obj,_,O'.ns,fun g=>?_,fun g hg=>?_]
 ·have:=cS f y fs;lia
 ·show fS ((Hs f y fs).lookup g) (if g=f then some u else mA g)
  rw[iB];by_cases q:g=f
  ·rw[EL q,EL q];exact ry
  ·rw[EI q,EI q];exact r g
 ·by_cases q:g=f
  ·rw[q];exact(gI f y fs).1
  ·refine(gI f y fs).2 g (wi g fun z=>hg ?_)
   show(if g=f then some u else mA g)=none
   rw[EI q];exact z
theorem aE.made (I:aE X pins σ H s):aE X pins σ (aF (aF H s.heap.objs.size (.own (s.heap.objs.size+1))) (s.heap.objs.size+1) (.ins C s.heap.objs.size []))
  { s with heap:=(s.heap.push HQ).push (IV C s.heap.objs.size) } :=by
 have e1:(s.heap.push HQ).get? s.heap.objs.size=some HQ:=Gy s.heap rfl
 have e2:((s.heap.push HQ).push (IV C s.heap.objs.size)).get? (s.heap.objs.size+1)=some (IV C s.heap.objs.size):=by
  have:=Gy (s.heap.push HQ) (o:=IV C s.heap.objs.size) rfl
  rwa [Hf] at this
 have e3:(s.heap.push HQ).Ns s.heap.objs.size (fun _=>none):=#[HQ, [].toArray,_,e1,rfl,(fun e he=>E7 he [024]),fun _=>rfl]
 have I1:=I.laid (a:=s.heap.objs.size) (o:= .own (s.heap.objs.size+1)) (h':=s.heap.push HQ) (t':=s.toks) (fun b u q=>E2 _ q) (E6 _) #[_,e1]
 refine I1.laid (a:=s.heap.objs.size+1) (o:= .ins C s.heap.objs.size []) (t':=s.toks) (fun b u q=>E2 _ q) (JG (Hf _ _)) ?_;have ne:s.heap.objs.size≠s.heap.objs.size+1:=Gu (G6 _);refine#[by rw[ac ne,ae],Fs _,ne,e2,fun _=>none,(Og e3).at fun o q=>E2 _ q,fun _=>GH,fun y hy=>E7 rfl hy]
theorem wE {prog:Fz}{w:Ga}{env:Env}{e:G8}{f:Fh}{pos:Pos}{s:EM}{Q:EH->EM->Prop}(hb:HM e f env (eval e env)=eval e env)
  (h:Fl (model prog w) A (eval e env) (fun o s₁=>Fl (model prog w) A (Sg o f true) Q E s₁) E s):Fl (model prog w) A (eval (.Attribute e f pos) env) Q E s:=
 Attribute_any_ h (by rw[arm_eval_Attribute,hb])
end
inductive dL (K:EF) (f:Fh) (R:V->Hp->Prop) (x:V) (H1:Hp):Prop
 |mk (a C dx:EJ) (fs:EA (Fh×V)) (v:V) (_:x= .ref a) (_:H1 a=some [053]) (_:gA K C) (_:ao K C f) (_:fs.lookup f=some v) (_:R v H1):dL K f R x H1
def ajT (K:EF) (ta:TE) (f:Fh):TE:=fun σ H Q=>ta σ H (dL K f Q)
def ajU (K:EF) (ta tv:TE) (f:Fh):TS:=fun D σ H=>tv σ H fun y H1=>ta σ H1 fun x H2=> ∃a C dx fs,x= .ref a/\H2 a=some [053]/\gA K C/\ao K C f/\fs.length<1000/\
 D.nx σ (aF H2 a (.ins C dx (Hs f y fs)))
def aeT (X:Cx) (op:Operator) (rd:V->V->Hp->VK->Prop):Prop:=
 ∀(pins:EA (EJ×Ih)) (s:EM) (σ:St) (H:Hp) (x y:V) (u v:EH) (Q:VK),aE X pins σ H s->bh x u->bh y v->rd x y H Q->Fl (model X.prog X.w) X.A (inplaceOp op u v) [028] X.xe s
def Eo (K:EF) (ta tv:TE) (rd:V->V->Hp->VK->Prop) (f:Fh):TS:=fun D σ H=>ta σ H fun x H1=> ∃a C dx fs v,x= .ref a/\H1 a=some [053]/\gA K C/\ao K C f/\fs.lookup f=some v/\
 tv σ H1 fun y H2=>rd v y H2 fun z H3=> ∃dx' fs',H3 a=some (.ins C dx' fs')/\fs'.length<1000/\D.nx σ (aF H3 a (.ins C dx' (Hs f z fs')))
section
variable {X:Cx}{o e JM:G8}{f:Fh}{pos MK aeU:Pos}{ta tv:TE}
theorem ak (he:PE X e ta) (hb:HM e f X.env (eval e X.env)=eval e X.env):PE X (.Attribute e f pos) (ajT X.K ta f):=by
 rw[01];refine wE hb (ca [043] fun u s1 ⟨x,H1,I1,rx,a,C,dx,fs,v,ex,ea,c,n,l,q⟩=>?_);rw[008];exact nz I1 ea c n l fun u' s2 I2 ru=>#[v,H1,I2,ru,q]
theorem b5 (ha:PE X o ta) (hv:PE X JM tv) (hs:K7 JM (some (.Attribute o f MK)) pos.line X.env=pure false):PS X (.Assign [.Attribute o f MK] JM pos) (ajU X.K ta tv f):=by
 rw[04];refine LH (ca (hv pins s σ H _ I h) fun u s1 ⟨y,H1,I1,ry,q⟩=>ca (ha pins s1 σ H1 _ I1 q) fun ov s2 ⟨x,H2,I2,rx,a,C,dx,fs,ex,ea,c,n,l,q2⟩=>?_) hs;subst ex;obtain rfl:ov=Fq a:=rx;exact mU I2 ea c n l ry fun s3 I3=>#[σ,_,I3,q2]
theorem gG {rd:V->V->Hp->VK->Prop}(ha:PE X o ta) (hv:PE X JM tv) (WI:aeT X op rd):PS X (.AugAssign (.Attribute o f aeU) op JM pos) (Eo X.K ta tv rd f):=by
 rw[04];refine wpAny_AugAssign_AttributeAny (ca [023] fun ov s1 ⟨x,H1,I1,rx,a,C,dx,fs,v,ex,ea,c,n,l,q⟩=>?_);subst ex;obtain rfl:ov=Fq a:=rx;refine nz I1 ea c n l fun u s2 I2 ru=>ca (hv pins s2 σ H1 _ I2 q) fun w3 s3 ⟨y,H2,I3,ry,q3⟩=>ca (WI pins s3 σ H2 v y u w3 _ I3 ru ry q3) fun w4 s4 ⟨z,H3,I4,rz,dx',fs',ea',l',q4⟩=>?_;exact mU I4 ea' c n l' rz fun s5 I5=>#[σ,_,I5,q4]
def ajV:V->V->Hp->VK->Prop:=fun x y H Q=> ∃i j,x= .int i/\y= .int j/\Q (.int (i+j)) H
theorem nB:aeT X .Add ajV:=by
 rintro pins s σ H x y u v Q I rx ry ⟨i,j,rfl,rfl,q⟩;obtain⟨t,rfl⟩:=(show∃t,u=JL i t from rx);obtain⟨t',rfl⟩:=(show∃t',v=JL j t' from ry);exact PyProof.Rows.iadd_int #[.int (i+j),H,I.tok _,#[_,rfl],q]
end
section
variable {X:Cx}{pins:EA (EJ×Ih)}{σ:St}{H:Hp}{s:EM}{A:Gk}{E:EH->EM->Prop}{Q:EH->EM->Prop}{c:EH}{b:FR}
inductive jC (K:EF) (H:Hp):V->EH->Prop where
 |HZ:jC K H .HZ (.type "NoneType")
 |bl (x:FR):jC K H (.bl x) (.type "bool")
 |int (i:Int):jC K H (.int i) (.type "int")
 |str (x:Fh):jC K H (.str x) (.type "str")
 |W8 (x:UInt64):jC K H (.W8 x) (.type "float")
 |lst {a:EJ}{xs:EA V}(e:H a=some [049]):jC K H (.ref a) (.type "list")
 |P5 {a:EJ}{o:Ih}{xs:EA V}(e:H a=some (.P5 o [049])):jC K H (.ref a) (.type "list")
 |tup {a:EJ}{xs:EA V}(e:H a=some (.tup xs)):jC K H (.ref a) (.type "tuple")
 |dK {a:EJ}{aC:EA (a0×V)}(e:H a=some (.dK aC)):jC K H (.ref a) (.type "dict")
 |dT {a:EJ}{aC:EA (EA a0×V)}(e:H a=some (.dT aC)):jC K H (.ref a) (.type "dict")
 |ins {a C dx:EJ}{fs:EA (Fh×V)}(e:H a=some [053]) (cl:gA K C) (ha:Hh K (.ref C) "__class__"=some (some [066]))
   (hn:Om K [066] "__get__"=some (some (.builtin "getset_descriptor.__get__"))) (htk:UK K [066]=some true)
   (hm:VT K C (.type "object")=some true):jC K H (.ref a) (.ref C)
theorem yD {x:V}{u t:EH}(I:aE X pins σ H s) (rx:bh x u) (ty:jC X.K H x t) (e:Hy X.K t c=some b) (h: ∀tk,Q (.bool b) { s with toks:=tk }):
  Fl (model X.prog X.w) A (call (.builtin "isinstance") [u,c]) Q E s:=by
 cases ty with
 |HZ=>cases (show u=Hn from rx);exact HA PySem.W.kitx_none I.MI GH e (fun z=>nomatch z) h
 |bl y=>cases (show u=L7 y from rx);exact HA PySem.W.kitx_bool I.MI GH e (fun z=>nomatch z) h
 |int i=>obtain⟨t,q⟩:=(show∃t,u=JL i t from rx);cases q;exact HA PySem.W.kitx_int I.MI GH e (fun z=>nomatch z) h
 |str y=>obtain⟨t,q⟩:=(show∃t,u=NQ y t from rx);cases q;exact HA PySem.W.kitx_str I.MI GH e (fun z=>nomatch z) h
 |W8 y=>obtain⟨t,q⟩:=(show∃t,u=SO y t from rx);cases q;exact HA PySem.W.kitx_float I.MI GH e (fun z=>nomatch z) h
 | @lst a xs ea=>
  cases (show u=Fq a from rx);obtain⟨_,_,n,_,h1⟩:=(show cw X.prog X.w H s.heap a [049] from I.HH a _ ea);exact HA Tt I.MI #[_,h1,rfl] e [032] h
 | @P5 a ob xs ea=>
  cases (show u=Fq a from rx);obtain⟨_,_,_,n,_,h1⟩:=(show cw X.prog X.w H s.heap a (.P5 ob [049]) from I.HH a _ ea);exact HA Tt I.MI #[_,h1,rfl] e [032] h
 | @tup a xs ea=>
  cases (show u=Fq a from rx);obtain⟨_,_,_,p⟩:=(show cw X.prog X.w H s.heap a (.tup xs) from I.HH a _ ea);obtain⟨o,h1,h2,_⟩:=p;exact HA PySem.W.kitx_tuple I.MI #[o,h1,h2] e [032] h
 | @dK a aC ea=>
  cases (show u=Fq a from rx);obtain⟨_,_,vs,_,p⟩:=(show cw X.prog X.w H s.heap a (.dK aC) from I.HH a _ ea);obtain⟨o,es,ep,h1,h2,_⟩:=p;exact HA Tu I.MI #[o,h1,h2.1] e [032] h
 | @dT a aC ea=>
  cases (show u=Fq a from rx);obtain⟨_,_,xs,_,o,es,ep,h1,h2,_⟩:=(show cw X.prog X.w H s.heap a (.dT aC) from I.HH a _ ea);exact HA Tu I.MI #[o,h1,h2.1] e [032] h
 | @ins a C dx fs ea cl ha hn htk hm=>
  cases (show u=Fq a from rx);obtain⟨mA,O,_⟩:=md I.HH ea;obtain⟨od,J,_⟩:=O.look;exact HA (PySem.W.kitx_own (cl.get _) cl.hd ha hn htk hm) I.MI J e [032] h
end
theorem bW.mono {j k:E1}{A:Gk}(r:bW k A) (h:j<=k):bW j A:=#[r.hd,by have:=r.dp;lia,by have:=r.un;lia]
theorem bW.deeper {k:E1}{A:Gk}(r:bW (k+1) A) (env:Env):bW k (A.deeper env):=
 #[r.hd,by have:=r.dp;show A.depth+1+2*k+5<_;lia,by have:=r.un;show A.units+3+16*k+200<_;lia]
theorem uH {A:Gk}{C:EJ} :(A.under (.builtin "type.__call__" #[.ref C::us,kw])).depth=A.depth+1:=by
 first|rfl|simp [Rv,Code.weight,Code.isCreation,Code.isGuard,Code.isCaller,Code.frames,Si,guardIds]
theorem uM {A:Gk}{C:EJ} :(A.under (.builtin "type.__call__" #[.ref C::us,kw])).units=A.units+1:=by
 first|rfl|simp [Rv,Code.cUnits,Code.frames,Si]
theorem bW.make {k:E1}{A:Gk}(r:bW (k+1) A) (C:EJ) (us:EA EH) (kw:EA (Fh×EH)):bW k (A.under (.builtin "type.__call__" #[.ref C::us,kw])):=
 #[r.hd,by have:=r.dp;rw[uH];lia,by have:=r.un;rw[uM];lia]
theorem bW.depth {k:E1}{A:Gk}(r:bW k A):A.depth<recursionLimit:=by have:=r.dp;lia
theorem bW.units {k:E1}{A:Gk}(r:bW k A):A.units+64<OX:=by have:=r.un;lia
def zQ:TA:=fun _ H Q=>Q [] H
def Bm (ta:TE) (tr:TA):TA:=fun σ H Q=>ta σ H fun x H1=>tr σ H1 fun xs H2=>Q (x::xs) H2
section
variable {X:Cx}{e:G8}{es:EA G8}{te:TE}{t:TA}{pos:Pos}
theorem ag:PA X [] zQ:=fun _ _ _ _ H Q I h=>KL #[[],H,I, .nil,h]
theorem aa (ha:PE X e te) (hr:PA X es t) (hs:Fb (e::es) X.env=[000]::Fb es X.env:=by rfl):PA X (e::es) (Bm te t):=by
 intro pos pins s σ H Q I h;rw[hs];show Fl _ _ (spliced ([000]::Ie pos [034])) _ _ s;refine Ks (ca [023] fun u s1 ⟨x,H1,I1,r1,q1⟩=>?_);exact ca (hr pos pins s1 σ H1 _ I1 q1) fun us s2 ⟨xs,H2,I2,r2,q2⟩=>#[x::xs,H2,I2, .cons r1 r2,q2]
def ajW (t:TA):TE:=fun σ H Q=>t σ H fun xs H1=>xs.length<=FE/\ ∀p,H1 p=none->Q (.ref p) (aF H1 p (.tup xs))
inductive Ck (Q:VK) (xs:EA V) (H1:Hp):Prop
 |mk (_:xs.length<=FE) (_: ∀p,H1 p=none->Q (.ref p) (aF H1 p [049])):Ck Q xs H1
def ajX (t:TA):TE:=fun σ H Q=>t σ H (Ck Q)
theorem CM {x1} (h:PA X es t):PE X (.Tuple es x1 pos) (ajW t):=by
 intro pins s σ H Q I hq;refine wpAny_Tuple_spliced (ca (h pos pins s σ H _ I hq) fun us s1 ⟨xs,H1,I1,r,z,q⟩=>#[by rw[<-r.length];exact z,?_]);have hf:H1 s1.heap.objs.size=none:=I1.HH.fresh (E6 _);refine#[.ref s1.heap.objs.size,aF H1 s1.heap.objs.size (.tup xs),I1.laid (t':=s1.toks) (fun b u e=>E2 _ e) (E6 _) ?_,rfl,q _ hf];exact#[z,us,r,#[_,Gy _ rfl,rfl,_,rfl]]
theorem iA (h:PA X es t):PE X (.List es pos) (ajX t):=by
 intro pins s σ H Q I hq;refine wpAny_List_spliced (ca (h pos pins s σ H _ I hq) fun us s1 ⟨xs,H1,I1,r,z,q⟩=>#[by rw[<-r.length];exact z,?_]);have hf:H1 s1.heap.objs.size=none:=I1.HH.fresh (E6 _);refine#[.ref s1.heap.objs.size,aF H1 s1.heap.objs.size [049],I1.laid (t':=s1.toks) (fun b u e=>E2 _ e) (E6 _) ?_,rfl,q _ hf];exact#[z,us,0,r,Gy _ rfl]
end
theorem bS.mono {P:Fz}{w:Ga}{K:EF}{mg:Fh->ET EH}{base:Gn}{CX:pX}{j k:E1}{f:EJ}{fd:FL}{ps:EA Fh}{sp:Sp}(F:bS P w K mg base CX j f fd ps sp) (h:j<=k):
  bS P w K mg base CX k f fd ps sp:=#[F.len,fun A outer s H args us vs Q E hr=>F.run A outer s H args us vs Q E (hr.mono h)]
theorem bS.imp {P:Fz}{w:Ga}{K:EF}{mg:Fh->ET EH}{base:Gn}{CX:pX}{k:E1}{f:EJ}{fd:FL}{ps:EA Fh}{sp sp':Sp}(F:bS P w K mg base CX k f fd ps sp)
  (h: ∀vs H Q E,sp' vs H Q E->sp vs H Q E):bS P w K mg base CX k f fd ps sp':=
 #[fun vs H Q E q=>F.len vs H Q E (h _ _ _ _ q),fun A outer s H args us vs Q E hr he hb hv hs=>F.run A outer s H args us vs Q E hr he hb hv (h _ _ _ _ hs)]
theorem ub.make {P:Fz}{w:Ga}{K:EF}{mg:Fh->ET EH}{base:Gn}{A:Gk}{s:EM}{H:Hp}(e:ub P w K mg base A outer s H) (C:EJ) (us:EA EH) (kw:EA (Fh×EH)):
  ub P w K mg base (A.under (.builtin "type.__call__" #[.ref C::us,kw])) outer s H:=#[by first|exact e.frames|(simpa [Rv,Code.envs,Si,pushEnvs] using e.frames),e.mod,e.bs,e.Ue,e.funs,e.VU,e.HH,e.bare]
section
variable {X:Cx}{pins:EA (EJ×Ih)}{σ:St}{H:Hp}{s s':EM}
theorem aE.ZT (I:aE X pins σ H s):ub X.prog X.w X.K X.mg X.base X.A X.stack s H:=
 #[I.ok.frames,I.ok.mod,I.bs,Fj I.ok.Ue I.sz,I.stack,I.PZ,I.HH,I.bare]
theorem aE.after {Q:VK}{u:EH}(I:aE X pins σ H s) (h:CE X.stack X.prog X.w H s Q u s'):EP X pins σ Q u s':=by
 obtain⟨v,H',os,bare,un,HH,r,q⟩:=h;obtain⟨hh,g,d,t,os'⟩:=s';obtain rfl:os'=s.os:=os;exact#[v,H',I.call (h':=hh) (g':=g) (d':=d) (t':=t) (ch:=[]) un HH bare (fun b z=>E7 z [024]),r,q]
end
def BR (sp:Sp) (QL:EA V) (E:XK) (t:TA):TE:=fun σ H Q=>t σ H fun vs H1=>sp (vs++QL) H1 Q E
inductive Bj (C:EJ) (m:Fh) (R:V->Hp->Prop) (x:V) (H1:Hp):Prop
 |mk (a dx:EJ) (fs:EA (Fh×V)) (_:x= .ref a) (_:H1 a=some [053]) (_:fs.lookup m=none) (_:R x H1):Bj C m R x H1
def Xo (C:EJ) (m:Fh) (sp:Sp) (QL:EA V) (E:XK) (ta:TE) (t:TA):TE:=fun σ H Q=>ta σ H (Bj C m (fun x H1=>t σ H1 fun vs H2=>sp (x::(vs++QL)) H2 Q E))
def Bb (C:EJ) (sp:Sp) (QL:EA V) (E:XK) (t:TA):TE:=fun σ H Q=>t σ H fun vs H1=> ∀x dx,H1 x=none->H1 dx=none->dx≠x->
 sp (.ref x::(vs++QL)) (aF (aF H1 dx (.own x)) x (.ins C dx [])) (fun v H2=>v= .HZ/\Q (.ref x) H2) E
def dh (CX:pX) (X:Cx) (E:XK):Prop:= ∀(pins:EA (EJ×Ih)) (σ:St) (H:Hp) (s:EM) (e:EH) (s':EM),aE X pins σ H s->CX X.stack H s E e s'->X.xe e s'
section
variable {X:Cx}{CX:pX}{k:E1}{f C:EJ}{fd:FL}{ps:EA Fh}{sp:Sp}{QL:EA V}{ds:EA EH}{E:XK}{x m:Fh}{p pos Kx:Pos}{e o:G8}{es:EA G8}{ta:TE}{t:TA}
theorem rb {pins:EA (EJ×Ih)}{σ:St}{H:Hp}{s:EM}{Q:VK}(F:bS X.prog X.w X.K X.mg X.base CX k f fd ps sp) (hr:bW k X.A) (hb:gc X.K fd ps ds) (hd:aX QL ds) (hx:dh CX X E)
  (I:aE X pins σ H s) (r:aX vs us) (h:sp (vs++QL) H Q E):Fl (model X.prog X.w) X.A (call (.ref f) us) [028] X.xe s:=by
 have r2:aX (vs++QL) (us++ds):=r.append hd
 have hl:(us++ds).length=ps.length:=by rw[<-r2.length];exact F.len _ _ _ _ h
 refine P2 (Mu (F.run X.A X.stack s H #[us,[]] (us++ds) (vs++QL) Q E hr I.ZT (hb s us I.MI hl) r2 h) fun r s' hq=>?_);cases r with
 |error e=>exact hx pins σ H s e s' I hq
 |ok fl=>
  cases fl with
  |ret u=>exact I.after hq
  |next=>exact HW hq
  |brk=>exact HW hq
  |cont=>exact HW hq
theorem aL (F:bS X.prog X.w X.K X.mg X.base CX k f fd ps sp) (hr:bW k X.A) (hg:Gl X x) (d:CD X.K X.mg x f fd ps) (hx:dh CX X E)
  (ha:PA X (e::es) t) (Rl:(x == [003])=false:=by decide) (he:Fb (e::es) X.env=[000]::Fb es X.env:=by rfl) (Ma:(Ie pos [034]).any (·.1)=false:=by rfl):
  PE X (.Call (.Name x p) (e::es) [] pos) (BR sp [] E t):=by
 rw[01];refine Je (gj I hg d.m ?_ Rl);refine Ki (h₀:=X.base) I.ok.mod.UQ d.k (ca [070] fun us s1 ⟨vs,H1,I1,r,q⟩=>#[I1.MI,?_]) he Ma;exact rb F hr d.b .nil hx I1 r q
theorem cx (he:PE X o ta) (c:gA X.K C) (d:MD X.K C m f fd ps) (F:bS X.prog X.w X.K X.mg X.base CX k f fd ps sp) (hr:bW k X.A) (hx:dh CX X E) (ha:PA X (e::es) t)
  (JS:Fb (e::es) X.env=[000]::Fb es X.env:=by rfl) (Ma:(Ie pos [034]).any (·.1)=false:=by rfl)
  (ht:eval (.Call (.Attribute o m Kx) (e::es) [] pos) X.env=(do
   let ov<-eval o X.env
   standAt Kx.atName
   let (f,first)<-holding [ov] (Ku ov m pl)
   MR pos f first (Ie pos (Fb (e::es) X.env)) (Kj pos [074])):=by rfl):
  PE X (.Call (.Attribute o m Kx) (e::es) [] pos) (Xo C m sp [] E ta t):=by
 rw[01];refine KN (pl:=pl) (ca [043] fun u s1 ⟨x,H1,I1,rx,a,dx,fs,ex,ea,l,q⟩=>?_) ht;rw[008];refine mB I1 ea c d.m l ?_;refine Ki (first:=[.ref a]) (h₀:=X.base) I.ok.mod.UQ d.m.kp (ca (ha pos pins s1 σ H1 _ I1 q) fun us s2 ⟨vs,H2,I2,r,q2⟩=>#[I2.MI,?_]) JS Ma
 exact rb (us:= .ref a::us) (vs:= .ref a::vs) F hr d.b .nil hx I2 (.cons rfl r) q2
theorem bQ (he:PE X o ta) (c:gA X.K C) (d:MD X.K C m f fd ps) (F:bS X.prog X.w X.K X.mg X.base CX k f fd ps sp) (hr:bW k X.A) (hx:dh CX X E)
  (ht:eval (.Call (.Attribute o m Kx) [] [] pos) X.env=(do
   let ov<-eval o X.env
   standAt Kx.atName
   let (f,first)<-holding [ov] (Ku ov m pl)
   MR pos f first (Ie pos (Fb [] X.env)) (Kj pos [074])):=by rfl):
  PE X (.Call (.Attribute o m Kx) [] [] pos) (Xo C m sp [] E ta zQ):=by
 rw[01];refine KN (pl:=pl) (ca [043] fun u s1 ⟨x,H1,I1,rx,a,dx,fs,ex,ea,l,q⟩=>?_) ht;rw[008];refine mB I1 ea c d.m l ?_;exact NF (first:=[.ref a]) I1.MI d.m.kp (rb (us:=[.ref a]) (vs:=[.ref a]) F hr d.b .nil hx I1 (.cons rfl .nil) q)
theorem tE {pins:EA (EJ×Ih)}{σ:St}{H:Hp}{s:EM}{Q:VK}(M:Mk X.K C f) (F:bS X.prog X.w X.K X.mg X.base CX k f fd ps sp) (hr:bW (k+1) X.A) (hb:gc X.K fd ps ds) (hd:aX QL ds)
  (hx:dh CX X E) (I:aE X pins σ H s) (r:aX vs us)
  (h: ∀x dx,H x=none->H dx=none->dx≠x->sp (.ref x::(vs++QL)) (aF (aF H dx (.own x)) x (.ins C dx [])) (fun v H2=>v= .HZ/\Q (.ref x) H2) E):
  Fl (model X.prog X.w) X.A (call (.ref C) us) [028] X.xe s:=by
 have hq:=h (s.heap.objs.size+1) s.heap.objs.size (I.HH.fresh (KH _)) (I.HH.fresh (E6 _)) (Gu (G6 _))
 have I2:=aE.made (C:=C) I
 have r2:aX (V.ref (s.heap.objs.size+1)::(vs++QL)) (Fq (s.heap.objs.size+1)::(us++ds)):= .cons rfl (r.append hd)
 have hl:(Fq (s.heap.objs.size+1)::us++ds).length=ps.length:=by
  have e:=r2.length;rw[F.len _ _ _ _ hq] at e;exact e.symm
 refine P2 (BQ (f:=f) I.MI M.makes M.init (beq_iff_eq.mp M.fn) (Mu (F.run _ X.stack _ _ #[Fq (s.heap.objs.size+1)::us,[]] (Fq (s.heap.objs.size+1)::(us++ds)) _ _ E (hr.make C us [])
  (I2.ZT.make C us []) (hb _ (Fq (s.heap.objs.size+1)::us) I2.MI hl) r2 hq) fun r s' TR=>?_))
 cases r with
 |error e=>exact hx pins σ _ _ e s' I2 TR
 |ok fl=>
  cases fl with
  |ret u=>
   obtain⟨v,H',I3,rv,ev,q3⟩:=I2.after TR;subst ev;exact#[rv,#[V.ref (s.heap.objs.size+1),H',I3,rfl,q3]]
  |next=>exact HW TR
  |brk=>exact HW TR
  |cont=>exact HW TR
theorem g7 (M:Mk X.K C f) (F:bS X.prog X.w X.K X.mg X.base CX k f fd ps sp) (hr:bW (k+1) X.A) (hg:Gl X x) (hm:X.mg x=some (.ref C)) (hb:gc X.K fd ps ds) (hd:aX QL ds) (hx:dh CX X E)
  (ha:PA X (e::es) t) (Rl:(x == [003])=false:=by decide) (he:Fb (e::es) X.env=[000]::Fb es X.env:=by rfl) (Ma:(Ie pos [034]).any (·.1)=false:=by rfl):
  PE X (.Call (.Name x p) (e::es) [] pos) (Bb C sp QL E t):=by
 rw[01];refine Je (gj I hg hm ?_ Rl);refine Ki (h₀:=X.base) I.ok.mod.UQ M.kp (ca [070] fun us s1 ⟨vs,H1,I1,r,q⟩=>#[I1.MI,?_]) he Ma;exact tE M F hr hb hd hx I1 r q
theorem Bh (M:Mk X.K C f) (F:bS X.prog X.w X.K X.mg X.base CX k f fd ps sp) (hr:bW (k+1) X.A) (hg:Gl X x) (hm:X.mg x=some (.ref C)) (hb:gc X.K fd ps ds) (hd:aX QL ds) (hx:dh CX X E)
  (Rl:(x == [003])=false:=by decide):PE X (.Call (.Name x p) [] [] pos) (Bb C sp QL E zQ):=by
 rw[01];refine Je (gj I hg hm ?_ Rl);exact NF I.MI M.kp (tE (us:=[]) M F hr hb hd hx I .nil h)
end
structure az (N P:EA Fh) (sc:Scope):Prop where
 kind:sc.kind= .function
 co:sc.isCoroutine=false
 gen:sc.isGenerator=false
 nd:N.Nodup
 pre:N.take P.length=P
 par: ∀x∈P,sc.names.lookup x=some .local\/sc.names.lookup x=some .cell
 ZU: ∀y∈sc.names,y.2≠ .free
theorem pG {kindOf:Fh->ET Jq}{x:Fh} : ∀ {binds:EA (Fh×EH)}{m:Fh->ET EH},(∀v,(x,v)∉binds)->UM kindOf binds m x=m x
 |[],_,_=>rfl
 | (n,v)::r,m,h=>by
  unfold UM;rw[pG fun w hw=>h w (EN _ hw)];split
  ·have:x≠n:=by rintro rfl;exact h v EO
   simp [this]
  ·rfl
theorem pM {kindOf:Fh->ET Jq}{x:Fh} : ∀ {binds:EA (Fh×EH)}{m:Fh->ET EH},(∀v,(x,v)∉binds)->UO kindOf binds m x=m x
 |[],_,_=>rfl
 | (n,v)::r,m,h=>by
  unfold UO;rw[pM fun w hw=>h w (EN _ hw)];split
  ·rfl
  ·have:x≠n:=by rintro rfl;exact h v EO
   simp [this]
theorem pb {kindOf:Fh->ET Jq}{x:Fh}{v:EH} : ∀ {P:EA Fh}{vs:EA EH}{i:E1}{m:Fh->ET EH},P.Nodup->P[i]?=some x->vs[i]?=some v->kindOf x=some .local->
  UM kindOf (P.zip vs) m x=some v
 |[],_,_,_,_,h,_,_=>by simp at h
 |_::_,[],_,_,_,_,h,_=>by simp at h
 |p::P,w::vs,0,m,nd,h1,h2,hk=>by
  simp at h1 h2;subst h1;subst h2;show UM kindOf ((p,w)::P.zip vs) m p=_;unfold UM;rw[pG fun v hv=>(FI.mp nd).1 (Kt hv).1,EL hk];simp
 |p::P,w::vs,i+1,m,nd,h1,h2,hk=>by
  show UM kindOf ((p,w)::P.zip vs) m x=_
  unfold UM;exact pb (i:=i) (FI.mp nd).2 (by simpa using h1) (by simpa using h2) hk
theorem pT {kindOf:Fh->ET Jq}{x:Fh}{v:EH} : ∀ {P:EA Fh}{vs:EA EH}{i:E1}{m:Fh->ET EH},P.Nodup->P[i]?=some x->vs[i]?=some v->kindOf x≠some .local->
  UO kindOf (P.zip vs) m x=some v
 |[],_,_,_,_,h,_,_=>by simp at h
 |_::_,[],_,_,_,_,h,_=>by simp at h
 |p::P,w::vs,0,m,nd,h1,h2,hk=>by
  simp at h1 h2;subst h1;subst h2;show UO kindOf ((p,w)::P.zip vs) m p=_;unfold UO;rw[pM fun v hv=>(FI.mp nd).1 (Kt hv).1,EI hk];simp
 |p::P,w::vs,i+1,m,nd,h1,h2,hk=>by
  show UO kindOf ((p,w)::P.zip vs) m x=_
  unfold UO;exact pT (i:=i) (FI.mp nd).2 (by simpa using h1) (by simpa using h2) hk
def start (N:EA Fh) (vs:EA V):St:=vs.map some++Iz (N.length-vs.length) none
def fg (CX:pX) (P:Fz) (w:Ga) (K:EF) (mg:Fh->ET EH) (base:Gn) (N:EA Fh) (Gz:Fh) (scope:Scope) (f:EJ) (cd:EH) (A:Gk) (outer:EA Env) (s:EM) (H:Hp) (E:XK):Cx where
 prog:=P
 w:=w
 K:=K
 mg:=mg
 base:=base
 A:=A.deeper [078]
 N:=N
 OZ:=s
 H_0:=H
 env:=Jf Gz scope s.heap.objs.size f cd
 outer:=outer
 stack:=Jf Gz scope s.heap.objs.size f cd::outer
 ex:=[]
 calm:=true
 fn:=fun _=>true
 pn:=[]
 xe:=fun e s'=>Fl (model P w) (A.deeper [078]) (leaving [078] e) (fun _ s''=>CX outer H s E e s'') (fun e' s''=>CX outer H s E e' s'') s'
theorem rJ {sc:Scope}{n:E1}{x:Fh}(h:sc.names.lookup x=some .cell): ∃c,(Hx n sc.names []).lookup x=some c:=by
 have q:=QV sc.names n [] (.inl h);exact Ka.mp q
theorem yX {CX:pX}{P:Fz}{w:Ga}{K:EF}{mg:Fh->ET EH}{base:Gn}{N ps:EA Fh}{Gz:Fh}{scope:Scope}{f:EJ}{cd:EH}{A:Gk}{outer:EA Env}{s s1:EM}{H:Hp}{E:XK}{us:EA EH}{vs:EA V}
  (S:az N ps scope) (hd:A.handled=none) (e0:ub P w K mg base A outer s H) (hl:vs.length=ps.length) (r:aX vs us)
  (x:InCallC s s.heap.objs.size (UM [078].kindOf [018] fun _=>none) (Hx (s.heap.objs.size+1) scope.names []) (UO [078].kindOf [018] fun _=>none) s1):
  aE (fg CX P w K mg base N Gz scope f cd A outer s H E) [] (start N vs) H s1:=by
 have Ma:ps.length<=N.length:=by have:=FN NP S.pre;rw[PR] at this;lia
 obtain⟨h1,tk,rfl,hk⟩:=x.done;have noA: ∀b:EJ,b∉(fg CX P w K mg base N Gz scope f cd A outer s H E).ex:=fun b z=>E7 (show b∈([]:EA EJ) from z) [024]
 refine#[#[e0.mod,S.kind,rfl,rfl,E6 _,fun y z c h1 h2=>?_,fun y hy=>?_,fun y c _ h=>?_,fun _=>hd,Gk.frames_deeper e0.frames, .inr #[rfl,rfl],fun b z=>E7 z (noA b),e0.bs,e0.Ue,fun b _ _=>noA b,fun b z=>E7 z (noA b),e0.funs,e0.VU],
  rfl,e0.bare,Un.kept hk,#[_,x.toInCall.ns,fun i y v h1 h2 h3=>?_],fun y c h=>#[_,x.cell y c h],e0.HH.fresh (E6 _),fun y c h=>?_,fun p hp=>E7 (show p∈([]:EA (EJ×Ih)) from hp) [024],e0.HH.kept hk,?_]
 ·exact name_of_addr x.apart (Gg h1) (Gg h2)
 ·have hy:scope.names.lookup y=some .cell\/scope.names.lookup y=some .free:=hy
  rcases hy with hy|hy
  ·exact rJ hy
  ·exact E7 rfl (S.ZU _ (Gg hy))
 ·exact J6 (x.above y c (Gg h))
 ·have hi:i<vs.length:=by
   unfold start at h2;by_cases hi:i<vs.length
   ·exact hi
   ·rw[EA.getElem?_append_right (by simpa using hi)] at h2
    rw[Kz] at h2;split at h2<;>cases h2
  have ha:vs[i]?=some v:=by
   unfold start at h2;rw[QR (by simpa using hi),FQ] at h2;cases e:vs[i]? with
   |none=>rw[e] at h2;cases h2
   |some a=>rw[e] at h2;cases h2;rfl
  obtain⟨u,hu,rv⟩:=r.get ha;have hp:ps[i]?=some y:=by
   rw[<-S.pre,EA.getElem?_take_of_lt (by lia)];exact h1
  have ndP:ps.Nodup:=by rw[<-S.pre];exact S.nd.sublist (EA.take_sublist _ _)
  refine#[u,rv,?_];rcases S.par y (Gs hp) with k|k
  ·exact .inl #[k,pb ndP hp hu k]
  ·obtain⟨c,e⟩:=rJ (n:=s.heap.objs.size+1) k
   refine .inr #[.inl k,c,e,?_];have q:=x.cell y c e;rw[pT ndP hp hu (by show scope.names.lookup y≠_;rw[k];decide)] at q;exact q
 ·exact e0.HH.fresh (J6 (x.above y c (Gg h)))
 ·unfold start
  show _=N.length
  rw[Fc,EY,Ny];lia
theorem Xp {CX:pX}{P:Fz}{w:Ga}{K:EF}{mg:Fh->ET EH}{base:Gn}{k:E1}{f:EJ}{name Gz:Fh}{params:Arguments}{body:EA Stmt}{scope:Scope}{dV kV doc pm Gp ct oc:EH}{an od:ET EJ}
  {VV:IQ (ET EH)}{N ps:EA Fh}{sp:Sp}(lk:K.lookup f=some #[oc,od, .func (HB name Gz params body scope dV kV doc pm an Gp ct),VV]) (RG:KA K Gp Gz=true) (S:az N ps scope)
  (len: ∀vs H Q E,sp vs H Q E->vs.length=ps.length)
  (Jc: ∀(A:Gk) (outer:EA Env) (s:EM) (H:Hp) (vs:EA V) (Q:VK) (E:XK),bW k (A.deeper (Jf Gz scope s.heap.objs.size f Gp))->sp vs H Q E->
   Bd (fg CX P w K mg base N Gz scope f Gp A outer s H E) body { nx:=fun _ H'=>Q .HZ H',rt:=Q } (start N vs) H):
  bS P w K mg base CX (k+1) f (HB name Gz params body scope dV kV doc pm an Gp ct) ps sp:=by
 refine#[len,fun A outer s H args us vs Q E hr e0 hb r SR=>?_];have hl:=len _ _ _ _ SR;have KX:K.In s.heap:=e0.mod.UQ.keeps fun b o e=>(e0.bs b o e).1
 have lim:s.heap.NoLimit:=e0.mod.nolimit.keeps fun b o e=>(e0.bs b o e).1
 have aeV: ∀y∈ps.zip us,scope.names.lookup y.1=some .local\/(scope.names.lookup y.1=some .cell/\((Hx (s.heap.objs.size+1) scope.names []).lookup y.1).isSome=true):=fun⟨n,v⟩ hy=>by
  rcases S.par n (Kt hy).1 with q|q
  ·exact .inl q
  ·exact .inr #[q,QV _ _ _ (.inl q)]
 refine codeAny_call_function hr.depth (KX _ _ lk) rfl S.co S.gen rfl (PySem.W.codeRec_of KX RG) (hb _ _ _ _ ?_);refine wpAny_newFunctionEnv_cells S.kind aeV fun env he s1 x=>?_;subst he;refine#[lim.keeps x.toInCall.keep,codeAny_func ?_];obtain⟨t,ht,hq⟩:=Jc A outer s H vs Q E (hr.deeper _) SR;have I:aE (fg CX P w K mg base N Gz scope f Gp A outer s H E) [] (start N vs) H s1:=yX S hr.hd e0 hl r x;refine HP (ht [] s1 (start N vs) H _ I hq) (fun fl s' hs=>?_) fun e s' hs=>hs;have eN: ∀ {σ':St}{H':Hp}{v:V}{u:EH},aE (fg CX P w K mg base N Gz scope f Gp A outer s H E) [] σ' H' s'->bh v u->Q v H'->CE outer P w H s Q u s':=
  fun {σ' H' v u} J rv q=>#[v,H',J.os,J.bare,J.base,J.HH,rv,q]
 cases fl with
 |ret u=>
  obtain⟨v,σ',H',J,rv,q⟩:=hs;exact eN J rv q
 |next=>
  obtain⟨σ',H',J,q⟩:=hs;exact eN (v:=V.HZ) (u:=Hn) J rfl q
 |brk=>
  obtain⟨_,_,_,q⟩:=hs;exact HW q
 |cont=>
  obtain⟨_,_,_,q⟩:=hs;exact HW q
section
variable {X:Cx}{x:Fh}{p pos:Pos}{e:G8}{es:EA G8}{t:TA}{id T:String}{r:EA V->Hp->VK->Prop}
def tCB (r:EA V->Hp->VK->Prop) (t:TA):TE:=fun σ H Q=>t σ H fun vs H1=>r vs H1 Q
theorem bD (hc:gN X (.builtin id) r) (hg:Gl X x) (hm:X.mg x=none) (hv:Kr x=some (.builtin id)) (ha:PA X (e::es) t) (hn:x≠"__name__":=by decide) (Rl:(x == [003])=false:=by decide)
  (he:Fb (e::es) X.env=[000]::Fb es X.env:=by rfl) (Ma:(Ie pos [034]).any (·.1)=false:=by rfl):PE X (.Call (.Name x p) (e::es) [] pos) (tCB r t):=by
 rw[01];refine Je (lj I hg hm hv ?_ hn Rl);exact NM (ca [070] fun us s1 ⟨vs,H1,I1,r1,q1⟩=>hc pins s1 σ H1 vs us Q I1 r1 q1) he Ma
theorem iY (hc:gN X (.type T) r) (hg:Gl X x) (hm:X.mg x=none) (hv:Kr x=some (.type T)) (ha:PA X (e::es) t) (hn:x≠"__name__":=by decide) (Rl:(x == [003])=false:=by decide)
  (he:Fb (e::es) X.env=[000]::Fb es X.env:=by rfl) (Ma:(Ie pos [034]).any (·.1)=false:=by rfl):PE X (.Call (.Name x p) (e::es) [] pos) (tCB r t):=by
 rw[01];refine Je (lj I hg hm hv ?_ hn Rl);exact Jt (ca [070] fun us s1 ⟨vs,H1,I1,r1,q1⟩=>hc pins s1 σ H1 vs us Q I1 r1 q1) he Ma
end
end L2
namespace HT
open PySem PyProof.Rows
section
variable {prog:Fz}{w:Ga}{A:Gk}{E:EH->EM->Prop}{s:EM}
def Sw (n d:E1):ET Int->E1
 |none=>d
 |some v=>if v<0 then(v+(n:Int)).toNat else min v.toNat n
theorem TU (n d k:E1):Sw n d (some (k:Int))=min k n:=by
 show(if(k:Int)<0 then((k:Int)+(n:Int)).toNat else min (k:Int).toNat n)=min k n
 rw[EI (by lia),Int.toNat_natCast]
end
end HT
namespace L2
open PySem PySem.Spec PyProof.Rows
abbrev TO:=St->Hp->(ET Int->Hp->Prop)->Prop
def PO (X:Cx) (e:ET G8) (t:TO):Prop:=
 ∀(pins:EA (EJ×Ih)) (s:EM) (σ:St) (H:Hp) (Q:ET Int->Hp->Prop),aE X pins σ H s->t σ H Q->
  Fl (model X.prog X.w) X.A (evalPart e X.env) (fun u s'=> ∃o H',aE X pins σ H' s'/\IsPart u o/\Q o H') X.xe s
def aeW (t:TE):TO:=fun σ H Q=>t σ H fun x H1=> ∃i,x= .int i/\Q (some i) H1
section
variable {X:Cx}{e:G8}{te:TE}{lo hi:ET G8}{tl th:TO}{pos p2:Pos}
theorem i4 (h:PE X e te):PO X (some e) (aeW te):=by
 intro pins s σ H Q I hw;rw[evalPart_some];refine ca (h pins s σ H _ I hw) fun u s1 ⟨x,H1,I1,r1,q1⟩=>?_;obtain⟨i,rfl,q⟩:=q1;obtain⟨t,rfl⟩:=r1;exact#[some i,H1,I1, .int i t,q]
def SlR (X:Cx) (r:V->ET Int->ET Int->Hp->VK->Prop):Prop:=
 ∀(pins:EA (EJ×Ih)) (s:EM) (σ:St) (H:Hp) (x:V) (v vl vu:EH) (lo hi:ET Int) (sl:EJ) (Q:VK),aE X pins σ H s->bh x v->s.heap.IsSliceOf sl vl vu .none->IsPart vl lo->IsPart vu hi->r x lo hi H Q->
  ∃T id,Hg (.type T) "__getitem__"=pure (some (.builtin id))/\s.TypeIs v T/\Fl (model X.prog X.w) X.A (Sj v (.ref sl)) [028] X.xe s
def tSl (r:V->ET Int->ET Int->Hp->VK->Prop) (te:TE) (tl th:TO):TE:=fun σ H Q=>te σ H fun x H1=>tl σ H1 fun l H2=>th σ H2 fun u H3=>r x l u H3 Q
theorem og {r:V->ET Int->ET Int->Hp->VK->Prop}(hr:SlR X r) (he:PE X e te) (hl:PO X lo tl) (hu:PO X hi th):PE X (.Subscript e (.Slice lo hi none p2) pos) (tSl r te tl th):=by
 rw[01];refine Yo (ca [043] fun v s1 ⟨x,H1,I1,r1,q1⟩=>?_);refine wpAny_Slice (ca (hl pins s1 σ H1 _ I1 q1) fun vl s2 ⟨l,H2,I2,pl,q2⟩=>ca (hu pins s2 σ H2 _ I2 q2) fun vu s3 ⟨u,H3,I3,pu,q3⟩=>?_);rw[evalPart_none];refine Fx ?_;have I4:aE X pins σ H3 { s3 with heap:=s3.heap.push { cls:= .type "slice",data:= .fields [vl,vu, .none].toArray } } :=I3.kept (t':=s3.toks) fun b ob q=>E2 _ q
 obtain⟨T,id,hT,ht,hg⟩:=hr pins { s3 with heap:=s3.heap.push { cls:= .type "slice",data:= .fields [vl,vu, .none].toArray } } σ H3 x v vl vu l u s3.heap.objs.size Q I4 r1 (aa8 ..) pl pu q3;show Fl (model X.prog X.w) X.A (T7 e (.Slice lo hi none p2) v (.ref s3.heap.objs.size)) [028] X.xe { s3 with heap:=s3.heap.push { cls:= .type "slice",data:= .fields [vl,vu, .none].toArray } };exact tail_any (ops:=[.ref s3.heap.objs.size,v]) ht hT hg (by with_unfolding_all rfl)
def uC (xs:EA V) (lo hi:ET Int):EA V:=(xs.drop (HT.Sw xs.length 0 lo)).take (HT.Sw xs.length xs.length hi-HT.Sw xs.length 0 lo)
theorem sx (xs:EA V) (lo hi:ET Int):(uC xs lo hi).length<=xs.length:=by
 unfold uC;rw[PR,Lg];lia
end
def Xq (n:E1) (i:Int):ET E1:=if 0<=i then(if i<n then some i.toNat else none) else if-(n:Int)<=i then some (i+n).toNat else none
def zr {α:Type}(xs:EA α) (i:Int):ET α:=(Xq xs.length i).bind fun j=>xs[j]?
theorem C9 {i:Int}(h:Xq n i=some j):seqIndex? i n=some j/\j<n/\ -(n:Int)<=i/\i<n:=by
 unfold Xq at h;by_cases h0:0<=i
 ·rw[EL h0] at h
  by_cases h1:i<n
  ·rw[EL h1] at h
   have e:i.toNat=j:=E5 h;exact#[by rw[seqIndex_of h0 h1,e],by lia,by lia,h1]
  ·rw[EI h1] at h;cases h
 ·rw[EI h0] at h
  by_cases h1: -(n:Int)<=i
  ·rw[EL h1] at h
   have e:(i+n).toNat=j:=E5 h;exact#[by rw[seqIndex_neg (by lia) h1,e],by lia,h1,by lia]
  ·rw[EI h1] at h;cases h
theorem rj {α:Type}{xs:EA α}{i:Int}{v:α}(h:zr xs i=some v): ∃j,seqIndex? i xs.length=some j/\xs[j]?=some v/\j<xs.length/\ -(xs.length:Int)<=i/\i<xs.length:=by
 unfold zr at h;cases e:Xq xs.length i with
 |none=>rw[e] at h;cases h
 |some j=>
  rw[e] at h;obtain⟨h1,h2,h3,h4⟩:=C9 e;exact#[j,h1,h,h2,h3,h4]
theorem bo {α:Type}{xs:EA α}{j:E1}{v:α}(h:xs[j]?=some v):zr xs (j:Int)=some v:=by
 have hj:j<xs.length:=(FF.mp h).1
 have e:Xq xs.length (j:Int)=some j:=by
  unfold Xq;rw[EL (by lia),EL (by lia)];simp
 unfold zr;rw[e];exact h
theorem eA {α:Type}(xs:EA α) (v:α):zr (xs++[v]) (-1)=some v:=by
 have hl:(xs++[v]).length=xs.length+1:=by simp
 have e:Xq (xs++[v]).length (-1)=some xs.length:=by
  unfold Xq;rw[hl,EI [01],EL (by lia)]
  congr 1
  lia
 unfold zr;rw[e];show(xs++[v])[xs.length]?=some v;simp
def rc (b:G8):Prop:= ∀o i,subscripted b false o i=operate [o,i] (Sj o i)
def IxR (X:Cx) (r:R2):Prop:=
 ∀(JM slice:G8) (pins:EA (EJ×Ih)) (s:EM) (σ:St) (H:Hp) (x y:V) (v u:EH) (Q:VK),aE X pins σ H s->bh x v->bh y u->r x y H Q->
  subscripted slice false v u=operate [v,u] (Sj v u)->Fl (model X.prog X.w) X.A (T7 JM slice v u) [028] X.xe s
def MtR (X:Cx) (id:String) (r:V->EA V->Hp->VK->Prop):Prop:=
 ∀(pins:EA (EJ×Ih)) (s:EM) (σ:St) (H:Hp) (x:V) (xs:EA V) (v:EH) (us:EA EH) (Q:VK),aE X pins σ H s->bh x v->aX xs us->r x xs H Q->
  Fl (model X.prog X.w) X.A (call (.builtin id) (v::us)) [028] X.xe s
section
variable {X:Cx}{a b:G8}{ta tb:TE}{pos:Pos}
theorem cJ {r:R2}(hr:IxR X r) (ha:PE X a ta) (hb:PE X b tb) (hs:rc b):PE X (.Subscript a b pos) (tOp r ta tb):=by
 rw[01];exact Yo (ZO ha hb I h fun v u s2 x y H2 I2 rx ry q=>hr a b pins s2 σ H2 x y v u Q I2 rx ry q (hs _ _))
inductive Ay (K:EF) (x:V) (y:V) (H:Hp) (Q:VK):Prop
 |mk (p:EJ) (xs:EA V) (i:Int) (v:V) (_:x= .ref p) (_:y= .int i) (_:cP K H p xs) (_:zr xs i=some v) (_:Q v H):Ay K x y H Q
inductive aeX (K:EF) (x:V) (y:V) (H:Hp) (Q:VK):Prop
 |mk (p:EJ) (xs:EA V) (i:Int) (v:V) (_:x= .ref p) (_:y= .int i) (_:rh K H p xs) (_:zr xs i=some v) (_:Q v H):aeX K x y H Q
inductive aeY (x:V) (y:V) (H:Hp) (Q:VK):Prop
 |mk (z:Fh) (i:Int) (c:E1) (_:x= .str z) (_:y= .int i) (_:z.length<=FE) (_:zr z.cps.toList i=some c) (_:Q (.str ⟨[c].toArray⟩) H):aeY x y H Q
theorem bA:IxR X (Ay X.K):=by
 intro JM slice pins s σ H x y v u Q I rx ry h hs;obtain⟨p,xs,i,z,rfl,rfl,hq,he,q⟩:=h;cases rx;obtain⟨t,rfl⟩:=ry;obtain⟨Hc,r,pl,hz⟩:=I.list hq;obtain⟨j,h1,h2,h3,h4,h5⟩:=rj he;obtain⟨w,ew,S9⟩:=r.get h2;have hl:=r.length;have hn:=qN;have eN:EP X pins σ Q w s:=#[z,H,I,S9,q];by_cases h0:0<=i
 ·have hj:i.toNat=j:=by
   rw[seqIndex_of h0 h5] at h1;exact E5 h1
  exact item_listR pl.isList h0 (by lia) (by rw[hj];simpa using ew) eN hs
 ·have hj:(i+(Hc.toArray.size:Int)).toNat=j:=by
   rw[seqIndex_neg (by lia) h4] at h1;rw[F8,<-hl];exact E5 h1
  exact UX (x:=w) pl.isList.typeIs slot_list_getitem.lookup
   (wpAny_getItem_list_neg (Q:=fun r s'=>r=w/\EP X pins σ Q r s') pl.isList (by lia) (by rw[F8]<;>lia) (by lia) (by rw[hj];simpa using ew) #[rfl,eN]) hs
theorem ZV:IxR X (aeX X.K):=by
 intro JM slice pins s σ H x y v u Q I rx ry h hs;obtain⟨p,xs,i,z,rfl,rfl,hq,he,q⟩:=h;cases rx;obtain⟨t,rfl⟩:=ry;obtain⟨Hc,r,pl,hz⟩:=I.tuple hq;obtain⟨j,h1,h2,h3,h4,h5⟩:=rj he;obtain⟨w,ew,S9⟩:=r.get h2;have hl:=r.length;have hn:=qN;have eN:EP X pins σ Q w s:=#[z,H,I,S9,q];exact UX (x:=w) pl.typeIs slot_tuple_getitem.lookup
  (getItem_tuple (j:=j) (Q:=fun r s'=>r=w/\EP X pins σ Q r s') pl (by lia) (by lia) (by rw[F8,<-hl];exact h1) (by simpa using ew) #[rfl,eN]) hs
theorem ZW:IxR X aeY:=by
 intro JM slice pins s σ H x y v u Q I rx ry h hs;obtain⟨z,i,c,rfl,rfl,hz,he,q⟩:=h;rw[009];obtain⟨t',rfl⟩:=ry;obtain⟨j,h1,h2,h3,h4,h5⟩:=rj he;have hl:z.cps.toList.length=z.length:=by simp [Fh.length]
 rw[hl] at h1 h4 h5;have hn:=qN;exact tail_any (Yp s z t) slot_str_getitem.lookup (getItem_str (c:=c) (by
  have e1:decide (i< -(2 ^ 63:Int))=false:=FA (by lia)
  have e2:decide (i ≥ 2 ^ 63)=false:=FA (by lia);rw[e1,e2,Oo]) (by rw[h1];simpa using h2) #[.str #[[c].toArray],H,I.tok _,#[_,rfl],q]) hs
theorem qH (lo hi:ET Int) (n:E1):(L4 lo hi none n).1=((HT.Sw n 0 lo:E1):Int)/\(L4 lo hi none n).2.1=((HT.Sw n n hi:E1):Int)/\(L4 lo hi none n).2.2=1:=by
 refine#[?_,?_,rfl]
 ·cases lo with
  |none=>simp [L4,HT.Sw]
  |some i=>
   simp only[L4,HT.Sw,UE,show(1:Int)>0 by decide,Sk];by_cases h:i<0
   ·simp only[h,Sk]<;>lia
   ·simp only[h,L5]<;>lia
 ·cases hi with
  |none=>simp [L4,HT.Sw]
  |some i=>
   simp only[L4,HT.Sw,UE,show(1:Int)>0 by decide,Sk];by_cases h:i<0
   ·simp only[h,Sk]<;>lia
   ·simp only[h,L5]<;>lia
theorem o5 (Hc:EA EH) (lo hi:ET Int):slicePick Hc.toArray lo hi none=((Hc.drop (HT.Sw Hc.length 0 lo)).take (HT.Sw Hc.length Hc.length hi-HT.Sw Hc.length 0 lo)).toArray:=by
 obtain⟨h1,h2,h3⟩:=qH lo hi Hc.toArray.size;unfold slicePick;rw[h1,h2,h3];simp only[sliceRange_one,pick_run,F8]<;>rfl
def ajY (K:EF):V->ET Int->ET Int->Hp->VK->Prop:=fun x lo hi H Q=> ∃a xs,x= .ref a/\cP K H a xs/\ ∀p,H p=none->Q (.ref p) (aF H p (.lst (uC xs lo hi)))
theorem qP:SlR X (ajY X.K):=by
 intro pins s σ H x v vl vu lo hi sl Q I rx hs pl pu h;obtain⟨a,xs,rfl,hx,q⟩:=h;cases rx;obtain⟨Hc,r,ht,hz⟩:=I.list hx;have MJ:=r.length;refine#["list",_,slot_list_getitem.lookup,ht.isList.typeIs,?_];refine wpAny_getItem_list_slice ht.isList hs pl pu .none [024] ?_ (by rw[F8]<;>lia);rw[o5,<-MJ];refine#[.ref s.heap.objs.size,_,I.laid (t':=s.toks) (o:= .lst (uC xs lo hi)) (fun b ob q=>E2 _ q) (E6 _) ?_,rfl,q _ (I.HH.fresh (E6 _))];exact#[Fj (sx xs lo hi) hz,_,0,(r.drop (HT.Sw xs.length 0 lo)).take (HT.Sw xs.length xs.length hi-HT.Sw xs.length 0 lo),Gy _ rfl]
def ji:V->FR
 | .HZ=>true
 | .bl _=>true
 | .int _=>true
 | .str _=>true
 |_=>false
def Eh:V->V->FR
 | .HZ, .HZ=>true
 | .bl a, .bl b=>a == b
 | .bl a, .int b=>(if a then 1 else 0) == b
 | .int a, .bl b=>a == (if b then 1 else 0)
 | .int a, .int b=>a == b
 | .str a, .str b=>a == b
 |_,_=>false
theorem ZX {A:Gk}{s:EM}{y x:V}{u v:EH}(ry:bh y u) (rx:bh x v) (fy:ji y=true) (fx:ji x=true):SeqAt.EqAt A s u v (Eh y x):=by
 cases y with
 |HZ=>
  cases ry;cases x with
  |HZ=>cases rx;exact SeqAt.EqAt.same _
  |bl b=>cases rx;exact SeqAt.EqAt.none_bool b
  |int b=>obtain⟨t,rfl⟩:=rx;exact SeqAt.EqAt.none_int b t
  |str b=>obtain⟨t,rfl⟩:=rx;exact SeqAt.EqAt.none_str b t
  |_=>exact E7 (show false=true from fx) EE
 |bl a=>
  cases ry;cases x with
  |HZ=>cases rx;exact SeqAt.EqAt.bool_none a
  |bl b=>cases rx;exact SeqAt.EqAt.bool_bool a b
  |int b=>obtain⟨t,rfl⟩:=rx;exact SeqAt.EqAt.bool_int a b t
  |str b=>obtain⟨t,rfl⟩:=rx;exact SeqAt.EqAt.bool_str a b t
  |_=>exact E7 (show false=true from fx) EE
 |int a=>
  obtain⟨t',rfl⟩:=ry;cases x with
  |HZ=>cases rx;exact SeqAt.EqAt.int_none a t'
  |bl b=>cases rx;exact SeqAt.EqAt.int_bool a t' b
  |int b=>obtain⟨t,rfl⟩:=rx;exact SeqAt.EqAt.int_int a t' b t
  |str b=>obtain⟨t,rfl⟩:=rx;exact Rt a t' b t
  |_=>exact E7 (show false=true from fx) EE
 |str a=>
  obtain⟨t',rfl⟩:=ry;cases x with
  |HZ=>cases rx;exact SeqAt.EqAt.str_none a t'
  |bl b=>cases rx;exact SeqAt.EqAt.str_bool a t' b
  |int b=>obtain⟨t,rfl⟩:=rx;exact Ru a t' b t
  |str b=>obtain⟨t,rfl⟩:=rx;exact SeqAt.EqAt.str_str a t' b t
  |_=>exact E7 (show false=true from fx) EE
 |_=>exact E7 (show false=true from fy) EE
def uv (x:V) (u:EH):FR:=match u with
 | .none=>Eh .HZ x
 | .bool b=>Eh (.bl b) x
 | .int i _=>Eh (.int i) x
 | .str z _=>Eh (.str z) x
 |_=>false
theorem zW {x y:V}{u:EH}(r:bh y u) (f:ji y=true):uv x u=Eh y x:=by
 cases y with
 |HZ=>cases r;rfl
 |bl b=>cases r;rfl
 |int i=>obtain⟨t,rfl⟩:=r;rfl
 |str z=>obtain⟨t,rfl⟩:=r;rfl
 |_=>exact E7 (show false=true from f) EE
theorem j6 {x:V} : ∀ {xs:EA V}{us:EA EH},aX xs us->xs.all ji=true->us.any (uv x)=xs.any fun y=>Eh y x
 |_,_, .nil,_=>rfl
 |y::xs,u::us, .cons r t,f=>by
  rw[MO,Gh] at f;rw[MP,MP,zW r f.1,j6 t f.2]
theorem iP {A:Gk}{s:EM}{x:V}{v:EH}(rx:bh x v) (fx:ji x=true): ∀ {xs:EA V}{us:EA EH},aX xs us->xs.all ji=true-> ∀u∈us,SeqAt.EqAt A s u v (uv x u)
 |_,_, .nil,_=>fun u hu=>by cases hu
 |y::xs,u::us, .cons r t,f=>fun u' hu=>by
  rw[MO,Gh] at f;rcases EW.mp hu with rfl|hu
  ·rw[zW r f.1];exact ZX r rx f.1 fx
  ·exact iP rx fx t f.2 u' hu
def tZ (x:V) (xs:EA V):FR:=xs.any fun y=>Eh y x
inductive rIn (K:EF) (neg:FR) (x:V) (y:V) (H:Hp) (Q:VK):Prop
 |mk (p:EJ) (xs:EA V) (_:y= .ref p) (_:(cP K H p xs\/rh K H p xs)) (_:ji x=true) (_:xs.all ji=true) (_:Q (.bl (if neg then !tZ x xs else tZ x xs)) H):rIn K neg x y H Q
theorem li:kZ X (HL .In) (rIn X.K false):=by
 rw[006];obtain⟨p,xs,rfl,hq,fx,fs,q⟩:=h;cases ry;rcases hq with hq|hq
 ·obtain⟨Hc,r,pl,hz⟩:=I.list hq
  refine SeqAt.in_listAt (uv x) pl.isList (fun w hw=>iP rx fx r fs w (by simpa using hw)) #[.bl _,H,I,rfl,?_];rw[show Hc.toArray.any (uv x)=Hc.any (uv x) by simp,j6 r fs];exact q
 ·obtain⟨Hc,r,pl,hz⟩:=I.tuple hq
  refine SeqAt.in_tupleAt (uv x) pl (fun w hw=>iP rx fx r fs w (by simpa using hw)) #[.bl _,H,I,rfl,?_];rw[show Hc.toArray.any (uv x)=Hc.any (uv x) by simp,j6 r fs];exact q
theorem jR:kZ X (HL .NotIn) (rIn X.K true):=by
 rw[006];obtain⟨p,xs,rfl,hq,fx,fs,q⟩:=h;cases ry;rcases hq with hq|hq
 ·obtain⟨Hc,r,pl,hz⟩:=I.list hq
  refine SeqAt.notIn_listAt (uv x) pl.isList (fun w hw=>iP rx fx r fs w (by simpa using hw)) #[.bl _,H,I,rfl,?_];rw[show Hc.toArray.any (uv x)=Hc.any (uv x) by simp,j6 r fs];exact q
 ·obtain⟨Hc,r,pl,hz⟩:=I.tuple hq
  refine SeqAt.notIn_tupleAt (uv x) pl (fun w hw=>iP rx fx r fs w (by simpa using hw)) #[.bl _,H,I,rfl,?_];rw[show Hc.toArray.any (uv x)=Hc.any (uv x) by simp,j6 r fs];exact q
inductive aeZ (K:EF) (xs:EA V) (H:Hp) (Q:VK):Prop
 |mk (p:EJ) (ys:EA V) (_:xs=[.ref p]) (_:(cP K H p ys\/rh K H p ys)) (_:Q (.int ys.length) H):aeZ K xs H Q
theorem bL:gN X (.builtin "len") (aeZ X.K):=by
 rw[013];obtain⟨p,ys,rfl,hq,q⟩:=h;obtain⟨u,rfl,rx⟩:=mQ r;cases rx;have hn:=qN;rcases hq with hq|hq
 ·obtain⟨Hc,r',pl,hz⟩:=I.list hq
  have MJ:=r'.length;exact Calls.call_len_list pl.isList (by simp only[F8]<;>lia) #[.int ys.length,H,I.tok _,#[s.toks+1,by rw[F8,MJ]],q]
 ·obtain⟨Hc,r',pl,hz⟩:=I.tuple hq
  have MJ:=r'.length;exact len_tuple pl (by simp only[F8]<;>lia) #[.int ys.length,H,I.tok _,#[s.toks+1,by rw[F8,MJ]],q]
theorem gu:gN X (.type "tuple") (fun xs H Q=> ∃p ys,xs=[.ref p]/\((cP X.K H p ys/\ ∀l,H l=none->Q (.ref l) (aF H l (.tup ys)))\/(rh X.K H p ys/\Q (.ref p) H))):=by
 rw[013];obtain⟨p,ys,rfl,h⟩:=h;obtain⟨u,rfl,rx⟩:=mQ r;cases rx;rcases h with⟨hq,q⟩|⟨hq,q⟩
 ·obtain⟨Hc,r',pl,hz⟩:=I.list hq
  have MJ:=r'.length;refine call_tuple_list pl.isList (fun h' kp=>?_) (by simp only[F8]<;>lia)
  have I1:aE X pins σ H { s with heap:=h' } :=I.kept (t':=s.toks) kp
  have I2:aE X pins σ (aF H h'.objs.size (.tup ys)) { s with heap:=h'.push { cls:= .type "tuple",data:= .seq Hc.toArray } } :=
   I1.laid (t':=s.toks) (fun b o e=>E2 _ e) (E6 _) (show cw X.prog X.w _ _ _ (.tup ys) from#[hz,Hc,r',IsTup.new _ _])
  exact#[.ref h'.objs.size,_,I2,rfl,q _ (I1.HH.fresh (E6 _))]
 ·obtain⟨Hc,r',pl,hz⟩:=I.tuple hq
  exact call_tuple_same pl #[.ref p,H,I,rfl,q]
def tyV (K:EF) (T:String) (x:V) (H:Hp):Prop:=match x with
 | .str _=>T="str"
 | .int _=>T="int"
 | .ref p=>(T="list"/\ ∃xs,cP K H p xs)\/(T="tuple"/\ ∃o,K.lookup p=some o/\o.cls= .type "tuple"/\o.dict=none)\/
   (T="dict"/\((∃aC,H p=some (.dK aC))\/ ∃aC,H p=some (.dT aC)))\/(T="set"/\ ∃S n,H p=some (.set S n))
 |_=>False
theorem zC {pins:EA (EJ×Ih)}{σ:St}{H:Hp}{s:EM}{T:String}{x:V}{v:EH}(I:aE X pins σ H s) (r:bh x v) (ty:tyV X.K T x H):
  s.TypeIs v T/\ ∀a,v= .ref a-> ∃ob,s.heap.get? a=some ob/\ob.dict=none:=by
 cases x with
 |str z=>
  obtain⟨t,rfl⟩:=r;cases (show T="str" from ty);exact#[Yp s z t,fun _ e=>nomatch e]
 |int i=>
  obtain⟨t,rfl⟩:=r;cases (show T="int" from ty);exact#[typeIs_int s i t,fun _ e=>nomatch e]
 |ref p=>
  cases r;rcases ty with⟨rfl,xs,hq⟩|⟨rfl,o,hk,hc,hd⟩|⟨rfl,hk⟩|⟨rfl,S,n,hk⟩
  ·obtain⟨Hc,_,pl,_⟩:=I.list hq
   refine#[pl.isList.typeIs,fun a e=>?_];cases e;obtain⟨o,n,e,c,hd,_⟩:=pl;exact#[o,e,hd]
  ·refine#[#[o,I.MI p o hk,hc],fun a e=>?_]
   cases e;exact#[o,I.MI _ o hk,hd]
  ·have z: ∃o,s.heap.get? p=some o/\o.ExactDict:=by
    rcases hk with⟨aC,hk⟩|⟨aC,hk⟩
    ·obtain⟨_,_,_,_,o,_,_,e,ex,_⟩:=I.HH p _ hk
     exact#[o,e,ex]
    ·obtain⟨_,_,_,_,o,_,_,e,ex,_⟩:=I.HH p _ hk
     exact#[o,e,ex]
   obtain⟨o,e,ex⟩:=z;refine#[#[o,e,ex.1],fun a e2=>?_];cases e2;exact#[o,e,ex.2.1]
  ·obtain⟨o,_,_,_,e,ex,_⟩:=I.HH p _ hk
   refine#[#[o,e,ex.1],fun a e2=>?_];cases e2;exact#[o,e,ex.2.1]
 |_=>exact HW ty
def ajZ (K:EF) (T:String) (r:V->EA V->Hp->VK->Prop) (to:TE):TE:=fun σ H Q=>to σ H fun x H1=>tyV K T x H1/\r x [] H1 Q
inductive ae0 (K:EF) (T:String) (R:V->Hp->Prop) (x:V) (H1:Hp):Prop
 |mk (_:tyV K T x H1) (_:R x H1):ae0 K T R x H1
def tBM (K:EF) (T:String) (r:V->EA V->Hp->VK->Prop) (to:TE) (t:TA):TE:=fun σ H Q=>to σ H (ae0 K T (fun x H1=>t σ H1 fun xs H2=>r x xs H2 Q))
variable {o e:G8}{es:EA G8}{to:TE}{t:TA}{name:Fh}{Kx K5:Pos}{T id:String}{r:V->EA V->Hp->VK->Prop}
theorem B4 (pa:PlainAttrs T) (slot:Slot T name id) (hty:typeOf (.builtin id)=pure (.type "method_descriptor")) (hm:MtR X id r) (ho:PE X o to)
  (Qj:HM o name X.env (eval o X.env)=eval o X.env:=by rfl) (Qk:(Kx.endLine == K5.line)=true:=by rfl):PE X (.Call (.Attribute o name Kx) [] [] K5) (ajZ X.K T r to):=by
 rw[01];refine wpAny_Call_method0_late Qj Qk (ca [085] fun v s1 ⟨x,H1,I1,r1,ty,q1⟩=>?_);obtain⟨h1,h2⟩:=zC I1 r1 ty;exact#[T,id,pa,slot,hty,h1,h2,KJ rfl (PySem.evalArgs_none (hm pins s1 σ H1 x [] v [] Q I1 r1 .nil q1))]
theorem wm (pa:PlainAttrs T) (slot:Slot T name id) (hty:typeOf (.builtin id)=pure (.type "method_descriptor")) (hm:MtR X id r) (ho:PE X o to) (ha:PA X (e::es) t)
  (Qj:HM o name X.env (eval o X.env)=eval o X.env:=by rfl)
  (aj0:((Ie K5 (Fb (e::es) X.env)).all (fun x=>!x.1)&&(Kj K5 [074]).all (fun x=>x.1.isSome)
   &&decide ((e::es).length+([]:EA Keyword).length+(if([]:EA Keyword).isEmpty then 0 else 1)<30))=true:=by rfl)
  (Qk:(Kx.endLine == K5.line)=true:=by rfl) (hs:Fb (e::es) X.env=[000]::Fb es X.env:=by rfl) (ZY:(Ie K5 [034]).any (·.1)=false:=by rfl):
  PE X (.Call (.Attribute o name Kx) (e::es) [] K5) (tBM X.K T r to t):=by
 rw[01];refine wpAny_Call_method_late Qj aj0 Qk rfl (ca [085] fun v s1 ⟨x,H1,I1,r1,ty,q1⟩=>?_);obtain⟨h1,h2⟩:=zC I1 r1 ty;refine#[T,id,pa,slot,hty,h1,h2,?_];have hA:=ha K5 pins s1 σ H1 _ I1 q1;rw[hs] at hA ⊢;refine KJ (by show(false||(Ie K5 [034]).any (·.1))=false;rw[ZY]<;>rfl) (NC ?_)
 exact ca hA fun us s2 ⟨vs,H2,I2,r2,q2⟩=>hm pins s2 σ H2 x vs v us Q I2 r1 r2 q2
end
def MtM (X:Cx) (id:String) (r:V->EA V->Hp->VK->Prop):Prop:=
 ∀(pins:EA (EJ×Ih)) (s:EM) (σ:St) (H:Hp) (x:V) (xs:EA V) (v:EH) (us:EA EH) (Q:VK),aE X pins σ H s->bh x v->aX xs us->r x xs H Q->
  Fl (model X.prog X.w) X.A (call (.builtin id) (v::us)) [028] X.xe s
theorem aX.one: ∀ {x:V}{us:EA EH},aX [x] us-> ∃u,us=[u]/\bh x u
 |_,_, .cons r .nil=>#[_,rfl,r]
theorem aX.zero: ∀ {us:EA EH},aX [] us->us=[]
 |_, .nil=>rfl
theorem aX.dropLast {xs:EA V}(h:aX xs us):aX xs.dropLast us.dropLast:=by
 induction h with
 |nil=>exact .nil
 |cons r t ih=>
  cases t with
  |nil=>exact .nil
  |cons q t'=>exact .cons r ih
theorem vB {α:Type}(l:EA α):l.eraseIdx (l.length-1)=l.dropLast:=by
 induction l with
 |nil=>rfl
 |cons a r ih=>
  cases r with
  |nil=>rfl
  |cons b r=>
   have e:(a::b::r).length-1=((b::r).length-1)+1:=by
    have h1:(a::b::r).length=r.length+2:=rfl
    have h2:(b::r).length=r.length+1:=rfl;lia
   rw[e,EA.eraseIdx_cons_succ,ih]
   all_goals rfl
section
variable {X:Cx}{pins:EA (EJ×Ih)}{σ:St}{H:Hp}{s:EM}{l b:EJ}{xs ys zs:EA V}
theorem aE.ae1 {Hc its':EA EH}{f:IQ EH->IQ EH}(I:aE X pins σ H s) (hH:H l=some [049])
  (e:s.heap.get? l=some { cls:= .type "list",data:= .seq Hc.toArray n }) (hf:f Hc.toArray=its'.toArray) (hv:aX ys its') (hz:ys.length<=FE):
  aE X pins σ (aF H l (.lst ys)) { s with heap:=s.heap.update l (Ih.mapSeq f),toks:=t' } :=by
 have q:=PySem.IsL.update e f;rw[hf] at q;refine I.write (x:=l) (e:=l) (by rw[hH];exact trivial) (.inl rfl) (fun b' u hb hu=>(GA s.heap (Ih.mapSeq f) (HS hb)).trans hu) #[_,q] ?_
 exact#[hz,its',_,hv,q]
theorem aE.ZZ (I:aE X pins σ H s) (hH:H l=some [049]):xs.length<=FE/\ ∃(Hc:EA EH) (n:E1),aX xs Hc/\xs.length=Hc.length/\s.heap.get? l=some { cls:= .type "list",data:= .seq Hc.toArray n } :=by
 obtain⟨z,Hc,n,r,e⟩:=I.HH l _ hH;exact#[z,Hc,n,r,r.length,e]
end
section
variable {X:Cx}
inductive xc (x:V) (vs:EA V) (H:Hp) (Q:VK):Prop
 |mk (l:EJ) (xs:EA V) (y:V) (_:x= .ref l) (_:vs=[y]) (_:H l=some [049]) (_:xs.length<FE) (_:Q .HZ (aF H l (.lst (xs++[y])))):xc x vs H Q
theorem iT:MtM X "list.append" xc:=by
 intro pins s σ H x vs v us Q I rx rv h;obtain⟨l,xs,y,rfl,rfl,hH,hz,q⟩:=h;cases rx;obtain⟨u,rfl,ru⟩:=rv.one;obtain⟨z,Hc,n,r,hl,e⟩:=I.ZZ hH;refine call_meets F.slot_list_append #[_,e,rfl] F.entry_list_append (F.args_list_append_2 _ _) (PySem.list_append l Hc.toArray n u (by rw[F8];lia)) #[e,?_];refine#[.HZ,_,I.ae1 (its':=Hc++[u]) hH e [024] (r.append (.cons ru .nil)) ?_,rfl,q];rw[Fc,IT];lia
def aj1:V->EA V->Hp->VK->Prop:=fun x vs H Q=> ∃l xs y,x= .ref l/\vs=[]/\H l=some [049]/\xs[xs.length-1]?=some y/\Q y (aF H l (.lst xs.dropLast))
theorem Bg:MtM X "list.pop" aj1:=by
 intro pins s σ H x vs v us Q I rx rv h;obtain⟨l,xs,y,rfl,rfl,hH,hy,q⟩:=h;cases rx;have hus:=rv.zero;subst hus;obtain⟨z,Hc,n,r,hl,e⟩:=I.ZZ hH;obtain⟨u,hu,ru⟩:=r.get hy;have hy':Hc.toArray[Hc.toArray.size-1]?=some u:=by
  show Hc.toArray[Hc.length-1]?=some u
  rw[<-Sb,<-hl];exact hu
 refine call_meets F.slot_list_pop #[_,e,rfl] F.entry_list_pop (F.args_list_pop_1 _) (MeetsSeq.list_pop_last l Hc.toArray n u hy' (by rw[F8];lia)) #[e,?_];refine#[y,_,I.ae1 (its':=Hc.dropLast) hH e ?_ r.dropLast ?_,ru,q]
 ·show Hc.toArray.eraseIdxIfInBounds (Hc.toArray.size-1)=Hc.dropLast.toArray
  rw[F8,EA.eraseIdxIfInBounds_toArray,vB]
 ·rw[EA.length_dropLast]
  lia
end
section
variable {prog:Fz}{w:Ga}{A:Gk}{E:EH->EM->Prop}{s:EM}
set_option maxRecDepth 100000 in
end
theorem aX.ints: ∀ {ns:EA Int}{us:EA EH},aX (ns.map V.int) us->IntsAre us ns
 |[],us,h=>by
  rw[Ph] at h;cases h;exact IntsAre.nil
 |n::ns,us,h=>by
  rw[Fe] at h;cases h with
  |cons r t=>
   obtain⟨k,rfl⟩:=r;exact IntsAre.cons n k (aX.ints t)
theorem aX.bls: ∀ {bs:EA FR}{us:EA EH},aX (bs.map V.bl) us->us=bs.map L7
 |[],us,h=>by
  rw[Ph] at h;cases h
  rfl
 |b::bs,us,h=>by
  rw[Fe] at h;cases h with
  |cons r t=>
   cases r;rw[aX.bls t,Fe]
theorem aX.ae2 {a:EJ}(r:aX [V.ref a] us):us=[Fq a]:=by
 cases r with
 |cons r t=>
  cases t;cases r
  rfl
section
variable {prog:Fz}{w:Ga}{A:Gk}{E:EH->EM->Prop}{s:EM}{l:EJ}{Hc:EA EH}{ns:EA Int}{Q:EH->EM->Prop}
theorem D4 (hh:A.handled=none) (hl:s.heap.IsList l Hc.toArray) (hi:IntsAre Hc ns)
  (h: ∀h' tk t',(∀b o,s.heap.get? b=some o->h'.get? b=some o)->Q (.int ns.sum t') { s with heap:=h',toks:=tk }):Fl (model prog w) A (call (.builtin "sum") [.ref l]) Q E s:=by
 obtain⟨xs,e⟩:=hi.allInts.items;have hn:numsOf (Kk xs).toList=ns:=by rw[<-e];exact hi.numsOf
 rw[nums_intItems] at hn;rw[e] at hl;refine PySem.sum_intListG hh hl fun h' tk t' hk=>?_;have:=h h' tk t' hk;rw[preSum_eq,II [024],hn];exact this
end
section
variable {X:Cx}
def aj2 (K:EF):EA V->Hp->VK->Prop:=fun vs H Q=> ∃(a:EJ) (ns:EA Int),vs=[V.ref a]/\cP K H a (ns.map V.int)/\Q (.int ns.sum) H
theorem Z0 (hc:X.calm=true):gN X (.builtin "sum") (aj2 X.K):=by
 intro pins s σ H vs us Q I r h;obtain⟨a,ns,rfl,hs,q⟩:=h;obtain⟨Hc,rv,hl,_⟩:=I.list hs;rw[aX.ae2 r];exact D4 (I.ok.hd hc) hl.isList rv.ints fun h' tk t' hk=>#[.int _,H,I.kept hk,#[_,rfl],q]
end
theorem Aj {prog:Fz}{w:Ga}{A:Gk}{E:EH->EM->Prop}{s:EM}{l:EJ}{Q:EH->EM->Prop}(hl:s.heap.IsList l items)
  (h: ∀s₂:EM,s₂= { s with heap:=s.heap.push { cls:= .type "list_iterator",data:= .fields [.ref l, .int 0 0].toArray } } ->
   (s₂.heap.IsListIter s.heap.objs.size l 0/\s₂.heap.IsList l items)->l≠s.heap.objs.size->Q [081] s₂):Fl (model prog w) A (pyIter (.ref l)) Q E s:=by
 have TQ:l<s.heap.objs.size:=by obtain⟨_,e,_⟩:=hl;exact Fn e
 exact wpAny_pyIter_list hl (h _ rfl #[#[_,Gy _ rfl,rfl,rfl],hl.push _] (Gu TQ))
theorem tV {prog:Fz}{w:Ga}{A:Gk}{bs:EA FR}{Hc:EA EH}(e:Hc=bs.map L7):
  TruthOf prog w A (fun i v=>Hc.toArray[i]?=some v) (fun i=>bs.getD i false):=fun i v s Q E hv hq=>by
 have hv':Hc[i]?=some v:=by simpa using hv
 rw[e,FQ] at hv';obtain⟨b,hb,rfl⟩:=FG.mp hv';have hg:bs.getD i false=b:=by rw[HX,hb]<;>rfl
 have TR:Q (bs.getD i false) s:=hq;rw[hg] at TR;exact Ic TR
theorem pA: ∀bs:EA FR,(IS bs.length).all (fun i=>bs.getD i false)=bs.all id
 |[]=>rfl
 |b::bs=>by
  rw[EZ,EA.range_succ_eq_map,MO,Sn,MO,<-pA bs]
  all_goals rfl
section
variable {X:Cx}
def aj3 (K:EF):EA V->Hp->VK->Prop:=fun vs H Q=> ∃(a:EJ) (bs:EA FR),vs=[V.ref a]/\cP K H a (bs.map V.bl)/\Q (.bl (bs.all id)) H
theorem Z1 (hc:X.calm=true):gN X (.builtin "all") (aj3 X.K):=by
 intro pins s σ H vs us Q I r h;obtain⟨a,bs,rfl,hs,q⟩:=h;obtain⟨Hc,rv,hl,_⟩:=I.list hs;rw[aX.ae2 r];have hb:=rv.bls;refine call_all_walk (Aj hl.isList fun s₂ e2 st hne=>?_);subst e2;refine#[_,_,_,_,_,_,_,rfl,Walks.list (A:=X.A.in1) (I.ok.hd hc) _ a hne Hc.toArray,st,tV hb,fun h' tk hk=>?_];refine#[.bl _,H,I.kept fun b o eo=>hk b o (fun Z2=>?_) (E2 _ eo),?_,q]
 ·rcases EW.mp Z2 with e1|Z2
  ·exact E7 (e1▸Fn eo) (Hq _)
  ·cases Z2
 ·show L7 _=L7 _
  rw[<-pA,hb,F8,EY]
end
abbrev Al (h:Gn) (c:EJ) (v:ET EH):Prop:=h.IsCell c v
def aj4 (scope sc:Scope):Scope:=
 { scope with names:=scope.names.map fun(n,k)=>if(k == .free&&sc.kind == .function&&sc.names.lookup n == some .cell) then(n, .cell) else(n,k) }
def bV (cells:EA (Fh×EJ)):EA (Fh×Jq)->EA (Fh×EJ)->EA (Fh×EJ)
 |[],acc=>acc
 | (n,k)::r,acc=>if k == .free then bV cells r ((n,(cells.lookup n).getD 0)::acc) else bV cells r acc
theorem jT (env:Env) (f:Fh×Jq->EA (Fh×EJ)->Sem (ForInStep (EA (Fh×EJ))))
  (hf: ∀n k c,f (n,k) c=if k == .free then(do let a<-cellOf env n;pure (.yield ((n,a)::c))) else pure (.yield c)):
  ∀(names:EA (Fh×Jq)) (acc:EA (Fh×EJ)),(∀y∈names,y.2= .free-> ∃c,env.cells.lookup y.1=some c)->forIn names acc f=pure (bV env.cells names acc)
 |[],acc,_=>by rw[QI];rfl
 | (n,k)::r,acc,h=>by
  rw[V7,hf];have ih:=fun acc=>jT env f hf r acc fun y hy=>h y (EN _ hy)
  unfold bV;by_cases hk:(k == KY)=true
  ·rw[EL hk,EL hk]
   obtain⟨c,hc⟩:=h (n,k) EO (by simpa using hk);have e:cellOf env n=pure c:=by unfold cellOf;rw[hc]
   rw[e];have e2:(env.cells.lookup n).getD 0=c:=by rw[hc];rfl
   rw[e2];exact ih _
  ·rw[EI hk,EI hk]
   exact ih _
theorem ux {scope:Scope}{env:Env}(h: ∀y∈scope.names,y.2= .free-> ∃c,env.cells.lookup y.1=some c):closureFor scope env=pure (bV env.cells scope.names []):=by
 simp only[closureFor];rw[jT env _ (fun n k c=>rfl) scope.names [] h]
 rfl
theorem jw {α:Type} : ∀ {l:EA (Fh×α)}{n:Fh}{c:α},(n,c)∈l-> ∃c',l.lookup n=some c'
 | (k,v)::r,n,c,h=>by
  rw[Jr];cases hb:n == k with
  |true=>exact#[_,rfl]
  |false=>
   rcases EW.mp h with e|h
   ·cases e;simp at hb
   ·exact jw h
theorem f9 {cells:EA (Fh×EJ)} : ∀ {names:EA (Fh×Jq)}{acc:EA (Fh×EJ)}{n:Fh}{c:EJ},(n,c)∈bV cells names acc->(n,c)∈acc\/((n, .free)∈names/\c=(cells.lookup n).getD 0)
 |[],_,_,_,h=> .inl h
 | (m,k)::r,acc,n,c,h=>by
  unfold bV at h;split at h
  ·rename_i hk
   have hk:k= .free:=by simpa using hk
   rcases f9 h with h|⟨h1,h2⟩
   ·rcases EW.mp h with e|h
    ·cases e;exact .inr #[hk▸EO,rfl]
    ·exact .inl h
   ·exact .inr #[EN _ h1,h2]
  ·rcases f9 h with h|⟨h1,h2⟩
   ·exact .inl h
   ·exact .inr #[EN _ h1,h2]
theorem iN {cells:EA (Fh×EJ)} : ∀ {names:EA (Fh×Jq)}{acc:EA (Fh×EJ)}{p:Fh×EJ},p∈acc->p∈bV cells names acc
 |[],_,_,h=>h
 | (m,k)::r,acc,p,h=>by
  unfold bV;split
  ·exact iN (EN _ h)
  ·exact iN h
theorem iO {cells:EA (Fh×EJ)} : ∀ {names:EA (Fh×Jq)}{acc:EA (Fh×EJ)}{n:Fh},(n, .free)∈names->(n,(cells.lookup n).getD 0)∈bV cells names acc
 | (m,k)::r,acc,n,h=>by
  unfold bV;rcases EW.mp h with e|h
  ·cases e
   exact iN EO
  ·split
   ·exact iO h
   ·exact iO h
theorem gw: ∀ {names:EA (Fh×Jq)}{h:Gn}{acc:EA (Fh×EJ)}{x:Fh}{c:EJ},(x,c)∈Hx h.objs.size names acc->
  (x,c)∈acc\/((x, .cell)∈names/\h.objs.size<=c/\Al (MN h names) c none)
 |[],_,_,_,_,h=> .inl h
 | (n,k)::r,h,acc,x,c,hm=>by
  unfold Hx at hm;unfold MN;split at hm
  ·rename_i hk
   rw[EL hk];have hk:k= .cell:=by simpa using hk
   rw[<-Hf h { cls:= .type "cell",data:= .cell none }] at hm;rcases gw hm with hm|⟨h1,h2,h3⟩
   ·rcases EW.mp hm with e|hm
    ·cases e
     exact .inr #[hk▸EO,E6 _,_,Of r _ _ _ (Gy _ rfl),rfl]
    ·exact .inl hm
   ·rw[Hf] at h2
    exact .inr #[EN _ h1,KS h2,h3]
  ·rename_i hk
   rw[EI hk];rcases gw hm with hm|⟨h1,h2,h3⟩
   ·exact .inl hm
   ·exact .inr #[EN _ h1,h2,h3]
theorem i5: ∀ {names:EA (Fh×Jq)}{n:E1}{acc:EA (Fh×EJ)}{p:Fh×EJ},p∈acc->p∈Hx n names acc
 |[],_,_,_,h=>h
 | (m,k)::r,n,acc,p,h=>by
  unfold Hx;split
  ·exact i5 (EN _ h)
  ·exact i5 h
theorem k6: ∀ {names:EA (Fh×Jq)}{n:E1}{acc:EA (Fh×EJ)}{x:Fh},(x, .cell)∈names-> ∃c,(x,c)∈Hx n names acc
 | (m,k)::r,n,acc,x,h=>by
  unfold Hx;rcases EW.mp h with e|h
  ·cases e
   exact#[n,i5 EO]
  ·split
   ·exact k6 h
   ·exact k6 h
theorem lq: ∀ {names:EA (Fh×Jq)}{h:Gn}{acc:EA (Fh×EJ)}{x y:Fh}{c:EJ},(∀p∈acc,p.2<h.objs.size)->(∀x y c,(x,c)∈acc->(y,c)∈acc->x=y)->
  (x,c)∈Hx h.objs.size names acc->(y,c)∈Hx h.objs.size names acc->x=y
 |[],_,_,_,_,_,_,hi,h1,h2=>hi _ _ _ h1 h2
 | (n,k)::r,h,acc,x,y,c,hl,hi,h1,h2=>by
  unfold Hx at h1 h2;split at h1
  ·rename_i hk
   rw[EL hk] at h2;rw[<-Hf h { cls:= .type "cell",data:= .cell none }] at h1 h2;refine lq (h:=h.push _) (fun p hp=>?_) (fun x y c a b=>?_) h1 h2
   ·rw[Hf]
    rcases EW.mp hp with rfl|hp
    ·exact G6 _
    ·exact IC (hl p hp)
   ·rcases EW.mp a with e|a<;>rcases EW.mp b with e'|b
    ·cases e;cases e';rfl
    ·cases e;exact E7 (hl _ b) (Hq _)
    ·cases e';exact E7 (hl _ a) (Hq _)
    ·exact hi _ _ _ a b
  ·rename_i hk
   rw[EI hk] at h2;exact lq hl hi h1 h2
theorem tm {M:Model}{A:Gk}{E:EH->EM->Prop}{s:EM}{scope:Scope}{globals:EJ}{closure:EA (Fh×EJ)}{Gz:Fh}{func:ET EJ}{code:EH}{around:Env}{builtins:EJ}{Q:Env->EM->Prop}
  (h:Q (newEnv scope s.heap.objs.size globals (Hx (s.heap.objs.size+1) scope.names closure) Gz func code (some around) builtins)
   { s with heap:=MN (s.heap.push { cls:= .type "dict",data:= .dict [].toArray }) scope.names }):
  Fl M A (newFunctionEnv scope globals closure [] Gz func code (some around) builtins) Q E s:=by
 simp only[newFunctionEnv,Tr,Sk];refine E3 (wpAny_alloc ?_);refine E3 (wpAny_layCells _ (fun n k c=>rfl) scope.names closure _ _ ?_);rw[show({ s with heap:=s.heap.push { cls:= .type "dict",data:= .dict [].toArray } } :EM).heap.objs.size=s.heap.objs.size+1 from Hf ..];rw[QI];exact E3 (Fx (Fx h))
theorem iL {sc:Scope} : ∀ {names:EA (Fh×Jq)}{x:Fh}{k:Jq},
  (names.map fun(n,k)=>if(k == KY&&sc.kind == .function&&sc.names.lookup n == some .cell) then(n,Qr) else(n,k)).lookup x=some k->
  ∃k',names.lookup x=some k'/\(k=k'\/(k'= .free/\k= .cell))
 |[],_,_,h=>by simp at h
 | (n,k₀)::r,x,k,h=>by
  have ih:= @iL sc r x k
  have h':IM x ((if(k₀ == KY&&sc.kind == .function&&sc.names.lookup n == some .cell)=true then(n,Qr) else(n,k₀))::(r.map _))=some k:=h
  cases hx:x == n with
  |true=>
   simp only[Jr,hx];by_cases hc:(k₀ == KY&&sc.kind == .function&&sc.names.lookup n == some .cell)=true
   ·rw[EL hc] at h'
    simp only[Jr,hx] at h';cases h';simp only[Gh,beq_iff_eq] at hc;exact#[k₀,rfl, .inr #[hc.1.1,rfl]]
   ·rw[EI hc] at h'
    simp only[Jr,hx] at h';cases h';exact#[_,rfl, .inl rfl]
  |false=>
   simp only[Jr,hx];by_cases hc:(k₀ == KY&&sc.kind == .function&&sc.names.lookup n == some .cell)=true
   ·rw[EL hc] at h'
    simp only[Jr,hx] at h';exact ih h'
   ·rw[EI hc] at h'
    simp only[Jr,hx] at h';exact ih h'
structure wn (N:EA Fh) (sc scope:Scope) (own:EA (Fh×E1)):Prop where
 kind:scope.kind= .function
 uniq: ∀y∈scope.names,scope.names.lookup y.1=some y.2
 ix: ∀p∈own,N[p.2]?=some p.1
 free: ∀y∈scope.names,y.2= .free->sc.names.lookup y.1=some .cell\/sc.names.lookup y.1=some .free
 own: ∀y∈scope.names,y.2= .local\/y.2= .cell->y.1∈own.map (·.1)\/y.1∉N
def gQ (σ:St):EA E1->St
 |[]=>σ
 |v::vs=>(gQ σ vs).set v none
theorem ir (σ:St): ∀vs:EA E1,(gQ σ vs).length=σ.length
 |[]=>rfl
 |v::vs=>by unfold gQ;rw[EA.length_set,ir σ vs]
theorem kN {σ:St}{i:E1}{x:V} : ∀ {vs:EA E1},(gQ σ vs)[i]?=some (some x)->σ[i]?=some (some x)/\i∉vs
 |[],h=>#[h,by simp]
 |v::vs,h=>by
  unfold gQ at h;by_cases hi:v=i
  ·subst hi
   by_cases hv:v<(gQ σ vs).length
   ·rw[M8 hv] at h;cases h
   ·rw[Ig (by simpa using hv)] at h;cases h
  ·rw[NN hi] at h
   obtain⟨h1,h2⟩:=kN h;exact#[h1,by simp only[EW,Vg];exact#[fun e=>hi e.symm,h2]]
abbrev Cx.Sx (X:Cx) (s:EM) (H:Hp) (scope:Scope) (Kw:Env) (fp:EA EJ):Cx:= { X with OZ:=s,H_0:=H,env:=Kw,outer:=X.stack,ex:=fp,fn:=fun x=>scope.names.lookup x == some .cell,pn:=[],xe:=fun _ _=>False }
section
variable {X:Cx}{pins:EA (EJ×Ih)}{σ:St}{H:Hp}{s:EM}
theorem r6 {scope:Scope}{own:EA (Fh×E1)}{fp:EA EJ}(I:aE X pins σ H s) (ok:wn X.N X.env.scope scope own) (hN:X.N.Nodup) (hfp: ∀b∈fp,oS X pins H b/\b<s.heap.objs.size):
  aE (X.Sx s H scope (L6 scope (Hx (s.heap.objs.size+1) scope.names [037]) s.heap.objs.size X.env) fp) [] (gQ σ (own.map (·.2))) H { s with heap:=MN (s.heap.push { cls:= .type "dict",data:= .dict [].toArray }) scope.names } :=by
 have QQ: ∀y∈scope.names,y.2= .free-> ∃c,X.env.cells.lookup y.1=some c:=fun y hy e=>by
  rcases ok.free y hy e with k|k
  ·exact I.ok.has _ (.inl k)
  ·exact I.ok.has _ (.inr k)
 generalize RY:L6 scope (Hx (s.heap.objs.size+1) scope.names [037]) s.heap.objs.size X.env=Kw;have kp: ∀b o,s.heap.get? b=some o->(MN (s.heap.push { cls:= .type "dict",data:= .dict [].toArray }) scope.names).get? b=some o:=fun b o e=>Of _ _ _ _ (E2 _ e)
 have hL:Kw.locals=s.heap.objs.size:=by rw[<-RY];rfl
 have Z3:Kw.cells=Hx (s.heap.objs.size+1) scope.names [037]:=by rw[<-RY];rfl
 have hsc:Kw.scope=aj4 scope X.env.scope:=by rw[<-RY];rfl
 rw[<-Hf s.heap { cls:= .type "dict",data:= .dict [].toArray }] at Z3;have cm: ∀ {y c},(y,c)∈bV X.env.cells scope.names []->X.env.cells.lookup y=some c/\c<s.heap.objs.size:=fun {y c} hm=>by
  rcases f9 hm with hm|⟨h1,rfl⟩
  ·cases hm
  ·obtain⟨c,hc⟩:=QQ _ h1 rfl
   rw[hc];obtain⟨w,z⟩:=I.cell _ _ hc;exact#[rfl,z.lt]
 have mem: ∀ {y c},Kw.cells.lookup y=some c->(X.env.cells.lookup y=some c/\c<s.heap.objs.size)\/(s.heap.objs.size+1<=c/\Al (MN (s.heap.push { cls:= .type "dict",data:= .dict [].toArray }) scope.names) c none):=fun {y c} e=>by
  rw[Z3] at e;rcases gw (Gg e) with hm|⟨_,h2,h3⟩
  ·exact .inl (cm hm)
  ·rw[Hf] at h2;exact .inr #[h2,h3]
 have look: ∀ {y},scope.names.lookup y=some .free-> ∃c,Kw.cells.lookup y=some c/\X.env.cells.lookup y=some c:=fun {y} hl=>by
  have hy:(y,KY)∈scope.names:=Gg hl;obtain⟨c',e'⟩:=jw (i5 (names:=scope.names) (n:=(s.heap.push { cls:= .type "dict",data:= .dict [].toArray }).objs.size) (iO (cells:=X.env.cells) (acc:=[]) hy));rw[<-Z3] at e';refine#[c',e',?_];rw[Z3] at e';rcases gw (Gg e') with hm|⟨h1,_,_⟩
  ·exact(cm hm).1
  ·have:=ok.uniq _ h1
   rw[hl] at this;cases this
 have okB:(X.Sx s H scope Kw fp).Ok:=by
  refine#[I.ok.mod,by show Kw.scope.kind=_;rw[hsc];exact ok.kind,by show Kw.globals=_;rw[<-RY];exact I.ok.glob,by show Kw.builtins=_;rw[<-RY];exact I.ok.blt,by show s.heap.objs.size<=Kw.locals;rw[hL];exact E6 _,
   fun y z c e1 e2=>?_,fun y hy=>?_,fun y c z e=>?_,I.ok.hd,I.ok.frames, .inl rfl,fun b hb=>#[?_,fun y c e z=>?_],I.bs,Fj I.ok.Ue I.sz,fun b o e hb=>?_,fun b hb z=>?_,I.stack,I.PZ]
  ·have e1:Kw.cells.lookup y=some c:=e1
   have e2:Kw.cells.lookup z=some c:=e2;rw[Z3] at e1 e2;refine lq (fun p hp=>?_) (fun y z c a b=>I.ok.inj y z c (cm a).1 (cm b).1) (Gg e1) (Gg e2)
   rw[Hf];exact IC (cm (y:=p.1) (c:=p.2) hp).2
  ·show∃c,Kw.cells.lookup y=some c
   have key: ∀k,Kw.kindOf y=some k->(k= .cell\/k= .free)-> ∃c,Kw.cells.lookup y=some c:=fun k hk Z4=>by
    unfold Env.kindOf at hk;rw[hsc] at hk;obtain⟨k',e,r⟩:=iL hk;have:k'= .cell\/k'= .free:=by
     rcases r with rfl|⟨rfl,_⟩
     ·exact Z4
     ·exact .inr rfl
    rcases this with rfl|rfl
    ·obtain⟨c,hm⟩:=k6 (n:=(s.heap.push { cls:= .type "dict",data:= .dict [].toArray }).objs.size) (acc:=bV X.env.cells scope.names []) (Gg e)
     obtain⟨c',e'⟩:=jw hm;exact#[c',by rw[Z3];exact e']
    ·obtain⟨c,h1,_⟩:=look e
     exact#[c,h1]
   rcases hy with hy|hy
   ·exact key _ hy (.inl rfl)
   ·exact key _ hy (.inr rfl)
  ·have z:(scope.names.lookup y == some Qr)=true:=z
   have z:scope.names.lookup y=some .cell:=by simpa using z
   have e:Kw.cells.lookup y=some c:=e;rw[Z3] at e;rcases gw (Gg e) with hm|⟨_,h2,_⟩
   ·rcases f9 hm with hm|⟨h1,_⟩
    ·cases hm
    ·have q:=ok.uniq _ h1
     rw[z] at q;cases q
   ·rw[Hf] at h2
    exact KS h2
  ·show b≠Kw.locals
   rw[hL];exact Gu (hfp b hb).2
  ·have e:Kw.cells.lookup y=some c:=e
   rcases mem e with⟨h1,_⟩|⟨h1,_⟩
   ·exact(hfp b hb).1.2.2.2.2.1 y c h1 z
   ·have h2:s.heap.objs.size+1<=b:=by rw[<-z];exact h1
    exact E7 (Fv (hfp b hb).2 (KS h2)) (Hq _)
  ·rcases(hfp b hb).1.2.2.2.1 with z|z
   ·exact I.ok.RV b o e z
   ·exact E7 (Fv (Fn e) (Fj I.ok.Ue z)) (Hq _)
  ·rcases EW.mp (I.Rk b z) with z|z
   ·exact(hfp b hb).1.2.1 z
   ·exact(hfp b hb).1.2.2.1 z
 refine#[okB,rfl,I.bare,Un.kept kp,#[fun _=>none,?_,fun i y av e1 e2 e3=>?_],fun y c e=>?_,?_,fun y c e=>?_,fun p hp=>?_,I.HH.kept kp,by rw[ir];exact I.len]
 ·show Gn.Ns _ Kw.locals _
  rw[hL];exact Gn.Ns.keeps (Gn.Ns.new ..) fun b o e=>Of _ _ _ _ e
 ·obtain⟨e2,hne⟩:=kN e2
  have Rx:scope.names.lookup y=some .free/\(Kw.kindOf y=some .cell\/Kw.kindOf y=some .free):=by
   have key: ∀k,Kw.scope.names.lookup y=some k->k= .local\/k= .cell\/k= .free->scope.names.lookup y=some .free/\(Kw.kindOf y=some .cell\/Kw.kindOf y=some .free):=fun k hk Z4=>by
    have hk0:=hk;rw[hsc] at hk;obtain⟨k',e,r⟩:=iL hk
    have no: ¬(k'= .local\/k'= .cell):=fun hh=>by
     rcases ok.own _ (Gg e) hh with e'|e'
     ·obtain⟨p,hp,hpy⟩:=KQ.mp e'
      have e3:=ok.ix p hp
      have:p.1=y:=hpy;rw[this] at e3;exact hne (KQ.mpr #[p,hp,nU hN e3 e1])
     ·exact e' (Gs e1)
    rcases r with rfl|⟨rfl,rfl⟩
    ·rcases Z4 with rfl|rfl|rfl
     ·exact E7 (.inl rfl) no
     ·exact E7 (.inr rfl) no
     ·exact#[e, .inr hk0]
    ·exact#[e, .inl hk0]
   have e3:oH Kw.scope y:=e3;rcases e3 with e3|e3|e3
   ·exact key _ e3 (.inl rfl)
   ·exact key _ e3 (.inr (.inl rfl))
   ·exact key _ e3 (.inr (.inr rfl))
  obtain⟨m,hn,hl⟩:=I.loc;have aj5:oH X.env.scope y:=(ok.free _ (Gg Rx.1) rfl).elim (fun k=> .inr (.inl k)) (fun k=> .inr (.inr k))
  obtain⟨w,r,q⟩:=hl i y av e1 e2 aj5;refine#[w,r, .inr #[Rx.2,?_]];obtain⟨c,h1,h2⟩:=look Rx.1;rcases q with⟨k,_⟩|⟨_,c',e',z⟩
  ·have k:X.env.scope.names.lookup y=some .local:=k
   rcases ok.free _ (Gg Rx.1) rfl with k'|k'<;>rw[show X.env.scope.names.lookup y=_ from k'] at k<;>cases k
  ·rw[h2] at e';cases e'
   exact#[c,h1,z.keeps kp]
 ·have e:Kw.cells.lookup y=some c:=e
  rcases mem e with⟨h1,_⟩|⟨_,z⟩
  ·obtain⟨w,z⟩:=I.cell y c h1
   exact#[w,z.keeps kp]
  ·exact#[_,z]
 ·show H Kw.locals=none
  rw[hL];exact I.HH.fresh (E6 _)
 ·have e:Kw.cells.lookup y=some c:=e
  rcases mem e with⟨h1,_⟩|⟨h1,_⟩
  ·exact I.LG y c h1
  ·exact I.HH.fresh (KS h1)
 ·exact E7 (show p∈([]:EA (EJ×Ih))++[] from hp) [024]
theorem Z5 {E:EH->EM->Prop}{xs:EA V}{y:V}{v:EH}{Q:EH->EM->Prop}(I:aE X pins σ H s) (hD:H D=some [049]) (hz:xs.length<FE) (r:bh y v)
  (h: ∀s',aE X pins σ (aF H D (.lst (xs++[y]))) s'->Q .none s'):Fl (model X.prog X.w) X.A (call (.builtin "list.append") [.ref D,v]) Q E s:=by
 obtain⟨hz',Hc,n,ri,e⟩:=I.HH D _ hD;have hl:=ri.length;refine append_at (hsz:=by rw[F8];lia) e fun h' sb QP=>?_;refine h { s with heap:=h' } (I.write (t':=s.toks) (by rw[hD];trivial) (.inl rfl) (fun b u hb q=>(sb.2 b hb).trans q) #[_,QP] #[by rw[Fc];exact hz,Hc++[v],n+1,ri.append (.cons r .nil),?_]);rw[QP];simp
def PTs (X:Cx) (ifs:EA G8) (t:TT):Prop:=
 ∀(pins:EA (EJ×Ih)) (s:EM) (σ:St) (H:Hp) (Q:FR->Hp->Prop),aE X pins σ H s->t σ H Q->
  Fl (model X.prog X.w) X.A (forIn ifs true fun c r=>if r=true then do let ok<-isTrue c X.env (eval c X.env);pure (MQ ok) else pure (MQ r)) (TP X pins σ Q) X.xe s
def Z6:TT:=fun _ H Q=>Q true H
theorem v9:PTs X [] Z6:=fun _ _ _ H _ I h=>wpAny_tests_nil #[H,I,h]
end
theorem ya {α:Type}{t:Sem α}{Q Q':α->EM->Prop}{A:Gk}{E:EH->EM->Prop}{s:EM}(h:Fl M A t Q (fun _ _=>False) s) (hQ: ∀a s,Q a s->Q' a s):Fl M A t Q' E s:=HP h hQ fun _ _ z=>HW z
theorem qz {prog:Fz}{w:Ga}{A:Gk}{R:Result->EM->Prop}{s:EM}{elt target iter:G8}{scope:Scope}{pos:Pos}{it acc:EH}{env:Env}(I:E1->EM->Prop)
  (turn: ∀n s,I n s->Fl (model prog w) A (QY it) (fun r s₁=>match r with
   |none=>R (.ok .next) s₁
   |some v=>Fl (model prog w) A (Oe target it v) (fun _ s₁'=>Fl (model prog w) A (assign target env v) (fun _ s₂=>
     Fl (model prog w) A (forIn ifs true fun c r=>if r=true then do let ok<-isTrue c env (eval c env);pure (MQ ok) else pure (MQ r)) (fun ok s₃=>
      if ok=true then Fl (model prog w) A (eval elt env) (fun x s₄=>
       Fl (model prog w) A (call (.builtin "list.append") [acc,x]) (fun _ s₅=> ∃m,m<n/\I m s₅) [052] s₄) [052] s₃
      else∃m,m<n/\I m s₃) [052] s₂) [052] s₁') [052] s₁) [052] s)
  (n:E1) (h:I n s):
  KP (model prog w) A (.compLoop (.ListComp elt [#[target,iter,ifs,0]] scope pos) 0 it acc env) R s:=by
 refine codeAny_loop rfl I (fun n s hI=>?_) n h;show Fl _ A ((compTurn (.ListComp elt [#[target,iter,ifs,0]] scope pos) 0 it acc env).onRaise (fun x=>do Pd x env;theTreesLotGoes x)) _ _ s;refine wpAny_noted ?_;rw[compTurn_list];refine E3 (Nb (E3 (HP (turn n s hI) (fun r s₁ h₁=>?_) fun _ _ h'=>h')));cases r with
 |none=>exact Fx h₁
 |some v=>
  refine E3 (HP h₁ (fun _ s₁' h₁'=>?_) fun _ _ h'=>h');refine E3 (HP h₁' (fun _ s₂ h₂=>E3 (HP h₂ (fun ok s₃ h₃=>?_) fun _ _ h'=>h')) fun _ _ h'=>h');cases ok with
  |false=>exact Fx #[rfl,h₃]
  |true=>
   exact E3 (E3 (HP h₃ (fun x s₄ h₄=>E3 (HP h₄ (fun _ s₅ h₅=>Fx (Fx #[rfl,h₅])) fun _ _ h'=>h')) fun _ _ h'=>h'))
section
variable {X:Cx}
def tLc (wi:TI) (g:TG) (tt:TT) (te:TE) (vs:EA E1):TE:=fun σ H Q=>wi σ H fun J H1=> ∀D,H1 D=none-> ∃W:E1->E1->Hp->Prop,(∃m,W 0 m (aF H1 D (.lst [])))/\ ∀i m H,W i m H->
 (J.stop i H/\Q (.ref D) H)\/(J.go i H/\ ∃Nx:Hp->Prop,(∀H',Nx H'-> ∃m',m'<m/\W (i+1) m' H')/\ ∀x H',J.yld i H x H'->g x (gQ σ vs) H' fun σ2 H2=>gQ σ2 vs=gQ σ vs/\tt σ2 H2 fun b H3=>
  if b=true then te σ2 H3 fun y H4=> ∃acc,H4 D=some (.lst acc)/\acc.length<FE/\Nx (aF H4 D (.lst (acc++[y]))) else Nx H3)
theorem DI {pins:EA (EJ×Ih)}{s:EM}{σ:St}{H:Hp}{Q:VK}{elt tg iter:G8}{ifs:EA G8}{scope:Scope}{own:EA (Fh×E1)}{pos MK:Pos}{wi:TI}{g:TG}{tt:TT}{te:TE}{use:ET (EH->Sem Mo)}{Qf:EH->EM->Prop}
  (hc:X.calm=true) (hN:X.N.Nodup) (I:aE X pins σ H s) (hi:PI X tg iter wi) (ok:wn X.N X.env.scope scope own)
  (hg: ∀(s:EM) (H:Hp) (C:EJ) (cl:EA (Fh×EJ)) (fp:EA EJ),PG [056] tg g) (ht: ∀(s:EM) (H:Hp) (C:EJ) (cl:EA (Fh×EJ)) (fp:EA EJ),PTs [056] ifs tt)
  (he: ∀(s:EM) (H:Hp) (C:EJ) (cl:EA (Fh×EJ)) (fp:EA EJ),PE [056] elt te) (hs: ∀x,Lk iter X.env x=pure x)
  (h:tLc wi g tt te (own.map (·.2)) σ H Q)
  (hRR: ∀D C s' m H',aE X pins σ H' s'->Q (.ref D) H'->s'.heap.Ns C m->oS X pins H' C->compPost (model X.prog X.w) X.A X.xe use Qf (.ref D) C (.ok .next) s'):
  Fl (model X.prog X.w) X.A (comprehension (.ListComp elt [#[tg,iter,ifs,0]] scope pos) scope X.env MK (newList []) false (eval iter X.env) use) Qf X.xe s:=by
 have QQ: ∀y∈scope.names,y.2= .free-> ∃c,X.env.cells.lookup y.1=some c:=fun y hy e=>by
  rcases ok.free y hy e with k|k
  ·exact I.ok.has _ (.inl k)
  ·exact I.ok.has _ (.inr k)
 refine wpAny_comprehension_free (use:=use) rfl hs (ux QQ) ok.kind (fun y hy e=>by rw[ok.uniq y hy,e])
  (ca (hi pins s σ H _ I h) fun xv s1 hx=>ca hx fun itv s2 h2=>?_)
 obtain⟨it,fp,tn,J,H2,e,I2,T,st2,f2,q⟩:=h2;subst e;refine wpAny_newObj_type (tm ?_) (by show 0<=FE;decide);generalize hD:s2.heap.objs.size=D;have hDn:H2 D=none:=I2.HH.fresh (JG hD);obtain⟨W,⟨m0,w0⟩,turn⟩:=q D hDn;generalize hs3:({ s2 with heap:=s2.heap.push { cls:= .type "list",data:= .seq ([]:EA EH).toArray } } :EM)=s3;have I3:aE X pins σ (aF H2 D (.lst [])) s3:=by
  rw[<-hs3];refine I2.laid (t':=s2.toks) (fun b o e=>E2 _ e) (JG hD) #[Fs _,[],0, .nil,?_];rw[<-hD];exact Gy _ rfl
 have h3:s3.heap=s2.heap.push { cls:= .type "list",data:= .seq ([]:EA EH).toArray } :=by rw[<-hs3]
 have sz: ∀b∈fp,b<s2.heap.objs.size:=fun b hb=>by
  obtain⟨o,e,_⟩:=T.obj _ _ st2 b hb;exact Fn e
 have f3: ∀b∈fp,oS X pins (aF H2 D (.lst [])) b/\b<s3.heap.objs.size:=fun b hb=>by
  have TQ:=sz b hb;refine#[#[?_,(f2 b hb).2],by rw[h3,Hf];exact IC TQ];rw[ac (by rw[<-hD];exact Gu TQ)];exact(f2 b hb).1
 have st3:tn 0 s3.heap:=T.keep _ _ _ st2 fun b _ o e=>by rw[h3];exact E2 _ e
 have I4:=r6 I3 ok hN f3
 have pg:=hg s3 (aF H2 D (.lst [])) s3.heap.objs.size [069] fp
 have pt:=ht s3 (aF H2 D (.lst [])) s3.heap.objs.size [069] fp
 have pe:=he s3 (aF H2 D (.lst [])) s3.heap.objs.size [069] fp
 show KP _ _ (.compStart (.ListComp elt [#[tg,iter,ifs,0]] scope pos) 0 (.ref it) (.ref D) (L6 scope [069] s3.heap.objs.size X.env)) (compPost (model X.prog X.w) X.A X.xe use Qf (.ref D) s3.heap.objs.size) { s3 with heap:=MN (s3.heap.push { cls:= .type "dict",data:= .dict [].toArray }) scope.names }
 have nfp: ∀b∈fp,(aF H2 D (.lst [])) b=none:=fun b hb=>(f3 b hb).1.1
 generalize hce:L6 scope [069] s3.heap.objs.size X.env=ce at I4 pg pt pe ⊢;have cL:ce.locals=s3.heap.objs.size:=by subst hce;rfl
 generalize hH3:aF H2 D (.lst [])=H3 at I3 I4 pg pt pe w0 nfp f3;generalize hs4:({ s3 with heap:=MN (s3.heap.push { cls:= .type "dict",data:= .dict [].toArray }) scope.names } :EM)=s4 at I4 ⊢;have st4:tn 0 s4.heap:=T.keep _ _ _ st3 fun b _ o e=>by rw[<-hs4];exact Of _ _ _ _ (E2 _ e)
 have S8: ∀ {σ':St}{H':Hp}{s':EM},aE (X.Sx s3 H3 scope ce fp) [] σ' H' s'->(∀b∈fp,H' b=none)-> ∀b∈fp,oS (X.Sx s3 H3 scope ce fp) [] H' b:=fun {σ' H' s'} I' hn b hb=>
  #[hn b hb,(I'.ok.ZH b hb).1,I'.ok.RW b hb, .inl hb,fun x c e=>(I'.ok.ZH b hb).2 x c e,fun p hp=>E7 (show p∈([]:EA (EJ×Ih))++[] from hp) [024]]
 have loop:KP (model X.prog X.w) X.A (.compLoop (.ListComp elt [⟨tg,iter,ifs,0⟩] scope pos) 0 (.ref it) (.ref D) ce) (compPost (model X.prog X.w) X.A X.xe use Qf (.ref D) s3.heap.objs.size) s4:=by
  refine qz (fun n s'=> ∃i H',aE (X.Sx s3 H3 scope ce fp) [] (gQ σ (own.map (·.2))) H' s'/\tn i s'.heap/\(∀b∈fp,H' b=none)/\W i n H') ?_ m0 #[0,H3,I4,st4,nfp,w0];rintro n s5 ⟨i,H5,I5,st5,n5,w5⟩;rcases turn i n H5 w5 with⟨stop,qq⟩|⟨go,Nx,hNx,step⟩
  ·have td:=T.done (X.Sx s3 H3 scope ce fp) rfl rfl rfl hc i [] s5 _ H5 (fun _ _=>False) I5 (S8 I5 n5) st5 stop
   refine ya td fun r s6 ⟨hr,I6⟩=>?_;subst hr;have I7:aE X pins σ H5 s6:=I3.VA (ch:=fp) I6.os I6.base I6.HH I6.bare fun b hb=>#[(f3 b hb).1.2.2.2.1,(f3 b hb).1.2.1,(f3 b hb).1.2.2.2.2.1,(f3 b hb).1.2.2.2.2.2]
   have nC:H5 s3.heap.objs.size=none:=by
    have z:H5 ce.locals=none:=I6.free;rw[cL] at z;exact z
   obtain⟨m,hn,_⟩:=I6.loc;have hn:s6.heap.Ns ce.locals m:=hn;rw[cL] at hn;exact hRR D s3.heap.objs.size s6 m H5 I7 qq hn (I3.ZN (E6 _) nC)
  ·have ti:=T.item (X.Sx s3 H3 scope ce fp) rfl rfl rfl hc i [] s5 _ H5 (fun _ _=>False) I5 (S8 I5 n5) st5 go
   refine ya ti fun r s6 ⟨u,hr,h6⟩=>?_;subst hr;refine ya h6 fun _ s7 ⟨x,H7,I7,r7,y7,st7,n7⟩=>?_;have I7':=I7.pinned (S8 I7 n7) (T.obj _ _ st7);refine ya (pg _ s7 _ H7 x u _ I7' r7 (step x H7 y7)) fun _ s8 ⟨σ8,H8,I8,hw8,q8⟩=>?_;refine ya (pt _ s8 σ8 H8 _ I8 q8) fun b s9 ⟨H9,I9,q9⟩=>?_;have eN: ∀ {s':EM}{H':Hp},aE (X.Sx s3 H3 scope ce fp) ([]++mY fp s7.heap) σ8 H' s'->Nx H'-> ∃m,m<n/\ ∃i H',aE (X.Sx s3 H3 scope ce fp) [] (gQ σ (own.map (·.2))) H' s'/\tn i s'.heap/\(∀b∈fp,H' b=none)/\W i m H':=fun {s' H'} I' nx=>by
    obtain⟨m',hm,w'⟩:=hNx H' nx;have ae3: ∀b∈fp,∀o,s7.heap.get? b=some o->s'.heap.get? b=some o/\H' b=none:=fun b hb o e=>
     let z:=I'.pin (b,o) (GI _ (GI _ (jB hb e)))
     #[z.1,z.2.1]
    have hl:(gQ σ (own.map (·.2))).length=σ8.length:=by rw[<-hw8,ir]
    refine#[m',hm,i+1,H',(I'.OM (pins:=[])).weak hl (fun j v e=>?_),T.keep _ _ _ st7 fun b hb o e=>(ae3 b hb o e).1,fun b hb=>?_,w']
    ·rw[<-hw8] at e
     exact(kN e).1
    ·obtain⟨o,e,_⟩:=T.obj _ _ st7 b hb
     exact(ae3 b hb o e).2
   cases b with
   |false=>
    simp only[Ii,L5] at q9 ⊢;exact eN I9 q9
   |true=>
    simp only[Sk] at q9 ⊢;refine ya (pe _ s9 σ8 H9 _ I9 q9) fun z s10 ⟨yv,H10,I10,r10,acc,aj6,aj7,nx⟩=>?_;exact Z5 (X:=X.Sx s3 H3 scope ce fp) I10 aj6 aj7 r10 fun s11 I11=>eN I11 nx
 exact codeAny_compStart_list loop (T.self X.A 0 _ _ _ st4 loop)
theorem Xr {elt tg iter:G8}{scope:Scope}{pos:Pos}{g:TG}{tt:TT}{te:TE}(hc:X.calm=true) (hN:X.N.Nodup) (hi:PI X tg iter wi) (ok:wn X.N X.env.scope scope own)
  (hg: ∀(s:EM) (H:Hp) (C:EJ) (cl:EA (Fh×EJ)) (fp:EA EJ),PG [056] tg g) (ht: ∀(s:EM) (H:Hp) (C:EJ) (cl:EA (Fh×EJ)) (fp:EA EJ),PTs [056] ifs tt)
  (he: ∀(s:EM) (H:Hp) (C:EJ) (cl:EA (Fh×EJ)) (fp:EA EJ),PE [056] elt te) (hs: ∀x,Lk iter X.env x=pure x:=by intro _;rfl):
  PE X (.ListComp elt [#[tg,iter,ifs,0]] scope pos) (tLc wi g tt te (own.map (·.2))):=by
 rw[01];rw[eval_ListComp];refine DI hc hN I hi ok hg ht he hs h fun D C s' m H' I' q hn f=>#[m,hn,fun h'' sb=>?_];obtain⟨f0,f1,f2,f3,f4,f5⟩:=f;exact#[.ref D,H',I'.turned (t':=s'.toks) (fun b o hb e=>(sb.2 b hb).trans e) f0 f1 f3 f4 f5,rfl,q]
end
theorem xa {K:EF}{a:EJ}{xs:EA V}{g:TG}{tt:TT}{te:TE}{σ:St}{H1:Hp}{Qd:Hp->Prop}(Pv:E1->Hp->Prop) (h0:Pv 0 (aF H1 D (.lst []))) (hl: ∀i H,i<=xs.length->Pv i H->cP K H a xs)
  (hs: ∀i x H,xs[i]?=some x->Pv i H->g x (gQ σ vs) H fun σ2 H2=>gQ σ2 vs=gQ σ vs/\tt σ2 H2 fun b H3=>
   if b=true then te σ2 H3 fun y H4=> ∃acc,H4 D=some (.lst acc)/\acc.length<FE/\Pv (i+1) (aF H4 D (.lst (acc++[y]))) else Pv (i+1) H3) (hd: ∀H,Pv xs.length H->Qd H):
  ∃W:E1->E1->Hp->Prop,(∃m,W 0 m (aF H1 D (.lst [])))/\ ∀i m H,W i m H->
   ((Xm K a).stop i H/\Qd H)\/((Xm K a).go i H/\ ∃Nx:Hp->Prop,(∀H',Nx H'-> ∃m',m'<m/\W (i+1) m' H')/\ ∀x H',(Xm K a).yld i H x H'->g x (gQ σ vs) H' fun σ2 H2=>gQ σ2 vs=gQ σ vs/\tt σ2 H2 fun b H3=>
    if b=true then te σ2 H3 fun y H4=> ∃acc,H4 D=some (.lst acc)/\acc.length<FE/\Nx (aF H4 D (.lst (acc++[y]))) else Nx H3):=by
 refine#[fun i m H=>m=xs.length-i/\i<=xs.length/\Pv i H,#[xs.length,by simp,Fs _,h0],?_];rintro i m H ⟨rfl,hi,p⟩;have q:=hl i H hi p;by_cases TQ:i<xs.length
 ·refine .inr #[#[xs,xs[i],q,by simp [TQ]],Pv (i+1),fun H' p'=>#[xs.length-(i+1),by lia,rfl,TQ,p'],fun x H' y=>?_]
  obtain⟨e,y⟩:=y;subst e;exact hs i x _ (y xs q) p
 ·have e:i=xs.length:=by lia
  subst e;exact .inl #[#[xs,q,E6 _],hd H p]
def DG (N:EA Fh) (sc scope:Scope) (own:EA (Fh×E1)):FR:=
 (match scope.kind with| .function=>true|_=>false)&&(scope.names.all fun y=>decide (scope.names.lookup y.1=some y.2))&&(own.all fun p=>decide (N[p.2]?=some p.1))&&
  (scope.names.all fun y=>match y.2 with
   | .free=>(match sc.names.lookup y.1 with|some .cell=>true|some .free=>true|_=>false)
   | .local=>decide (y.1∈own.map (·.1))||decide (y.1∉N)
   | .cell=>decide (y.1∈own.map (·.1))||decide (y.1∉N)
   |_=>true)
theorem rO {sc scope:Scope}(h:DG N sc scope own=true):wn N sc scope own:=by
 unfold DG at h;simp only[Gh,Lf,M9] at h;obtain⟨⟨⟨h1,h2⟩,h3⟩,h4⟩:=h;refine#[?_,h2,h3,fun y hy e=>?_,fun y hy e=>?_]
 ·split at h1
  ·assumption
  ·cases h1
 ·have q:=h4 y hy
  simp only[e] at q;split at q<;>first|exact .inl (by assumption)|exact .inr (by assumption)|cases q
 ·have q:=h4 y hy
  rcases e with e|e<;>(simp only[e,LL,M9] at q;exact q)
section
variable {κ:Type} [DecidableEq κ]
def bN (aC:EA (κ×V)) (k:κ):ET V:=(aC.find? fun kv=>decide (kv.1=k)).map (·.2)
def dy (aC:EA (κ×V)) (k:κ) (v:V):EA (κ×V):=
 if(aC.any fun kv=>decide (kv.1=k))=true then aC.map (fun kv=>if kv.1=k then(kv.1,v) else kv) else aC++[(k,v)]
def fD (aC:EA (κ×V)) (k:κ):EA (κ×V):=aC.filter fun kv=>decide (kv.1≠k)
theorem cg {p:κ×V}{r:EA (κ×V)}{k:κ}(e:p.1=k):bN (p::r) k=some p.2:=by simp [bN,GF,e]
theorem b4 {p:κ×V}{r:EA (κ×V)}{k:κ}(e: ¬p.1=k):bN (p::r) k=bN r k:=by simp [bN,GF,e]
theorem ku (k:κ): ∀aC:EA (κ×V),(aC.any fun kv=>decide (kv.1=k))=(bN aC k).isSome
 |[]=>rfl
 |p::r=>by
  rw[MP];by_cases e:p.1=k
  ·simp only[cg e,Gb e,Sq,Tr]
  ·rw[b4 e,FA e,Rr];exact ku k r
theorem rW (k j:κ) (y:V): ∀aC:EA (κ×V),bN (aC.map fun kv=>if kv.1=k then(kv.1,y) else kv) j=(bN aC j).map fun x=>if j=k then y else x
 |[]=>rfl
 |p::r=>by
  have ih:=rW k j y r;rw[Fe];by_cases h:p.1=k
  ·rw[EL h]
   by_cases e:p.1=j
   ·rw[cg (p:=(p.1,y)) e,cg e,Ly,EL (e.symm.trans h)]
   ·rw[b4 (p:=(p.1,y)) e,b4 e,ih]
  ·rw[EI h]
   by_cases e:p.1=j
   ·rw[cg (p:=p) e,cg e,Ly,EI (fun z=>h (e.trans z))]
   ·rw[b4 (p:=p) e,b4 e,ih]
theorem pQ (k j:κ) (y:V): ∀aC:EA (κ×V),bN aC k=none->bN (aC++[(k,y)]) j=if j=k then some y else bN aC j
 |[],_=>by
  by_cases e:k=j
  ·rw[EL e.symm];exact cg (p:=(k,y)) e
  ·rw[EI (fun z=>e z.symm)];exact b4 (p:=(k,y)) e
 |p::r,hn=>by
  rw[VJ];have hk: ¬p.1=k:=fun z=>by rw[cg z] at hn;cases hn
  rw[b4 hk] at hn;have ih:=pQ k j y r hn;by_cases e:p.1=j
  ·rw[cg e,cg e,EI (fun z=>hk (e.trans z))]
  ·rw[b4 e,b4 e,ih]
theorem gK (aC:EA (κ×V)) (k j:κ) (y:V):bN (dy aC k y) j=if j=k then some y else bN aC j:=by
 unfold dy;by_cases a:(aC.any fun kv=>decide (kv.1=k))=true
 ·rw[EL a,rW]
  rw[ku] at a;by_cases e:j=k
  ·obtain⟨x,hx⟩:=Ka.mp a
   rw[EL e,e,hx,Ly,EL rfl]
  ·rw[EI e]
   cases bN aC j with
   |none=>rfl
   |some x=>rw[Ly,EI e]
 ·rw[EI a]
  refine pQ k j y aC ?_;rw[ku] at a;cases q:bN aC k with
  |none=>rfl
  |some x=>rw[q] at a;exact(a rfl).elim
theorem cB (aC:EA (κ×V)) (k:κ) (v:V):(dy aC k v).length<=aC.length+1:=by
 unfold dy;split
 ·rw[EY];lia
 ·rw[Fc,EZ,JK];lia
theorem fS.LN {o:ET V}{u:ET EH}(r:fS o u):o.isSome=u.isSome:=by
 cases o with
 |none=>cases u with
  |none=>rfl
  |some _=>exact(show False from r).elim
 |some _=>cases u with
  |none=>exact(show False from r).elim
  |some _=>rfl
theorem KV.val {aC:EA (κ×V)}(r:KV aC vs) (k:κ):fS (bN aC k) (Pj vs k):=by
 unfold KV at r
 induction r with
 |nil=>exact GH
 | @cons p q ps qs h t ih=>
  obtain⟨h1,h2⟩:=h;by_cases e:p.1=k
  ·have e':q.1=k:=h1.symm.trans e
   have b:Pj (q::qs) k=some q.2:=by simp [Pj,GF,e']
   rw[cg e,b];exact h2
  ·have e': ¬q.1=k:=fun z=>e (h1.trans z)
   have b:Pj (q::qs) k=Pj qs k:=by simp [Pj,GF,e']
   rw[b4 e,b];exact ih
theorem KV.any {aC:EA (κ×V)}(r:KV aC vs) (k:κ):(aC.any fun kv=>decide (kv.1=k))=vs.any fun kv=>decide (kv.1=k):=by
 unfold KV at r
 induction r with
 |nil=>rfl
 |cons h t ih=>rw[MP,MP,ih,h.1]
theorem KV.Z7 {aC:EA (κ×V)}(r:KV aC vs) (k:κ) {y:V}{u:EH}(ry:bh y u):
  KV (aC.map fun kv=>if kv.1=k then(kv.1,y) else kv) (vs.map fun kv=>if kv.1=k then(kv.1,u) else kv):=by
 unfold KV at r ⊢
 induction r with
 |nil=>exact .nil
 | @cons p q ps qs h t ih=>
  rw[Fe,Fe];refine .cons ?_ ih;obtain⟨h1,h2⟩:=h;by_cases e:p.1=k
  ·rw[EL e,EL (h1.symm.trans e)];exact#[h1,ry]
  ·rw[EI e,EI (fun z=>e (h1.trans z))];exact#[h1,h2]
theorem KV.put {aC:EA (κ×V)}(r:KV aC vs) (k:κ) {y:V}{u:EH}(ry:bh y u):KV (dy aC k y) (stored vs k u):=by
 unfold dy stored;rw[r.any k];by_cases e:(vs.any fun kv=>decide (kv.1=k))=true
 ·rw[EL e,EL e];exact r.Z7 k ry
 ·rw[EI e,EI e];exact Yt r #[rfl,ry]
theorem KV.drop {aC:EA (κ×V)}(r:KV aC vs) (k:κ):KV (fD aC k) (without vs k):=by
 unfold KV at r ⊢;unfold fD without
 induction r with
 |nil=>exact .nil
 | @cons p q ps qs h t ih=>
  obtain⟨h1,h2⟩:=h;rw[PU,PU];by_cases e:p.1=k
  ·have a: ¬decide (p.1≠k)=true:=by simp [e]
   have b: ¬decide (q.1≠k)=true:=by simp [h1.symm.trans e]
   rw[EI a,EI b];exact ih
  ·have e': ¬q.1=k:=fun z=>e (h1.trans z)
   have a:decide (p.1≠k)=true:=by simp [e]
   have b:decide (q.1≠k)=true:=by simp [e']
   rw[EL a,EL b];exact .cons #[h1,h2] ih
theorem KV.length {aC:EA (κ×V)}(r:KV aC vs):aC.length=vs.length:=QJ r
theorem BZ (aC:EA (κ×V)) (k:κ):(fD aC k).length<=aC.length:=Nz _ _
end
theorem oB {P:Fz}{w:Ga}{k:a0}{u:EH}(r:bh (kV k) u):(aT P w).is k u=true:=by
 cases k with
 |inl i=>obtain⟨t,e⟩:=(show∃t,u=JL i t from r);subst e;exact tF P w i t
 |inr x=>obtain⟨t,e⟩:=(show∃t,u=NQ x t from r);subst e;exact rG P w x t
theorem pP {P:Fz}{w:Ga} : ∀ {ks:EA a0}{us:EA EH},aX (ks.map kV) us->ItemsAre (aT P w) ks us
 |[],_,r=>by rw[Ph] at r;cases r;exact .nil
 |k::ks,_,r=>by
  rw[Fe] at r;cases r with
  |cons h t=>exact .cons (oB h) (pP t)
abbrev KT (H:Hp):EA (EA a0×V)->EA (EA a0×EJ×EH)->Prop:=Paired fun p q=>p.1=q.1/\H q.2.1=some (.tup (p.1.map kV))/\bh p.2 q.2.2
theorem KT.val {H:Hp}{aC:EA (EA a0×V)}{xs:EA (EA a0×EJ×EH)}(r:KT H aC xs) (k:EA a0):fS (bN aC k) ((Qv xs k).map (·.2)):=by
 induction r with
 |nil=>exact GH
 | @cons p q ps qs h t ih=>
  obtain⟨h1,_,h2⟩:=h;by_cases e:p.1=k
  ·have e':q.1=k:=h1.symm.trans e
   have b:Qv (q::qs) k=some q.2:=by simp [Qv,GF,e']
   rw[cg e,b];exact h2
  ·have e': ¬q.1=k:=fun z=>e (h1.trans z)
   have b:Qv (q::qs) k=Qv qs k:=by simp [Qv,GF,e']
   rw[b4 e,b];exact ih
theorem KT.Z7 {H:Hp}{aC:EA (EA a0×V)}{xs:EA (EA a0×EJ×EH)}(r:KT H aC xs) (k:EA a0) {y:V}{u:EH}(ry:bh y u):
  KT H (aC.map fun kv=>if kv.1=k then(kv.1,y) else kv) (xs.map (putAt k u)):=by
 induction r with
 |nil=>exact .nil
 | @cons p q ps qs h t ih=>
  rw[Fe,Fe];refine .cons ?_ ih;obtain⟨h1,h2,h3⟩:=h;unfold putAt;by_cases e:p.1=k
  ·rw[EL e,EL (h1.symm.trans e)];exact#[h1,h2,ry]
  ·rw[EI e,EI (fun z=>e (h1.trans z))];exact#[h1,h2,h3]
theorem KT.put {H:Hp}{aC:EA (EA a0×V)}{xs:EA (EA a0×EJ×EH)}(r:KT H aC xs) (k:EA a0) {b:EJ}{y:V}{u:EH}(hb:H b=some (.tup (k.map kV))) (ry:bh y u):
  KT H (dy aC k y) (storedH xs k b u):=by
 have e:(aC.any fun kv=>decide (kv.1=k))=(Qv xs k).isSome:=by
  rw[ku,(r.val k).LN,Hv]
 unfold dy storedH;rw[e];by_cases q:(Qv xs k).isSome=true
 ·rw[EL q,EL q];exact r.Z7 k ry
 ·rw[EI q,EI q];exact Yt r #[rfl,hb,ry]
theorem KT.keeps {H H':Hp}{aC:EA (EA a0×V)}{xs:EA (EA a0×EJ×EH)}(r:KT H aC xs) (ht: ∀b ys,H b=some (.tup ys)->H' b=some (.tup ys)):KT H' aC xs:=
 Paired.M7 r fun _ _ z=>#[z.1,ht _ _ z.2.1,z.2.2]
section
variable {P:Fz}{w:Ga}{H:Hp}{h:Gn}{a:EJ}
theorem Xs {u:HO}(ok:hX P w H h) (e:Rd H a u):cw P w H h a u:=e.ok ok
theorem ot {aC:EA (a0×V)}(ok:hX P w H h) (e:Rd H a (.dK aC)):aC.length<=FE/\(a == HN)=false/\ ∃vs,KV aC vs/\h.DictOf (aT P w) a vs:=
 show cw P w H h a (.dK aC) from Xs ok e
theorem Xt {aC:EA (a0×V)}(ok:hX P w H h) (e:H a=some (.dK aC)):aC.length<=FE/\(a == HN)=false/\ ∃vs,KV aC vs/\h.DictOf (aT P w) a vs:=ot ok (.inl e)
theorem jq {ks:EA a0}(ok:hX P w H h) (e:H a=some (.tup (ks.map kV))):(MM (aT P w)).is h ks a:=by
 obtain⟨_,Hc,r,o,h1,h2,n,h3⟩:=(show cw P w H h a (.tup (ks.map kV)) from ok a _ e);exact#[o,Hc.toArray,n,h1,h2,h3,by simpa using pP r]
theorem pF {aC:EA (EA a0×V)}(ok:hX P w H h) (e:Rd H a (.dT aC)):aC.length<=FE/\(a == HN)=false/\
  ∃xs,KT H aC xs/\h.DictOfH (MM (aT P w)) a xs:=by
 obtain⟨z,y,xs,r,o,es,ep,h1,h2,h3,h4,h5⟩:=(show cw P w H h a (.dT aC) from Xs ok e);refine#[z,y,xs,r,o,es,ep,h1,h2,h3,h4,fun x hx=>?_,h5];have all: ∀ {l:EA (EA a0×V)}{m:EA (EA a0×EJ×EH)},KT H l m-> ∀x∈m,(MM (aT P w)).is h x.1 x.2.1:=by
  intro l m q
  induction q with
  |nil=>intro x hx;exact nomatch hx
  | @cons p q ps qs hq t ih=>
   intro x hx;rcases EW.mp hx with e|hx
   ·subst e
    exact jq ok (by rw[<-hq.1];exact hq.2.1)
   ·exact ih x hx
 exact all r x hx
theorem ae4 {aC:EA (EA a0×V)}(ok:hX P w H h) (e:H a=some (.dT aC)):aC.length<=FE/\(a == HN)=false/\
  ∃xs,KT H aC xs/\h.DictOfH (MM (aT P w)) a xs:=pF ok (.inl e)
end
def gv (H:Hp) (a:EJ) (y:V) (r:ET V):Prop:=
 (∃aC k,Rd H a (.dK aC)/\y=kV k/\r=bN aC k)\/ ∃aC k b,Rd H a (.dT aC)/\y= .ref b/\H b=some (.tup (k.map kV))/\r=bN aC k
def rQ (H:Hp) (a:EJ) (y v:V) (H':Hp):Prop:=
 (∃aC k,H a=some (.dK aC)/\y=kV k/\aC.length<FE/\H'=aF H a (.dK (dy aC k v)))\/
 ∃aC k b,H a=some (.dT aC)/\y= .ref b/\H b=some (.tup (k.map kV))/\aC.length<FE/\H'=aF H a (.dT (dy aC k v))
theorem gv.k {H:Hp}{a:EJ}{aC:EA (a0×V)}{k:a0}(e:H a=some (.dK aC)):gv H a (kV k) (bN aC k):= .inl #[aC,k, .inl e,rfl,rfl]
theorem rQ.k {H:Hp}{a:EJ}{aC:EA (a0×V)}{k:a0}{v:V}(e:H a=some (.dK aC)) (hl:aC.length<FE):rQ H a (kV k) v (aF H a (.dK (dy aC k v))):= .inl #[aC,k,e,rfl,hl,rfl]
section
variable {X:Cx}{pins:EA (EJ×Ih)}{σ:St}{H:Hp}{s:EM}{a:EJ}{y v:V}{u r:EH}{o:ET V}{A:Gk}{E:EH->EM->Prop}
theorem aE.big (I:aE X pins σ H s):HN<s.heap.objs.size:=by
 have h:ID<s.heap.objs.size:=(I.mod.glob.keeps I.bk).lt;exact E1.lt_trans [01] h
theorem xL {Q:EH->EM->Prop}(hu:A.units+1<OX) (I:aE X pins σ H s) (g:gv H a y (some v)) (ry:bh y u) (h: ∀w' s',aE X pins σ H s'->bh v w'->Q w' s'):
  Fl (model X.prog X.w) A (Sj (.ref a) u) Q E s:=by
 rcases g with⟨aC,k,e,ey,l⟩|⟨aC,k,b,e,ey,eb,l⟩
 ·subst ey
  obtain⟨z,hd,vs,rel,dd⟩:=ot I.HH e;obtain⟨w',hw,S9⟩:=fS.some_of (v:=v) (o:=Pj vs k) (by rw[l];exact rel.val k);exact wpAny_getItem_of (oB ry) dd.mapOf hw (h w' _ (I.tok _) S9)
 ·subst ey
  cases (show u=Fq b from ry);obtain⟨z,hd,xs,rel,dd⟩:=pF I.HH e;obtain⟨w',hw,S9⟩:=fS.some_of (v:=v) (o:=(Qv xs k).map (·.2)) (by rw[l];exact rel.val k);obtain⟨p,hp,hp2⟩:=FG.mp hw;refine Yk (JN hu) (jq I.HH eb) dd hp ?_;rw[hp2];exact h w' _ (I.tok _) S9
theorem aj8 {Q:EH->EM->Prop}(hu:A.units+1<OX) (I:aE X pins σ H s) (g:gv H a y o) (ry:bh y u) (h: ∀s',aE X pins σ H s'->Q (.bool o.isSome) s'):
  Fl (model X.prog X.w) A (HL .In u (.ref a)) Q E s:=by
 rcases g with⟨aC,k,e,ey,l⟩|⟨aC,k,b,e,ey,eb,l⟩
 ·subst ey
  obtain⟨z,hd,vs,rel,dd⟩:=ot I.HH e;refine wpAny_in_of (oB ry) hd dd.mapOf ?_;rw[<-(rel.val k).LN,<-l];exact h _ (I.tok _)
 ·subst ey
  cases (show u=Fq b from ry);obtain⟨z,hd,xs,rel,dd⟩:=pF I.HH e;refine wpAny_in_heap (JN hu) (jq I.HH eb) hd dd ?_;have q:=(rel.val k).LN;rw[Hv] at q;rw[<-q,<-l];exact h _ (I.tok _)
theorem Dv {Q:EH->EM->Prop}(hu:A.units+1<OX) (I:aE X pins σ H s) (g:gv H a y o) (ry:bh y u) (h: ∀s',aE X pins σ H s'->Q (.bool (!o.isSome)) s'):
  Fl (model X.prog X.w) A (HL .NotIn u (.ref a)) Q E s:=by
 rcases g with⟨aC,k,e,ey,l⟩|⟨aC,k,b,e,ey,eb,l⟩
 ·subst ey
  obtain⟨z,hd,vs,rel,dd⟩:=ot I.HH e;refine wpAny_notIn_of (oB ry) hd dd.mapOf ?_;rw[<-(rel.val k).LN,<-l];exact h _ (I.tok _)
 ·subst ey
  cases (show u=Fq b from ry);obtain⟨z,hd,xs,rel,dd⟩:=pF I.HH e;refine wpAny_notIn_heap (JN hu) (jq I.HH eb) hd dd ?_;have q:=(rel.val k).LN;rw[Hv] at q;rw[<-q,<-l];exact h _ (I.tok _)
theorem qc {h':Gn}(I:aE X pins σ H s) (mu:eW (H a)) (hs:LZ a s.heap h') (he: ∃q,h'.get? a=some q) (new:cw X.prog X.w (aF H a ob) h' a ob):
  aE X pins σ (aF H a ob) { s with heap:=h',toks:=t' } :=
 I.write (x:=a) (e:=a) mu (.inl rfl) (fun b q hb z=>(hs.2 b hb).trans z) he new
theorem t8 {P:Fz}{w:Ga}{H':Hp}{h':Gn}{aC:EA (a0×V)}(z:aC.length<=FE) (hd:(a == HN)=false) (rel:KV aC vs) (dd:h'.DictOf (aT P w) a vs):
  cw P w H' h' a (.dK aC):=#[z,hd,vs,rel,dd]
theorem yL {H':Hp}{Q:Mo->EM->Prop}(hu:A.units+1<OX) (I:aE X pins σ H s) (g:rQ H a y v H') (ry:bh y u) (rv:bh v r) (h: ∀s',aE X pins σ H' s'->Q () s'):
  Fl (model X.prog X.w) A (setItem (.ref a) u r) Q E s:=by
 rcases g with⟨aC,k,e,ey,l,eH⟩|⟨aC,k,b,e,ey,eb,l,eH⟩
 ·subst ey eH
  obtain⟨z,hd,vs,rel,dd⟩:=Xt I.HH e;have hz:vs.length<=FE:=by rw[<-rel.length];exact z
  have hl:(dy aC k v).length<=FE:=by have:=cB aC k v;lia
  refine wpAny_setItem_pairs (hsz:=hz) (oB ry) dd fun h' V1 hs=>h _ ?_;have he: ∃q,h'.get? a=some q:=let ⟨q,_,_,hq,_⟩:=V1;#[q,hq];exact qc I (by rw[e];exact GH) hs he (t8 hl hd (rel.put k rv) V1)
 ·subst ey eH
  cases (show u=Fq b from ry);obtain⟨z,hd,xs,rel,dd⟩:=ae4 I.HH e;have hz:xs.length<=FE:=by rw[<-QJ rel];exact z
  have hl:(dy aC k v).length<=FE:=by have:=cB aC k v;lia
  refine wpAny_setItem_heap (hsz:=hz) (JN hu) (jq I.HH eb) dd fun h' V1 hs=>h _ ?_;obtain⟨q,es,ep,hq,h2,h3,h4,_,h5⟩:=V1;refine qc I (by rw[e];exact GH) hs #[q,hq] #[hl,hd,_,(rel.put k eb rv).keeps fun c ys ec=>?_,q,es,ep,hq,h2,h3,h4,h5];rw[ac (pZ ec e [032])];exact ec
end
section
variable {X:Cx}{pins:EA (EJ×Ih)}{σ:St}{H:Hp}{s:EM}{a:EJ}{aC:EA (a0×V)}{k:a0}{u:EH}{A:Gk}{E:EH->EM->Prop}
theorem ae5 {v:V}{Q:EH->EM->Prop}(I:aE X pins σ H s) (e:H a=some (.dK aC)) (ry:bh (kV k) u) (l:bN aC k=some v) (hm:more=[]\/ ∃x,more=[x])
  (h: ∀w' s',aE X pins σ (aF H a (.dK (fD aC k))) s'->bh v w'->Q w' s'):Fl (model X.prog X.w) A (call (.builtin "dict.pop") (.ref a::u::more)) Q E s:=by
 obtain⟨z,hd,vs,rel,dd⟩:=Xt I.HH e;obtain⟨w',hw,S9⟩:=fS.some_of (v:=v) (o:=Pj vs k) (by rw[<-l];exact rel.val k);have hp:(keyPart u).isSome=true:=by
  cases k with
  |inl i=>obtain⟨t,q⟩:=(show∃t,u=JL i t from ry);subst q;rfl
  |inr x=>obtain⟨t,q⟩:=(show∃t,u=NQ x t from ry);subst q;rfl
 have ha:argsOk "dict.pop" ⟨.ref a::u::more,[]⟩:=by
  rcases hm with q|⟨x,q⟩
  ·subst q;exact PySem.F.args_dict_pop_2 _ _
  ·subst q;exact PySem.F.args_dict_pop_3 _ _ _
 refine call_meetsIn Rn dd.typeIs PySem.F.entry_dict_pop ha (meets_dict_pop_there (aT X.prog X.w) a (oB ry) more hm hp)
  #[vs,w',dd,by rw[<-rel.length];exact z,hw,fun h' V1 hs=>h w' _ ?_ S9]
 have he: ∃q,h'.get? a=some q:=let ⟨q,_,_,hq,_⟩:=V1;#[q,hq];exact qc I (by rw[e];exact GH) hs he (t8 (Fj (BZ aC k) z) hd (rel.drop k) V1)
theorem ae6 {Q:EH->EM->Prop}(I:aE X pins σ H s) (e:Rd H a (.dK aC)) (h: ∀t s',aE X pins σ H s'->Q (.int aC.length t) s'):Fl (model X.prog X.w) A (call (.builtin "len") [.ref a]) Q E s:=by
 obtain⟨z,hd,vs,rel,dd⟩:=ot I.HH e;refine call_len_dict hd dd (by rw[<-rel.length];rw[Ht] at z;lia) ?_;rw[<-rel.length];exact h _ _ (I.tok _)
end
def Db (i:G8):Prop:= ∀ov iv,subscripted i false ov iv=operate [ov,iv] (Sj ov iv)
theorem we {prog:Fz}{w:Ga}{A:Gk}{E:EH->EM->Prop}{s:EM}{env:Env}{JM slice:G8}{pos:Pos}{T id:String}{Q:EH->EM->Prop}
  (hl:Hg (.type T) "__getitem__"=pure (some (.builtin id))) (hs:Db slice)
  (h:Fl (model prog w) A (eval JM env) (fun o s₁=>Fl (model prog w) A (eval slice env) (fun i s₂=>s₂.TypeIs o T/\Fl (model prog w) A (Sj o i) Q E s₂) E s₁) E s):
  Fl (model prog w) A (eval (.Subscript JM slice pos) env) Q E s:=by
 refine Yo (HP h (fun o s₁ h₁=>HP h₁ (fun i s₂ h₂=>?_) fun _ _ x=>x) fun _ _ x=>x);obtain⟨hT,h₂⟩:=h₂;unfold T7;refine E3 ?_;rw[getitemInPython_of_ne hT.not_modules];refine E3 (wpAny_specialOf hT hl ?_);have eN:Fl (model prog w) A (subscripted slice false o i) (fun r s₃=>Fl (model prog w) A (letTemporaryGo JM o r>>=fun _=>pure r) Q E s₃) E s₂:=by
  rw[hs o i];exact wpAny_operating (HP h₂ (fun r s₃ h₃=>E3 (wpAny_letTemporaryGo (Fx h₃))) fun _ _ x=>x)
 first
  |exact Fx (E3 eN)
  |exact E3 (Fx (E3 eN))
  |exact E3 eN
theorem r9 {X:Cx}{pins:EA (EJ×Ih)}{σ:St}{H:Hp}{s:EM}{a:EJ}{y:V}{o:ET V}(I:aE X pins σ H s) (g:gv H a y o):s.TypeIs (.ref a) "dict":=by
 rcases g with⟨aC,k,e,_,_⟩|⟨aC,k,b,e,_,_,_⟩
 ·obtain⟨_,_,vs,_,dd⟩:=ot I.HH e
  exact dd.typeIs
 ·obtain⟨_,_,xs,_,dd⟩:=pF I.HH e
  exact dd.typeIs
def ae7 (td ty:TE):TE:=fun σ H Q=>td σ H fun x H1=>ty σ H1 fun y H2=> ∃a v,x= .ref a/\gv H2 a y (some v)/\Q v H2
inductive zO (y:V) (R:ET V->Hp->Prop) (x:V) (H2:Hp):Prop
 |mk (a:EJ) (o:ET V) (_:x= .ref a) (_:gv H2 a y o) (_:R o H2):zO y R x H2
def aj9 (ty td:TE):TE:=fun σ H Q=>ty σ H fun y H1=>td σ H1 (zO y (fun o H2=>Q (.bl o.isSome) H2))
def D1 (ty td:TE):TE:=fun σ H Q=>ty σ H fun y H1=>td σ H1 (zO y (fun o H2=>Q (.bl (!o.isSome)) H2))
def ae8 (td ty tv:TE):TS:=fun D σ H=>tv σ H fun v H1=>td σ H1 fun x H2=>ty σ H2 fun y H3=> ∃a H4,x= .ref a/\rQ H3 a y v H4/\D.nx σ H4
section
variable {X:Cx}{o i e JM:G8}{pos MK aeU:Pos}{td ty tv:TE}
theorem jO (hu:X.A.units+1<OX) (ho:PE X o td) (hi:PE X i ty) (hs:Db i):PE X (.Subscript o i pos) (ae7 td ty):=by
 rw[01];refine we Qm.lookup hs (ca [085] fun u s1 ⟨x,H1,I1,rx,q1⟩=>ca (hi pins s1 σ H1 _ I1 q1) fun iv s2 ⟨y,H2,I2,ry,a,v,ex,g,q2⟩=>?_);rw[008];exact#[r9 I2 g,xL hu I2 g ry fun w' s3 I3 S9=>#[v,H2,I3,S9,q2]]
theorem mX (hu:X.A.units+1<OX) (hi:PE X i ty) (ho:PE X o td):PC X .In i o (aj9 ty td):=by
 rw[01];refine ca (hi pins s σ H _ I h) fun iv s1 ⟨y,H1,I1,ry,q1⟩=>ca (ho pins s1 σ H1 _ I1 q1) fun u s2 ⟨x,H2,I2,rx,a,ov,ex,g,q2⟩=>?_;rw[008];exact aj8 hu I2 g ry fun s3 I3=>#[.bl ov.isSome,H2,I3,rfl,q2]
theorem iU (hu:X.A.units+1<OX) (hi:PE X i ty) (ho:PE X o td):PC X .NotIn i o (D1 ty td):=by
 rw[01];refine ca (hi pins s σ H _ I h) fun iv s1 ⟨y,H1,I1,ry,q1⟩=>ca (ho pins s1 σ H1 _ I1 q1) fun u s2 ⟨x,H2,I2,rx,a,ov,ex,g,q2⟩=>?_;rw[008];exact Dv hu I2 g ry fun s3 I3=>#[.bl (!ov.isSome),H2,I3,rfl,q2]
theorem gW (hu:X.A.units+1<OX) (ho:PE X o td) (hi:PE X i ty) (hv:PE X JM tv) (hs:K7 JM (some (.Subscript o i MK)) pos.line X.env=pure false):
  PS X (.Assign [.Subscript o i MK] JM pos) (ae8 td ty tv):=by
 rw[04];refine wpAny_Assign_Subscript (ca (hv pins s σ H _ I h) fun r s1 ⟨v,H1,I1,rv,q1⟩=>ca (ho pins s1 σ H1 _ I1 q1) fun u s2 ⟨x,H2,I2,rx,q2⟩=>ca (hi pins s2 σ H2 _ I2 q2) fun iv s3 ⟨y,H3,I3,ry,a,H4,ex,g,q3⟩=>?_) hs;rw[008];exact yL hu I3 g ry rv fun s4 I4=>#[σ,H4,I4,q3]
end
theorem CN {P:Fz}{w:Ga}{H:Hp}(h:Gn) (hb:HN<h.objs.size):cw P w H (h.push { cls:= .type "dict",data:= .dict [].toArray }) h.objs.size (.dK []):=
 #[Fs _,beq_eq_false_iff_ne.mpr (HS (Gu hb)),[], .nil,Sv h]
def Z8:TE:=fun _ H Q=> ∀p,H p=none->Q (.ref p) (aF H p (.dK []))
section
variable {X:Cx}{pos:Pos}
theorem e9:PE X (.Dict [] [] pos) Z8:=fun pins s σ H Q I h=>
 wpAny_Dict_empty #[.ref s.heap.objs.size,_,I.laid (a:=s.heap.objs.size) (o:= .dK []) (t':=s.toks) (fun _ _ q=>E2 _ q) (E6 _) (CN s.heap I.big),rfl,h _ (I.HH.fresh (E6 _))]
end
def fL (aC more:EA (a0×V)):EA (a0×V):=more.foldl (fun acc kv=>dy acc kv.1 kv.2) aC
theorem KV.merge: ∀ {more:EA (a0×V)}{rs:EA (a0×EH)}{aC:EA (a0×V)}{vs:EA (a0×EH)},KV more rs->KV aC vs->KV (fL aC more) (merged vs rs):=by
 intro more rs aC vs r;unfold KV at r
 induction r generalizing aC vs with
 |nil=>intro q;exact q
 | @cons p q ps qs h t ih=>
  intro r0;have e:KV (dy aC p.1 p.2) (stored vs q.1 q.2):=by
   have:=r0.put p.1 h.2;rw[<-h.1];exact this
  exact ih e
theorem gt: ∀(more aC:EA (a0×V)),(fL aC more).length<=aC.length+more.length
 |[],aC=>by show aC.length<=aC.length+0;lia
 |p::r,aC=>by
  have h1:=gt r (dy aC p.1 p.2)
  have h2:=cB aC p.1 p.2
  show(fL (dy aC p.1 p.2) r).length<=_
  rw[EZ];lia
structure M1 (X:Cx) (o:G8) (m:Fh) (Kx:Pos) (e:G8) (K5:Pos):Prop where
 base:HM o m X.env (eval o X.env)=eval o X.env
 few:((Ie K5 (Fb [e] X.env)).all (fun x=>!x.1)&&(Kj K5 [074]).all (fun x=>x.1.isSome)
  &&decide (([e]:EA G8).length+([]:EA Keyword).length+(if([]:EA Keyword).isEmpty then 0 else 1)<30))=true
 line:(Kx.endLine == K5.line)=true
 trees:Ie K5 (Fb [e] X.env)=[[000]]
def IsD (H:Hp) (a:EJ):Prop:=(∃aC,Rd H a (.dK aC))\/ ∃aC,Rd H a (.dT aC)
theorem Z9 {X:Cx}{pins:EA (EJ×Ih)}{σ:St}{H:Hp}{s:EM}{a:EJ}(I:aE X pins σ H s) (d:IsD H a):
  s.TypeIs (.ref a) "dict"/\(∀b,Fq a= .ref b-> ∃ob,s.heap.get? b=some ob/\ob.dict=none)/\(a == HN)=false:=by
 rcases d with⟨aC,e⟩|⟨aC,e⟩
 ·obtain⟨_,hd,vs,_,dd⟩:=ot I.HH e
  refine#[dd.typeIs,fun b q=>?_,hd];cases q;obtain⟨ob,_,_,h1,h2,_⟩:=dd;exact#[ob,h1,h2.2.1]
 ·obtain⟨_,hd,xs,_,dd⟩:=pF I.HH e
  refine#[dd.typeIs,fun b q=>?_,hd];cases q;obtain⟨ob,_,_,h1,h2,_⟩:=dd;exact#[ob,h1,h2.2.1]
def aaa (td ty:TE):TE:=fun σ H Q=>td σ H fun x H1=> ∃a,x= .ref a/\IsD H1 a/\ty σ H1 fun y H2=> ∃aC k v,H2 a=some (.dK aC)/\y=kV k/\bN aC k=some v/\Q v (aF H2 a (.dK (fD aC k)))
section
variable {X:Cx}{o e f:G8}{Kx K5:Pos}{td ty tx:TE}
theorem AX (ho:PE X o td) (he:PE X e ty) (m:M1 X o "pop" Kx e K5):PE X (.Call (.Attribute o "pop" Kx) [e] [] K5) (aaa td ty):=by
 rw[01];refine wpAny_Call_method m.base m.few m.line PySem.F.plainAttrs_dict Rn PySem.F.type_dict_pop (ca [085] fun u s1 ⟨x,H1,I1,rx,a,ex,d,q1⟩=>?_);rw[008];obtain⟨t1,t2,_⟩:=Z9 I1 d;refine#[t1,t2,?_];rw[m.trees];refine KJ rfl (NC (Ks (ca (he pins s1 σ H1 _ I1 q1) fun iv s2 ⟨y,H2,I2,ry,aC,k,v,ea,ey,l,q2⟩=>KL ?_)));subst ey;exact ae5 I2 ea ry l (.inl rfl) fun w' s3 I3 S9=>#[v,_,I3,S9,q2]
end
theorem tN:entryFor table "dict.update.loop"=some Builtin.«dict.update.loop»:=entryFor_of_tree (by kernel_rfl)
theorem iF:plainId "dict.update.loop"=true:=by decide+kernel
theorem yb:Kr "zip"=some (.type "zip"):=by decide+kernel
end L2
namespace TL
open PySem PySem.Builtin PySem.Builtin.Str PySem.StrLaws
abbrev tl (x:Fh):EA E1:=x.cps.toList
theorem aab {x y:Fh}(h:tl x=tl y):x=y:=Fh.ext' (IQ.toList_inj.mp h)
theorem pc (x y:Fh):tl (x++y)=tl x++tl y:=by
 show(x++y).cps.toList=_
 rw[Fh.cps_append,IQ.toList_append]
def RZ (S:EA E1):EA (EA E1)->EA E1
 |[]=>[]
 |[p]=>p
 |p::q::r=>p++(S++RZ S (q::r))
theorem TV (y:Fh): ∀parts:EA Fh,tl (Yu y parts)=RZ (tl y) (parts.map tl)
 |[]=>rfl
 |[_]=>rfl
 |x::z::r=>by
  show tl (x++y++Yu y (z::r))=tl x++(tl y++RZ (tl y) ((z::r).map tl))
  rw[pc,pc,TV y (z::r),F4]
theorem join_eq (y:Fh) (parts:EA Fh):Ud y parts=Yu y parts:=glued_eq_join y parts
end TL
namespace L2
open PySem PySem.Spec PyProof.Rows
theorem gT: ∀ {ys:EA Fh}{us:EA EH},aX (ys.map V.str) us->StrsAre us ys
 |[],_, .nil=> .nil
 |y::ys,_, .cons r t=>by
  obtain⟨k,rfl⟩:=r;exact .cons y k (gT t)
section
variable {X:Cx}
theorem Dj:MtR X "str.join" (fun x xs H Q=> ∃a p,∃ys:EA Fh,x= .str a/\xs=[.ref p]/\(cP X.K H p (ys.map V.str)\/rh X.K H p (ys.map V.str))/\
  (ys.map (·.length)).sum+ys.length*a.length<=16777216/\Q (.str (Ud a ys)) H):=by
 intro pins s σ H x xs v us Q I rx rs h;obtain⟨a,p,ys,rfl,rfl,hp,hz,h⟩:=h;rw[009];cases rs with
 |cons r1 rs=>
  cases rs;cases r1;rcases hp with hp|hp
  ·obtain⟨Hc,r,⟨o,n,ho,hc,_,hd⟩,_⟩:=I.list hp
   exact PyProof.Rows.join_list (items:=Hc.toArray) #[o,ho,hc,n,hd] (by rw[T4];exact gT r) hz fun t' k=>#[.str _,H,I.tok k,#[t',rfl],h]
  ·obtain⟨Hc,r,ht,_⟩:=I.tuple hp
   exact PyProof.Rows.join_tuple (items:=Hc.toArray) ht (by rw[T4];exact gT r) hz fun t' k=>#[.str _,H,I.tok k,#[t',rfl],h]
end
section
variable {X:Cx}{o e:G8}{to te:TE}
def tM1 (r:V->EA V->Hp->VK->Prop) (to te:TE):TE:=fun σ H Q=>to σ H fun x H1=>(∃a,x= .str a)/\te σ H1 fun y H2=>r x [y] H2 Q
theorem ae9 {id:String}{name:Fh}{Kx pos:Pos}{r:V->EA V->Hp->VK->Prop}(slot:Slot "str" name id) (ty:typeOf (.builtin id)=pure (.type "method_descriptor")) (rule:MtR X id r) (ho:PE X o to) (he:PE X e te)
  (hs:Fb [e] X.env=[[000]]:=by rfl) (Qj:HM o name X.env (eval o X.env)=eval o X.env:=by rfl) (Qk:(Kx.endLine == pos.line)=true:=by rfl):
  PE X (.Call (.Attribute o name Kx) [e] [] pos) (tM1 r to te):=by
 rw[01];refine PySem.Call_method1 Qj hs Qk (ca [085] fun v s1 ⟨x,H1,I1,r1,q1⟩=>?_);obtain⟨⟨a,rfl⟩,q1⟩:=q1;obtain⟨t,rfl⟩:=_root_.id r1;refine#["str",_,F.plainAttrs_str,slot,ty,Yp _ _ _,(fun _ e=>nomatch e),KJ rfl (NC (Ks ?_))]
 exact ca (he pins s1 σ H1 _ I1 q1) fun u s2 ⟨y,H2,I2,r2,q2⟩=>KL (rule pins s2 σ H2 _ [y] _ [u] Q I2 r1 (.cons r2 .nil) q2)
theorem DR {Kx pos:Pos}(ho:PE X o to) (he:PE X e te) (hs:Fb [e] X.env=[[000]]:=by rfl) (Qj:HM o "join" X.env (eval o X.env)=eval o X.env:=by rfl) (Qk:(Kx.endLine == pos.line)=true:=by rfl):
  PE X (.Call (.Attribute o "join" Kx) [e] [] pos) (tM1 (fun x xs H Q=> ∃a p,∃ys:EA Fh,x= .str a/\xs=[.ref p]/\(cP X.K H p (ys.map V.str)\/rh X.K H p (ys.map V.str))/\
   (ys.map (·.length)).sum+ys.length*a.length<=16777216/\Q (.str (Ud a ys)) H) to te):=
 ae9 F.slot_str_join F.type_str_join Dj ho he hs Qj Qk
end
abbrev E0:XK:=fun _ _ _=>False
theorem aY {X:Cx} :dh wX X E0:=fun _ _ _ _ _ _ _ h=>h.elim
section
variable {P:Fz}{w:Ga}{K:EF}{mg:Fh->ET EH}{base:Gn}
theorem oJ.ok {x Gz:Fh}{st:Stmt}{f:EJ}{fd:FL}{N ps:EA Fh}{k:E1}{sp:Sp}(F:oJ K x Gz st f fd) (S:az N ps (af st)) (len: ∀vs H Q E,sp vs H Q E->vs.length=ps.length)
  (Jc: ∀(Gp:EH) (A:Gk) (outer:EA Env) (s:EM) (H:Hp) (vs:EA V) (Q:VK) (E:XK),bW k (A.deeper [011])->sp vs H Q E->
   Bd (fg wX P w K mg base N Gz (af st) f Gp A outer s H E).nox (a7 st) { nx:=fun _ H'=>Q .HZ H',rt:=Q } (start N vs) H):bS P w K mg base wX (k+1) f fd ps sp:=by
 obtain⟨oc,od,kV,doc,pm,an,Gp,ct,VV,rfl,lk,RG⟩:=F.ex;refine Xp lk RG S len fun A outer s H vs Q E hr SR=>?_;obtain⟨t,h,q⟩:=Jc Gp A outer s H vs Q E hr SR;exact#[t,h.nox,q]
end
theorem dj {A:Gk}{k:E1}(hr:bW k A):A.units+1<OX:=FP (Ux (by decide:1<=64) _) hr.units
section
variable {X:Cx}
theorem pv (i:E1) {x:Fh}{pos:Pos}(hN:X.N[i]?=some x:=by rfl) (hv:oH X.env.scope x:=by first|exact Gx rfl|exact Or.inr (Gx rfl)|exact Or.inr (Or.inr rfl)) (hd:(x == [003])=false:=by decide)
  (RG:(x == ("__classdict__":Fh))=false:=by decide):PE X (.Name x pos) (k8 i):=dU hN hv hd RG
theorem xE:gN X (.builtin "len") (fun xs H Q=> ∃a aC,xs=[V.ref a]/\H a=some (.dK aC)/\Q (.int aC.length) H):=by
 rw[013];obtain⟨a,aC,rfl,ha,q⟩:=h;obtain⟨u,rfl,ru⟩:=mQ r;cases ru;exact ae6 I (.inl ha) fun t s' I'=>#[.int aC.length,H,I',#[t,rfl],q]
end
theorem bK {A B:Prop}(h:B):if false=true then A else B:=by
 rw[EI EE];exact h
theorem cf {A B:Prop}(h:A):if true=true then A else B:=by
 rw[EL rfl];exact h
def a9 (H H':Hp):Prop:= ∀b o,H b=some o->H' b=some o
theorem a9.refl (H:Hp):a9 H H:=fun _ _ h=>h
theorem a9.trans {H H1 H2:Hp}(a:a9 H H1) (b:a9 H1 H2):a9 H H2:=fun c o h=>b c o (a c o h)
theorem a9.seq {K:EF}{H H':Hp}{a:EJ}{xs:EA V}(e:a9 H H') (h:cP K H a xs):cP K H' a xs:=by
 rcases h with(h|⟨o,h⟩)|h
 ·exact .inl (.inl (e _ _ h))
 ·exact .inl (.inr #[o,e _ _ h])
 ·exact .inr h
end L2
namespace OS
open PySem
structure ye (l:EA EJ) (ch:EA EJ) (a:EJ) (oe:Ih) (h h':Gn):Prop where
 keep: ∀b o,b∉l->b∉ch->h.get? b=some o->h'.get? b=some o
 slot: ∀b o,b∈l->b∉ch->h.get? b=some o-> ∃sl,h'.get? b=some { o with slots:=sl }
 there: ∀b o,h.get? b=some o-> ∃u,h'.get? b=some u
 fly: ∃vs T oT ts,h'.get? a=some #[oe.cls,oe.dict, .fields vs,oe.slots]/\vs[1]?=some (.ref T)/\h.objs.size<=T/\T≠a/\h'.get? T=some oT/\oT.data= .fields ts/\ts[3]?=some .none
theorem qY {o:Ih}{vs:IQ EH}(hd:o.data= .fields vs) (f:IQ EH->IQ EH):o.mapFields f=#[o.cls,o.dict, .fields (f vs),o.slots]:=by
 obtain⟨c,d,dt,sl⟩:=o;cases hd
 rfl
section
variable {E:EH->EM->Prop}{base:Gn}{a:EJ}{Q:Mo->EM->Prop}
theorem mv {head:EH}{WJ:FR}(Rx:A.frames=some (env::outer)) (hl:s.heap.FunFrames base (env::outer)) (hf:env.frame=some L)
  (he:s.heap.get? a=some oe) (hd:oe.data= .fields vs) (hsz:1<vs.size)
  (h: ∀h',ye ((env::outer).filterMap (·.frame)) [a] a oe s.heap h'->Q () { s with heap:=h' }):
  Fl M A (frameOf env>>=fun x=>entryPlaceOf L WJ>>=fun pl=>QX head x .none (Nf L) .none pl>>=fun b=>setField (.ref a) 1 b) (fun _ s'=>Fl M A (QW (.ref a) none) Q E s') E s:=by
 have na:a∉(env::outer).filterMap (·.frame):=fun hm=>by
  obtain⟨_,o,ho,hn⟩:=hl.mem hm;rw[he] at ho;cases ho;exact hn vs hd
 refine E3 (wpAny_frameOf_fun Rx hl hf fun h1 S=>E3 (wpAny_entryPlaceOf fun pl Ma=>?_));unfold QX newFields;refine E3 (wpAny_newObj_type ?_ (Ma.sizeOk5 _ _ _ _ _));have e1:h1.get? a=some oe:=(S.2.1 a na).trans he;generalize ht:({ cls:= .type "traceback",dict:=none,data:= .fields ([head, .ref L, .none,Nf L, .none]++(if pl.isEmpty then Iz 6 Hn else pl)).toArray } :Ih)=tb
 have td:tb.data= .fields ([head, .ref L, .none,Nf L, .none]++(if pl.isEmpty then Iz 6 Hn else pl)).toArray:=by rw[<-ht]
 have tf:tb.isFreed=false:=Ld td
 have e2:(h1.push tb).get? a=some oe:=E2 tb e1;refine SJ e2 hd hsz ?_
 have ne:h1.objs.size≠a:=KU (Fn e1)
 have hd3:=OU hd (·.setIfInBounds 1 (Fq h1.objs.size))
 have e3:=IU (HD (·.setIfInBounds 1 (Fq h1.objs.size))) e2 (Ld hd3)
 have t3:((h1.push tb).update a (HD (·.setIfInBounds 1 (Fq h1.objs.size)))).get? h1.objs.size=some tb:=
  (GA (h1.push tb) _ (HS ne)).trans (Gy h1 tf)
 unfold QW;refine E3 (wpAny_field e3 hd3 (x:= .ref h1.objs.size) (by simp [hsz]) ?_);rw[EL (show(Fq h1.objs.size !=Hn)=true from by simp)];have sz3:3<([head, .ref L, .none,Nf L, .none]++(if pl.isEmpty then Iz 6 Hn else pl)).toArray.size:=by
  simp only[F8,Fc,EZ,JK];lia
 refine SJ t3 td sz3 (h _ ?_);have other: ∀b,b≠a->b≠h1.objs.size-> ∀f,(((h1.push tb).update a (HD (·.setIfInBounds 1 (Fq h1.objs.size)))).update h1.objs.size f).get? b=(h1.push tb).get? b:=fun b x y f=>by
  rw[GA _ _ (HS y),GA _ _ (HS x)]
 have old: ∀b o,s.heap.get? b=some o->b≠h1.objs.size:=fun b o q=>by
  rw[S.1];exact Gu (Fn q)
 have d4:=OU td (·.setIfInBounds 3 ((none:ET EJ).elim Hn fun f=>Nf f))
 have t4:=IU (HD (·.setIfInBounds 3 ((none:ET EJ).elim Hn fun f=>Nf f))) t3 (Ld d4)
 have a4:(((h1.push tb).update a (HD (·.setIfInBounds 1 (Fq h1.objs.size)))).update h1.objs.size (HD (·.setIfInBounds 3 ((none:ET EJ).elim Hn fun f=>Nf f)))).get? a=some #[oe.cls,oe.dict, .fields (vs.setIfInBounds 1 (Fq h1.objs.size)),oe.slots]:=by
  rw[GA _ _ ne,e3,qY hd]
 refine#[fun b o nl nc q=>?_,fun b o hb nc q=>?_,fun b o q=>?_,?_]
 ·rw[other b (fun z=>nc (by rw[z];exact EO)) (old b o q)]
  exact E2 tb ((S.2.1 b nl).trans q)
 ·obtain⟨sl,z⟩:=S.2.2 b o q
  exact#[sl,by rw[other b (fun y=>nc (by rw[y];exact EO)) (old b o q)];exact E2 tb z]
 ·by_cases ba:b=a
  ·rw[ba];exact#[_,a4]
  ·obtain⟨sl,z⟩:=S.2.2 b o q
   exact#[_,by rw[other b ba (old b o q)];exact E2 tb z]
 ·refine#[_,h1.objs.size,_,_,a4,by simp [hsz],JG S.1.symm,ne,t4,d4,?_]
  simp
theorem zn (Rx:A.frames=some (env::outer)) (hl:s.heap.FunFrames base (env::outer)) (hf:env.frame=some L)
  (he:s.heap.get? a=some oe) (hd:oe.data= .fields vs) (h1:vs[1]?=some .none)
  (h: ∀h',ye ((env::outer).filterMap (·.frame)) [a] a oe s.heap h'->Q () { s with heap:=h' }):Fl M A (leaving env (.ref a)) Q E s:=by
 unfold leaving Pd;simp only[hf];refine E3 (E3 (wpAny_field he hd h1 ?_));rw[EI [01]];exact mv Rx hl hf he hd (JT.mp h1).1 h
theorem wz (Rx:A.frames=some (env::outer)) (hl:s.heap.FunFrames base (env::outer)) (hf:env.frame=some L)
  (he:s.heap.get? a=some oe) (hd:oe.data= .fields vs) (h1:vs[1]?=some (.ref T)) (ne:T≠a) (hT:s.heap.get? T=some oT) (hdT:oT.data= .fields ts) (h3:ts[3]?=some .none)
  (h: ∀h',ye ((env::outer).filterMap (·.frame)) [a,T] a oe s.heap h'->Q () { s with heap:=h' }):Fl M A (Pd (.ref a) env) (fun _ s'=>Fl M A (QW (.ref a) none) Q E s') E s:=by
 unfold Pd;simp only[hf];refine E3 (wpAny_field he hd h1 ?_);rw[EL (show(Fq T !=Hn)=true from by simp)];refine E3 (wpAny_field hT hdT h3 ?_);rw[EI (show¬((Hn == Nf L)=true) from by simp [Nf])];refine E3 (SJ hT hdT (JT.mp h3).1 ?_);have other: ∀b,b≠T->(s.heap.update T (HD (·.setIfInBounds 3 Hn))).get? b=s.heap.get? b:=fun b hb=>GA _ _ (HS hb)
 have nT:T∉(env::outer).filterMap (·.frame):=fun hm=>by
  obtain⟨_,o,ho,hn⟩:=hl.mem hm;rw[hT] at ho;cases ho;exact hn ts hdT
 have sT:=IU (HD (·.setIfInBounds 3 Hn)) hT (Ld (OU hdT _));refine mv (s:= { s with heap:=s.heap.update T (HD (·.setIfInBounds 3 Hn)) }) Rx (hl.of_keeps fun b o hb hn=>#[o,(other b fun q=>by rw[q,hT] at hb;cases hb;exact hn ts hdT).trans hb,rfl]) hf ((other a (HS ne)).trans he) hd (JT.mp h1).1 fun h' X=>h h' ?_
 have size:(s.heap.update T (HD (·.setIfInBounds 3 Hn))).objs.size=s.heap.objs.size:=Gn.size_after_update ..;refine#[fun b o nl nc q=>X.keep b o nl (fun z=>nc (by rcases EW.mp z with z|z;rw[z];exact EO;cases z)) ((other b fun z=>nc (by rw[z];simp)).trans q),
  fun b o hb nc q=>X.slot b o hb (fun z=>nc (by rcases EW.mp z with z|z;rw[z];exact EO;cases z)) ((other b fun z=>nc (by rw[z];simp)).trans q),fun b o q=>?_,?_]
 ·by_cases bT:b=T
  ·rw[bT];exact X.there T _ sT
  ·exact X.there b o ((other b bT).trans q)
 ·obtain⟨ws,T',oT',ts',x1,x2,x3,x4⟩:=X.fly
  exact#[ws,T',oT',ts',x1,x2,by rw[<-size];exact x3,x4]
theorem Cs (Rx:A.frames=some (env::outer)) (hl:s.heap.FunFrames base (env::outer)) (hf:env.frame=some L)
  (he:s.heap.get? a=some oe) (hd:oe.data= .fields vs) (h1:vs[1]?=some (.ref T)) (ne:T≠a) (hT:s.heap.get? T=some oT) (hdT:oT.data= .fields ts) (h3:ts[3]?=some .none)
  (h: ∀h',ye ((env::outer).filterMap (·.frame)) [a,T] a oe s.heap h'->Q () { s with heap:=h' }):Fl M A (leaving env (.ref a)) Q E s:=by
 unfold leaving;exact E3 (wz Rx hl hf he hd h1 ne hT hdT h3 h)
end
end OS
namespace OS
open PySem
section
variable {prog:Fz}{w:Ga}{A:Gk}{E:EH->EM->Prop}{h:Gn}{g:IQ Qu}{d:Drawn}{t:E1}{os:OsState}
variable {nm q:Fh}{C N:EJ}{bs bm bmB:EA EH}{R7:FR}{sn:EA Fh}{sub:EA EH}{ab:FR}{col:ET FR}{dd:ET EJ}{k0 k1 k2 k3 k5:ET EH}{B JD Nw:String}
def LA (h:Gn) (l:EA EH) (name:Fh) (y:ET EH):Prop:= ∀(M:Model) (A:Gk) (E:EH->EM->Prop) (g:IQ Qu) (d:Drawn) (t:E1) (os:OsState) (Q:ET EH->EM->Prop),Q y #[h,g,d,t,os]->Fl M A (lookupAlong l name) Q E #[h,g,d,t,os]
theorem LA.of (m:mroOf (.type B)=pure l) (k:Hg (.type B) name=pure y):LA h l name y:=by
 rw[typeLookup_eq,m] at k;intro M A E g d t os Q q;rw[show lookupAlong l name=pure y from k];exact Fx q
theorem LA.own {a:EJ}{mA:Fh->ET EH}(o:h.get? a=some #[c0,da, .cls cd,sl]) (n:h.Ns cd.ns mA) (z:mA name=none) (k:LA h l name y):LA h (.ref a::l) name y:=by
 intro M A E g d t os Q q;rw[lookupAlong_cons];refine E3 (wpAny_classOwn_cls o n ?_);rw[z];exact k M A E g d t os Q q
theorem gX {mN:Fh->ET EH}{Q:ET EH->EM->Prop}(hC:h.get? C=some [027]) (n:h.Ns N mN) (k:mN name=none->LA h bm name y)
  (q:Q (match mN name with|some v=>some v|none=>y) #[h,g,d,t,os]):Fl M A (Hg (.ref C) name) Q E #[h,g,d,t,os]:=by
 rw[typeLookup_eq];refine E3 (wpAny_mroOf_exc hC ?_);rw[lookupAlong_cons];refine E3 (wpAny_classOwn_exc hC n ?_);cases z:mN name with
 |some v=>rw[z] at q;exact Fx q
 |none=>rw[z] at q;exact k z M A E g d t os Q q
abbrev dg (C T:EJ):Ih:= { cls:= .ref C,data:= .fields [.ref T, .none, .none, .none, .bool false, .none].toArray }
abbrev eJ (l:EA EH):Ih:= { cls:= .type "tuple",data:= .seq l.toArray }
def wF (x:EJ) (Q:EH->EM->Prop) (E:EH->EM->Prop) (r:Result) (s':EM):Prop:=match r with
 | .ok (.ret v)=>v= .none/\Q (.ref x) s'
 | .ok _=>False
 | .error e=>E e s'
structure Up (bm l:EA EH) (B:String):Prop where
 b:l.contains (.type B)=true
 a:l.contains (.type "AttributeError")=false
 n:l.contains (.type "NameError")=false
theorem Ak (F:Mv B JD Nw bmB) (U:Up bm (.ref C::bm) B) {Q:Mo->EM->Prop}(hC:h.get? C=some [027]) (z:Q () #[h,g,d,t,os]):Fl M A (IY JD #[.ref C::rest,[]]) Q E #[h,g,d,t,os]:=by
 have u:=U.b
 have st:=F.noStar;simp only[F.newRow,F.newSplit,F.newKind,IY]
 repeat (first|(refine wpAny_isSubtype_exc hC ?_;rw[u])|refine FW hC ?_|refine wpAny_madeBy_exc hC ?_|refine wpAny_staticBase_exc hC ?_|simp only[bne_self_eq_false,Ii,L5]|wp_step)
 exact z
theorem BY (F:Mv B JD Nw bmB) (U:Up bm (.ref C::bm) B) {R:Result->EM->Prop}(hC:h.get? C=some [027]) (z:R (.ok (.ret (.ref (h.objs.size+1)))) #[(h.push (eJ rest)).push (dg C h.objs.size),g,d,t,os]) (TX:rest.length<=FE):
  KP (model prog w) A (.builtin JD #[.ref C::rest,[]]) R #[h,g,d,t,os]:=by
 have alI:=F.ends
 have u1:=U.b
 have u2:=U.a
 have u3:=U.n;refine codeAny_builtinAt F.entry ?_;unfold Builtin.«BaseException.__new__»;refine wpAt_bind ?_
 show wpAt _ _ _ (stack>>=_) _ _ _
 refine wpAt_bind (wpAt_stack fun _ _=>wpAt_of_wpAny ?_)
 wp_walk
 refine wpAt_of_wpAny ?_;rw[F.owner]
 repeat (first|(with_reducible refine wpAny_isSubtype_exc hC ?_;first|rw[u1]|rw[u2]|rw[u3])|with_reducible refine wpAny_madeHere_exc F.canon hC ?_|with_reducible refine FW hC ?_|wp_step)
 show R _ _
 rw[Hf];exact z
theorem xR (F:Mv B JD Nw bmB) (U:Up bm (.ref C::bm) B) {Q:Mo->EM->Prop}
  (hC:h.get? C=some [027]) (he:h.get? e=some oe) (ZI:oe.cls= .ref C) (z:Q () #[h,g,d,t,os]):Fl M A (IY Nw #[.ref e::rest,[]]) Q E #[h,g,d,t,os]:=by
 have u:=U.b
 have st:=F.noStar;simp only[F.initRow,F.initSplit,F.initKind,IY]
 repeat (first|(with_reducible refine wpAny_isSubtype_exc hC ?_;rw[u])|(with_reducible refine FW he ?_;rw[ZI])|with_reducible refine FW hC ?_|wp_step)
 refine wpAny_onRaise ?_;rw[show∀(a b:String) (n:E1),Bind.check #[.positional,"*",B, .self,[#["args", .varPos,false]]] a b n (EA.map (fun x=>x.1) ({ pos:=Fq e::rest } :Args).kw)=pure () from fun _ _ _=>check_star_args _ _ _ _ _ _];exact Fx z
theorem oY (F:Mv B JD Nw bmB) (U:Up bm (.ref C::bm) B) {mN:Fh->ET EH}{Q:Fin->EM->Prop}
  (hC:h.get? C=some [027]) (hn:h.Ns N mN) (WK:mN "__init__"=some (.ref fI)) (hI:h.get? fI=some oI) (hIc:oI.cls= .type "function")
  (hq:KP (model prog w) A (.call (.ref fI) #[.ref (h.objs.size+1)::rest,[]]) (wF (h.objs.size+1) (fun v s'=>Q (.done (.ret v)) s') E) #[(h.push (eJ rest)).push (dg C h.objs.size),g,d,t,os])
  (TX:rest.length<=FE):
  Fl (model prog w) A (Builtin.«type.__call__» #[.ref C::rest,[]]) Q E #[h,g,d,t,os]:=by
 repeat (first|with_reducible refine FW hC ?_|with_reducible refine wpAny_madeBy_exc hC ?_|wp_step)
 refine codeAny_call_builtin_code (Uz _ F.quiet) (Ak F U hC ?_);refine BY F U hC ?_ TX;show Fl _ _ _ _ _ _;have c1:((h.push (eJ rest)).push (dg C h.objs.size)).get? C=some [027]:=E2 _ (E2 _ hC);have n1:((h.push (eJ rest)).push (dg C h.objs.size)).Ns N mN:=
  let ⟨o,es,ep,e,r⟩:=hn;#[o,es,ep,E2 _ (E2 _ e),r]
 have i1:((h.push (eJ rest)).push (dg C h.objs.size)).get? fI=some oI:=E2 _ (E2 _ hI)
 have e1:((h.push (eJ rest)).push (dg C h.objs.size)).get? (h.objs.size+1)=some (dg C h.objs.size):=by heap_get
 have hcC:(Fq C::bm).contains (.ref C)=true:=by simp
 unfold Yq
 repeat (first|with_reducible refine FW e1 ?_|(with_reducible refine wpAny_isSubtype_exc c1 ?_;rw[hcC])|wp_step)
 show Fl _ _ (Hg (.ref C) _) _ _ _
 refine gX (y:=none) c1 n1 (fun z=>by rw[WK] at z;cases z) ?_;rw[WK];refine Nc ?_;unfold bindSpecial;refine E3 (E3 ?_);have hT:(⟨(h.push (eJ rest)).push (dg C h.objs.size),g,d,t,os⟩:EM).TypeIs (.ref fI) "function":=#[_,i1,hIc];refine U4 hT (Fx (E3 (P2 (Mu hq fun r s' z=>?_))));rcases r with e|(v|_|_|_)
 ·exact z
 ·exact z.elim
 ·exact z.elim
 ·exact z.elim
 ·obtain⟨rfl,z⟩:=z
  exact Fx (Fx z)
theorem zM (F:Mv B JD Nw bmB) (U:Up bm (.ref C::bm) B) {mN:Fh->ET EH}{R:Result->EM->Prop}
  (hC:h.get? C=some [027]) (hn:h.Ns N mN) (WK:mN "__init__"=some (.ref fI)) (hI:h.get? fI=some oI) (hIc:oI.cls= .type "function")
  (hq:KP (model prog w) (A.under (.builtin "type.__call__" #[.ref C::rest,[]])) (.call (.ref fI) #[.ref (h.objs.size+1)::rest,[]]) (wF (h.objs.size+1) (fun v s'=>R (.ok (.ret v)) s') (fun e s'=>R (.error e) s')) #[(h.push (eJ rest)).push (dg C h.objs.size),g,d,t,os])
  (TX:rest.length<=FE):
  KP (model prog w) A (.call (.ref C) #[rest,[]]) R #[h,g,d,t,os]:=by
 have f1:=tc_lookup
 have f2:=tc_bind (.ref C)
 have hT:(⟨h,g,d,t,os⟩:EM).TypeIs (.ref C) "type":=#[_,hC,rfl];refine codeAny_of_tree ?_
 show Fl _ _ (callAny (.ref C) _) _ _ _
 repeat (any_goals (first|assumption|with_reducible refine FW hC ?_|wp_step))
 refine#[rfl,?_];refine codeAny_call_builtin_at (Uz _ [00]) entry_typeCall (wpAny_check_type_call_sub hC (oY F U hC hn WK hI hIc ?_ TX));exact hq
theorem yo (F:Mv B JD Nw bmB) (U:Up bm (.ref C::bm) B) {R:Result->EM->Prop}
  (hC:h.get? C=some [027]) (he:h.get? e=some (dg C T))
  (hq:R (.ok (.ret .none)) #[(h.push (eJ [])).update e (HD (·.setIfInBounds 0 (.ref h.objs.size))),g,d,t,os]):
  KP (model prog w) A (.call (.builtin Nw) #[[.ref e],[]]) R #[h,g,d,t,os]:=by
 refine OT F.init.plain F.initEntry (xR F U hC he rfl ?_);unfold Builtin.«BaseException.__init__»
 wp_walk
 exact hq
end
theorem afa:Hg [025] "__getattribute__"=pure (some (.builtin "BaseException.__getattribute__")):=by rw[JV,Iv];kernel_rfl
theorem afb:Hg [025] "__getattr__"=pure none:=by rw[JV,Iv];kernel_rfl
theorem xh:Slot "Exception" "__getattribute__" "BaseException.__getattribute__":=
 .of (owner:="BaseException") (n:="__getattribute__") (by rw[JV,Iv];kernel_rfl) [00] [00] [00]
  (by first|exact .inl [00]|exact .inr [00]) (by rw[isSubtype_type];kernel_rfl)
section
open Builtin Builtin.ObjectAttr
variable {prog:Fz}{w:Ga}{A:Gk}{E:EH->EM->Prop}{h:Gn}{g:IQ Qu}{d:Drawn}{t:E1}{os:OsState}
variable {nm q:Fh}{C N x:EJ}{bs bm:EA EH}{sn:EA Fh}{sub:EA EH}{ab:FR}{col:ET FR}{dd:ET EJ}{k0 k1 k2 k3 k5:ET EH}{JD:String}
 {mN mA:Fh->ET EH}{name:Fh}{v:EH}
theorem yW {Q:Vi->EM->Prop}
  (hC:h.get? C=some (HF nm q C N bs bm true sn sub ab col dd k0 k1 k2 k3 k5 JD)) (hn:h.Ns N mN) (hna:mN name=none)
  (hB:LA h bm name none) (I:h.Inst x C mA) (hv:mA name=some v) (hq:Q (.done (.ret v)) #[h,g,d,t,os]):
  Fl (model prog w) A (Builtin.«object.__getattribute__» #[[.ref x, .str name tk],[]]) Q E #[h,g,d,t,os]:=by
 obtain⟨o,hx,hc,hnc,hd⟩:=I;rcases hd with⟨_,hmA⟩|⟨dx,Ur,hne,hns⟩
 ·rw[hmA name] at hv;cases hv
 unfold Builtin.«object.__getattribute__»
 repeat (first|(with_reducible refine FW hx ?_;rw[hc])|(with_reducible refine gX hC hn (fun _=>hB) ?_;rw[hna])|wp_step)
 split
 ·rename_i c RG
  exact E7 RG (hnc c)
 unfold instanceDict
 repeat (first|(with_reducible refine FW hx ?_;rw[hc])|with_reducible refine FW hC ?_|wp_step)
 rw[Ur]
 repeat (first|(with_reducible refine wpAny_nsGet hns.ns ?_;rw[hv])|wp_step)
 exact hq
theorem yU (hcB:(Fq C::bm).contains (.type "BaseException")=true) {Q:Mo->EM->Prop}(hC:h.get? C=some (HF nm q C N bs bm true sn sub ab col dd k0 k1 k2 k3 k5 JD))
  (hx:h.get? x=some o) (hc:o.cls= .ref C) (hq:Q () #[h,g,d,t,os]):Fl M A (IY "BaseException.__getattribute__" #[[.ref x,h9],[]]) Q E #[h,g,d,t,os]:=by
 have hk:builtinKind "BaseException.__getattribute__"=some .slot:=by decide+kernel
 have aac:splitId "BaseException.__getattribute__"=some ("BaseException","__getattribute__"):=by decide+kernel
 have ha:=PySem.F.args_bexc_ga (.ref x) h9;simp only[IY,hk,aac];refine E3 ?_;unfold Yq
 repeat (first|(with_reducible refine FW hx ?_;rw[hc])|(with_reducible refine wpAny_isSubtype_exc hC ?_;rw[hcB])|wp_step)
 exact hq
theorem Dt (hcB:(Fq C::bm).contains (.type "BaseException")=true) (l1:LA h bm "__getattribute__" (some (.builtin "BaseException.__getattribute__"))) (l2:LA h bm "__getattr__" none) {Q:EH->EM->Prop}
  (hC:h.get? C=some (HF nm q C N bs bm true sn sub ab col dd k0 k1 k2 k3 k5 JD)) (hn:h.Ns N mN) (hng:mN "__getattribute__"=none) (hnh:mN "__getattr__"=none) (hna:mN name=none)
  (hB:LA h bm name none) (I:h.Inst x C mA) (hv:mA name=some v) (hh:handedOut v=pure v) (hq:Q v #[h,g,d,t+1,os]):
  Fl (model prog w) A (Sg (.ref x) name expr) Q E #[h,g,d,t,os]:=by
 obtain⟨o,hx,hc,_⟩:=id I;have f3:=xh.bind (.ref x);have hx0:(expr&&onTheHeap (Li "BaseException.__getattribute__"))=false:=by cases expr<;>rfl
 have hx2:(Li "BaseException.__getattribute__" == Li "object.__getattribute__")=false:=by decide+kernel
 have hx1:(onTheHeap (Fq C)&&Li "BaseException.__getattribute__" == Li "object.__getattribute__")=false:=by rw[hx2];rfl
 have hx3:onTheHeap (Fq C)=true:=rfl;unfold Sg getAttrBy
 repeat (any_goals (first|assumption|(with_reducible refine FW hx ?_;rw[hc])|(with_reducible refine gX hC hn (fun _=>l1) ?_;rw[hng])|(with_reducible refine gX hC hn (fun _=>l2) ?_;rw[hnh])|wp_step))
 exact OT xh.plain PySem.F.entry_bexc_ga (yU hcB hC hx hc (yW hC hn hna hB I hv (by show Fl _ _ (handedOut v) _ _ _;rw[hh];exact Fx hq)))
end
end OS
namespace OS
open PySem
section
open Builtin Builtin.ObjectAttr
variable {prog:Fz}{w:Ga}{A:Gk}{E:EH->EM->Prop}{h:Gn}{g:IQ Qu}{d:Drawn}{t:E1}{os:OsState}
variable {nm q:Fh}{C N x R:EJ}{bs bm:EA EH}{sn:EA Fh}{sub:EA EH}{ab:FR}{col:ET FR}{dd:ET EJ}{k0 k1 k2 k3 k5:ET EH}{JD:String}
 {mN mA:Fh->ET EH}{name:Fh}{v:EH}{o:Ih}{vs:IQ EH}{sa owner B:String}
theorem D0 {Q:Mo->EM->Prop}(SF:LP B bm sa owner) (hC:h.get? C=some [082]) (hx:h.get? x=some o) (hc:o.cls= .ref C) (z:Q () #[h,g,d,t,os]):
  Fl M A (IY sa #[[.ref x,y,v],[]]) Q E #[h,g,d,t,os]:=by
 have u:(Fq C:: .ref R::bm).contains (.type owner)=true:=by rw[FY,FY,SF.hasOwner,Pk,Pk]
 have ha:=SF.args (.ref x) y v;simp only[SF.split,SF.kind,IY];refine E3 ?_;unfold Yq
 repeat (first|(with_reducible refine wpAny_isSubtype_exc hC ?_;rw[u])|(with_reducible refine FW hx ?_;rw[hc])|wp_step)
 cases hs:Manifest.signature? sa with
 |none=>exact Fx z
 |some r=>
  simp only[argsOk,hs] at ha;show Fl M A (WX sa r #[[.ref x,y,v],[]]) Q E _;rw[show WX sa r #[[.ref x,y,v],[]]=pure () from ha];exact Fx z
theorem CA {Q:Vi->EM->Prop}(SF:LP B bm sa owner) (hC:h.get? C=some [082]) (hn:h.Ns N mN) (hna:mN name=none)
  (hB:LA h (.ref R::bm) name none) (hx:h.get? x=some o) (hc:o.cls= .ref C) (hdn:o.dict=none) (hfd:o.data= .fields vs)
  (hq: ∀h' Ta,(∀b ob,b≠x->h.get? b=some ob->h'.get? b=some ob)->h'.get? x=some #[o.cls,some h.objs.size,o.data,o.slots]->h'.Ns1 h.objs.size (fun y=>if y=name then some v else none)->
   Q (.done (.ret .none)) #[h',g,d,Ta,os]):
  Fl (model prog w) A (Builtin.«object.__setattr__» #[[.ref x, .str name tk,v],[]]) Q E #[h,g,d,t,os]:=by
 have VD:=SF.passes (.ref x);unfold Builtin.«object.__setattr__»
 repeat (first|rw[refuse_eq]|(rw[refuseLoop_ref,refuseLoop_ref,VD])|(with_reducible refine FW hx ?_;rw[hc])|with_reducible refine wpAny_mroOf_exc hC ?_|(with_reducible refine gX hC hn (fun _=>hB) ?_;rw[hna])|wp_step)
 rw[hdn,EI (by simp [typeHasDict])];split
 ·rename_i z
  cases z
 split
 ·rename_i c z
  rw[hfd] at z;cases z
 ·have x1:(h.push { cls:= .type "dict",data:= .dict [].toArray }).get? x=some o:=E2 _ hx
  have ne:x≠h.objs.size:=Gu (Fn hx);refine E3 (wpAny_alloc' ?_);refine E3 (wpAny_update' x1 ?_);refine Fx ?_
  have hgd:((h.push { cls:= .type "dict",data:= .dict [].toArray }).update x fun o=> { cls:=o.cls,dict:=some h.objs.size,data:=o.data,slots:=o.slots }).get? h.objs.size
    =some { cls:= .type "dict",data:= .dict [].toArray } :=
   (T5 _ _ _ _ ne.symm).trans (Gn.get?_push_at rfl rfl)
  have CU:((h.push { cls:= .type "dict",data:= .dict [].toArray }).update x fun o=> { cls:=o.cls,dict:=some h.objs.size,data:=o.data,slots:=o.slots }).Ns h.objs.size (fun _=>none):=
   #[_, [].toArray,_,hgd,rfl,fun e he=>E7 he [024],fun _=>rfl]
  show Fl _ _ (storeInDict h.objs.size (.str name tk) name v) _ _ _
  unfold storeInDict newKeyGuard;refine E3 (Fx (E3 (U3 (Og CU) fun h' Xj hs=>?_)));obtain⟨oD,esD,epD,hoD,hdD,hcD⟩:=Xj.count (Yv name v Within.nil);refine E3 (QT hoD (by rw[hdD];exact QU (Fj hcD (by rw[EZ,JK,Ht];lia))) ?_)
  wp_walk
  refine hq h' _ (fun b ob hb e=>?_) ?_ Xj
  ·exact(hs.2 b (Gu (Fn e))).trans ((T5 _ _ _ _ hb).trans (E2 _ e))
  ·refine(hs.2 x ne).trans (IU _ x1 ?_)
   have Rx:=(Gn.get?_some_iff.mp hx).2;obtain⟨oc,od,odt,VV⟩:=o;cases odt<;>first|rfl|exact Rx
theorem AA {Q:Vi->EM->Prop}(SF:LP B bm sa owner) (hC:h.get? C=some [082]) (hn:h.Ns N mN) (hna:mN name=none)
  (hB:LA h (.ref R::bm) name none) (hx:h.get? x=some o) (hc:o.cls= .ref C) (Ur:o.dict=some dx) (hd:h.Ns1 dx mA) (hw:Within mA ns) (hsz:ns.length<=1000)
  (hq: ∀h' Ta,(∀b ob,b≠dx->h.get? b=some ob->h'.get? b=some ob)->h'.Ns1 dx (fun y=>if y=name then some v else mA y)->Q (.done (.ret .none)) #[h',g,d,Ta,os]):
  Fl (model prog w) A (Builtin.«object.__setattr__» #[[.ref x, .str name tk,v],[]]) Q E #[h,g,d,t,os]:=by
 have VD:=SF.passes (.ref x);unfold Builtin.«object.__setattr__»
 repeat (first|rw[refuse_eq]|(rw[refuseLoop_ref,refuseLoop_ref,VD])|(with_reducible refine FW hx ?_;rw[hc])|with_reducible refine wpAny_mroOf_exc hC ?_|(with_reducible refine gX hC hn (fun _=>hB) ?_;rw[hna])|wp_step)
 rw[Ur];refine Fx ?_;show Fl _ _ (storeInDict dx (.str name tk) name v) _ _ _;unfold storeInDict newKeyGuard;refine E3 (Fx (E3 (U3 hd fun h' n' hs=>?_)));obtain⟨o1,es1,ep1,h1,d1,c1⟩:=n'.count (Yv name v hw);refine E3 (QT h1 (by rw[d1];exact QU (Fj c1 (by rw[EZ,Ht];lia))) ?_)
 wp_walk
 exact hq h' _ (fun b ob hb e=>(hs.2 b hb).trans e) n'
theorem vJ {Q:Mo->EM->Prop}(SF:LP B bm sa owner) (hC:h.get? C=some [082]) (hn:h.Ns N mN) (hns:mN "__setattr__"=none) (l:LA h (.ref R::bm) "__setattr__" (some (.builtin sa))) (hx:h.get? x=some o) (hc:o.cls= .ref C)
  (hq: ∀tk t,Fl (model prog w) A.in1 (Builtin.«object.__setattr__» #[[.ref x, .str name tk,v],[]]) (fun f s'=>f= .done (.ret .none)/\Q () s') (fun _ _=>False) #[h,g,d,t,os]):
  Fl (model prog w) A (Sh (.ref x) name v) Q E #[h,g,d,t,os]:=by
 have f3:=SF.slot.bind (.ref x);unfold Sh callSpecial? specialOf
 repeat (any_goals (first|assumption|(with_reducible refine FW hx ?_;rw[hc])|(with_reducible refine gX hC hn (fun _=>l) ?_;rw[hns])|wp_step))
 refine OT SF.slot.plain SF.entry (D0 SF hC hx hc (HP (hq _ _) (fun f s' z=>?_) fun _ _ z=>z.elim));obtain⟨rfl,z⟩:=z
 repeat (any_goals (first|assumption|wp_step))
end
end OS
namespace OS
open PySem PySem.Spec L2
open PyProof.Rows hiding St
def CS (H:Hp) (ch:EA EJ):Hp:=fun b=>if b∈ch then none else H b
theorem e7 {H:Hp}(h:b∉ch):CS H ch b=H b:=EI h
theorem mI {H:Hp}(h:b∈ch):CS H ch b=none:=EL h
theorem AS {H:Hp}(h: ∀b∈ch,H b=none):CS H ch=H:=by
 funext b
 by_cases hb:b∈ch
 ·rw[mI hb,h b hb]
 ·exact e7 hb
theorem Do {H:Hp}{a:EJ}(I:aE X pins σ H s) (hex:X.ex=[])
  (L:ye (rk X.stack) ch a oe s.heap h') (S7: ∀b∈ch,X.OZ.heap.objs.size<=b) (htr: ∀b∈ch,H b=none\/ ∃φ,H b=some (.ext φ)):
  Un X.fs [] X.H_0 (CS H ch) X.OZ.heap h'/\hX X.prog X.w (CS H ch) h':=by
 have old: ∀b o,X.OZ.heap.get? b=some o->b∉ch:=fun b o e hb=>E7 (Fv (Fn e) (S7 b hb)) (Hq _)
 have nex: ∀b,b∉X.ex:=fun b hb=>by rw[hex] at hb;exact nomatch hb
 have nst: ∀b o,X.OZ.heap.get? b=some o->b∉X.fs->b∉rk X.stack:=fun b o e hb hs=>by
  rcases EW.mp (I.Rk b hs) with z|z
  ·rw[z] at e
   exact E7 [055] (Hq _)
  ·exact hb z
 have AC: ∀b u,H b=some u->(∀φ,u≠ .ext φ)->b∉ch:=fun b u e ne hb=>by
  rcases htr b hb with z|⟨φ,z⟩
  ·rw[e] at z;cases z
  ·rw[e] at z;exact ne φ (E5 z)
 have eN: ∀b,b∈X.fs->b∈rk X.stack:=fun b hb=>by
  rcases I.ok.Xh with e|⟨e,hf⟩
  ·rw[e];exact hb
  ·rw[e];unfold rk;rw[Kb,hf];exact EN _ hb
 refine#[#[fun b o e n hb _=>?_,fun b o e n hb _=>?_,fun b o e n _=>?_,fun b o e _=>?_,fun b xs e=>?_,fun b o u e=>?_,fun b ps e=>?_],fun x u q=>?_]
 ·exact L.keep b o (nst b o e hb) (old b o e) (I.base.keep b o e n hb (nex b))
 ·obtain⟨sl,z⟩:=I.base.slot b o e n hb (nex b)
  obtain⟨sl',z'⟩:=L.slot b _ (eN b hb) (old b o e) z;exact#[sl',z']
 ·rw[e7 (old b o e)]
  exact I.base.free b o e n (nex b)
 ·obtain⟨o',z⟩:=I.base.there b o e (nex b)
  exact L.there b o' z
 ·have z:=I.base.Qw b xs e
  rw[e7 (AC b _ z fun φ y=>nomatch y)]
  exact z
 ·have z:=I.base.P6 b o u e
  rw[e7 (AC b _ z fun φ y=>nomatch y)]
  exact z
 ·obtain⟨more,z⟩:=I.base.Qx b ps e
  exact#[more,by rw[e7 (AC b _ z fun φ y=>nomatch y)];exact z]
 ·have hx:x∉ch:=fun z=>by rw[mI z] at q;cases q
  rw[e7 hx] at q;refine(I.HH x u q).Rj (fun b v hb e=>?_) (fun b e=>?_) fun b xs e=>?_
  ·refine L.keep b v [030] [030] e
   ·have y:=I.PZ b z
    rcases hb with rfl|hb
    ·rw[q] at y;cases y
    ·rw[hb] at y;cases y
   ·rcases hb with rfl|hb
    ·exact hx z
    ·exact AC b _ hb (fun φ y=>nomatch y) z
  ·rw[e7 (AC b _ e fun φ y=>nomatch y)];exact e
  ·rw[e7 (AC b _ e fun φ y=>nomatch y)];exact e
def afc (C d a:EJ) (n:E1) (H:Hp) (h:Gn):Prop:= ∃oe vs T oT ts,h.get? a=some oe/\oe.cls= .ref C/\oe.dict=some d/\oe.data= .fields vs/\vs[1]?=some (.ref T)/\n<=T/\T≠a/\H T=none/\
 h.get? T=some oT/\oT.data= .fields ts/\ts[3]?=some .none
def fW (P:Fz) (w:Ga):pX:=fun outer H s E e s'=> ∃(C a d:EJ) (H':Hp),e= .ref a/\s'.os=s.os/\Pg s'.gens/\Un (rk outer) [] H H' s.heap s'.heap/\hX P w H' s'.heap/\
 s.heap.objs.size<=a/\H' a=none/\afc C d a s.heap.objs.size H' s'.heap/\E (.ref C) (some d) H'
section
variable {P:Fz}{w:Ga}{K:EF}{mg:Fh->ET EH}{base:Gn}{H0:Hp}{E:XK}{CX:pX}
theorem sH {H:Hp}{a d:EJ}(I:aE (fg CX P w K mg base N Gz scope f cd A outer s0 H0 E) pins σ H s)
  (L:ye (rk (Jf Gz scope s0.heap.objs.size f cd::outer)) ch a oe s.heap h') (S7: ∀b∈ch,s0.heap.objs.size<=b) (htr: ∀b∈ch,H b=none\/ ∃φ,H b=some (.ext φ)) (ha:a∈ch)
  (hc:oe.cls= .ref C) (hd:oe.dict=some d) (hE:E (.ref C) (some d) (CS H ch)):fW P w outer H0 s0 E (.ref a) { s with heap:=h' } :=by
 obtain⟨u,k⟩:=Do I rfl L S7 htr;obtain⟨vs,T,oT,ts,x1,x2,x3,x4,x5,x6,x7⟩:=L.fly;refine#[C,a,d,CS H ch,rfl,I.os,I.bare,u,k,S7 a ha,mI ha,#[_,vs,T,oT,ts,x1,hc,hd,rfl,x2,Fj I.sz x3,x4,?_,x5,x6,x7],hE];have z:=I.HH.fresh x3;by_cases hT:T∈ch
 ·exact mI hT
 ·rw[e7 hT];exact z
theorem aA:dh (fW P w) (fg (fW P w) P w K mg base N Gz scope f cd A outer s0 H0 E) E:=by
 intro pins σ H s e s' I h;obtain⟨C,a,d,H',rfl,os,bare,un,HH,za,ha,⟨oe,vs,T,oT,ts,x1,x2,x3,x4,x5,x6,x7,x8,x9,x10,x11⟩,hE⟩:=h;have J:=I.VA (ch:=[]) os un HH bare (fun b z=>nomatch z)
 have sz:=I.sz
 have ck: ∀b∈[a,T],H' b=none:=fun b hb=>by
  rcases EW.mp hb with z|z
  ·rw[z];exact ha
  ·rw[Fd.mp z];exact x8
 refine Cs (base:=base) J.ok.frames J.stack rfl x1 x4 x5 x7 x9 x10 x11 fun h' L=>?_;refine sH J L (fun b hb=>?_) (fun b hb=> .inl (ck b hb)) EO x2 x3 (by rw[AS ck];exact hE);rcases EW.mp hb with z|z
 ·rw[z];exact Fj sz za
 ·rw[Fd.mp z];exact Fj sz x6
end
theorem fO {P:Fz}{w:Ga}{K:EF}{mg:Fh->ET EH}{base:Gn}{x Gz:Fh}{st:Stmt}{f:EJ}{fd:FL}{N ps:EA Fh}{k:E1}{sp:Sp}(F:oJ K x Gz st f fd)
  (S:az N ps (af st)) (len: ∀vs H Q E,sp vs H Q E->vs.length=ps.length)
  (Jc: ∀(Gp:EH) (A:Gk) (outer:EA Env) (s:EM) (H:Hp) (vs:EA V) (Q:VK) (E:XK),bW k (A.deeper [011])->sp vs H Q E->
   Bd (fg (fW P w) P w K mg base N Gz (af st) f Gp A outer s H E) (a7 st) { nx:=fun _ H'=>Q .HZ H',rt:=Q } (start N vs) H):bS P w K mg base (fW P w) (k+1) f fd ps sp:=by
 obtain⟨oc,od,kV,doc,pm,an,Gp,ct,VV,rfl,lk,RG⟩:=F.ex;exact Xp lk RG S len fun A outer s H vs Q E hr SR=>Jc Gp A outer s H vs Q E hr SR
theorem afd {R C:EJ} :Up (.ref R::cT) (.ref C:: .ref R::cT) "Exception":=
 #[by rw[FY,FY];rfl,by rw[FY,FY];rfl,by rw[FY,FY];rfl]
theorem AI {R C:EJ} :(Fq C:: .ref R::cT).contains (.type "BaseException")=true:=by rw[FY,FY];rfl
theorem pW {E:EH->EM->Prop}{Q:Flow->EM->Prop}(hh:A.handled=none)
  (H:Fl M A y (fun v s1=> ∃e oe vs R C fI,v= .ref e/\XAt s1.heap R C fI/\s1.heap.get? e=some oe/\oe.cls= .ref C/\oe.data= .fields vs/\vs[1]?=some .none/\E (.ref e) s1) E s):
  Fl M A (raiseStmt env (some y) none) Q E s:=by
 unfold raiseStmt;refine E3 (HP H (fun v s1 h1=>?_) fun _ _ x=>x);obtain⟨e,oe,vs,R,C,fI,rfl,⟨Nn,mN,oI,NR,mR,⟨nm,q,bs,sn,sub,ab,col,dd,k0,k1,k2,k3,k5,hC⟩,_⟩,he,hc,hd,h1,hE⟩:=h1;have hcB:=AI (R:=R) (C:=C);obtain⟨hp,g,d,tk,os⟩:=s1
 repeat (first|(with_reducible refine FW he ?_;rw[hc])|with_reducible refine FW hC ?_|(with_reducible refine wpAny_isSubtype_exc hC ?_;rw[hcB])|with_reducible refine wpAny_field he hd h1 ?_|wp_step)
 exact wpAny_raiseNew_none hh hE
def qA (C p:EJ):HO:= .ext fun h=> ∃T,h.get? p=some (dg C T)
def ka (C d p:EJ):HO:= .ext fun h=> ∃o vs,h.get? p=some o/\o.cls= .ref C/\o.dict=some d/\o.data= .fields vs/\vs[1]?=some .none
def ci (d:EJ) (fs:EA (Fh×V)):HO:= .ext fun h=> ∃mA,h.Ns1 d mA/\(∀f,fS (fs.lookup f) (mA f))/\M5 mA (fs.map (·.1))
def dP (C:EJ) (g:EA V->EA (Fh×V)->Prop):Sp:=fun vs H Q _=> ∃(p:EJ) (us:EA V) (fs:EA (Fh×V)),vs= .ref p::us/\g us fs/\H p=some (qA C p)/\
 ∀d,H d=none->Q .HZ (aF (aF H d (ci d fs)) p (ka C d p))
def Cn (C:EJ) (g:EA V->EA (Fh×V)->Prop) (E:XK) (t:TA):TS:=fun _ σ H=>t σ H fun vs H1=>vs.length<=9/\ ∃fs,g vs fs/\ ∀d,H1 d=none->E (.ref C) (some d) (aF H1 d (ci d fs))
def qK (X:Cx) (E:XK):Prop:= ∀(pins:EA (EJ×Ih)) (σ:St) (H:Hp) (s:EM) (C d a:EJ),aE X pins σ H s->H a=some (ka C d a)->X.OZ.heap.objs.size<=a->E (.ref C) (some d) (CS H [a])->X.xe (.ref a) s
theorem eu {P:Fz}{w:Ga}{K:EF}{mg:Fh->ET EH}{base:Gn}{H0:Hp}{E:XK} :qK (fg (fW P w) P w K mg base N Gz scope f cd A outer s0 H0 E) E:=by
 intro pins σ H s C d a I h z hE;obtain⟨⟨o,ws,x1,x2,x3,x4,x5⟩,_⟩:=I.HH _ _ h;refine zn (base:=base) I.ok.frames I.stack rfl x1 x4 x5 fun h' L=>?_;refine sH I L (fun b hb=>?_) (fun b hb=>?_) EO x2 x3 hE
 ·rw[Fd.mp hb]
  exact z
 ·rw[Fd.mp hb]
  exact .inr #[_,h]
section
variable {E:XK}{g:EA V->EA (Fh×V)->Prop}
theorem nY {H1:Hp}(XR:qK X E) (XC:dA X.K R C fI) (F:bS X.prog X.w X.K X.mg X.base wX k fI fdI ps (dP C g)) (hr:bW (k+1) X.A) (hb:gc X.K fdI ps [])
  (I1:aE X pins σ H1 s1) (r:aX vs us) (lv:vs.length<=9) (hg:g vs fs) (qE: ∀d,H1 d=none->E (.ref C) (some d) (aF H1 d (ci d fs))):
  Fl (model X.prog X.w) X.A (call (.ref C) us) (fun v s1=> ∃e oe vs R C fI,v= .ref e/\XAt s1.heap R C fI/\s1.heap.get? e=some oe/\oe.cls= .ref C/\oe.data= .fields vs/\vs[1]?=some .none/\X.xe (.ref e) s1) X.xe s1:=by
 obtain⟨h1,g1,d1,t1,VE⟩:=s1;obtain⟨Nn,mN,oI,NR,mR,⟨nm,q,bs,sn,sub,ab,col,dd,k0,k1,k2,k3,k5,hC⟩,hn,WK,V2,hI,hIc,_⟩:=XC.at_ h1 I1.MI;have lu:us.length<=9:=by rw[<-r.length];exact lv
 have fr:H1 (h1.objs.size+1)=none:=I1.HH.fresh (KH _)
 have ge:((h1.push (eJ us)).push (dg C h1.objs.size)).get? (h1.objs.size+1)=some (dg C h1.objs.size):=by heap_get
 have I2:aE X pins σ (aF H1 (h1.objs.size+1) (qA C (h1.objs.size+1))) ⟨(h1.push (eJ us)).push (dg C h1.objs.size),g1,d1,t1,VE⟩:=
  I1.laid (t':=t1) (fun b u z=>E2 _ (E2 _ z)) (KH _) #[#[_,ge],#[_,ge],fun _ _ ⟨T,z⟩ y=>#[T,y _ z]]
 have r2:aX (V.ref (h1.objs.size+1)::vs) (Fq (h1.objs.size+1)::us):= .cons rfl r
 have SR:dP C g (V.ref (h1.objs.size+1)::vs) (aF H1 (h1.objs.size+1) (qA C (h1.objs.size+1)))
   (fun v H'=>v= .HZ/\ ∃d,(aF H1 (h1.objs.size+1) (qA C (h1.objs.size+1))) d=none/\H'=aF (aF (aF H1 (h1.objs.size+1) (qA C (h1.objs.size+1))) d (ci d fs)) (h1.objs.size+1) (ka C d (h1.objs.size+1))) E0:=
  #[_,vs,fs,rfl,hg,ae,fun d hd=>#[rfl,d,hd,rfl]]
 have hl:(Fq (h1.objs.size+1)::us++[]).length=ps.length:=by
  have z:=r2.length;rw[F.len _ _ _ _ SR] at z;rw[Gw];exact z.symm
 have bb:=hb #[(h1.push (eJ us)).push (dg C h1.objs.size),g1,d1,t1,VE] (Fq (h1.objs.size+1)::us) I2.MI hl;rw[Gw] at bb;refine P2 (zM Qn afd hC hn WK hI hIc (Mu (F.run _ X.stack _ _ #[Fq (h1.objs.size+1)::us,[]] (Fq (h1.objs.size+1)::us) _ _ E0 (hr.make C us []) (I2.ZT.make C us []) bb r2 SR) fun r s' TR=>?_) (by rw[Ht];lia))
 cases r with
 |error e=>exact TR.elim
 |ok fl=>
  cases fl with
  |next=>exact TR.elim
  |brk=>exact TR.elim
  |cont=>exact TR.elim
  |ret u=>
   obtain⟨v,H',I3,rv,ev,d,hd,eH⟩:=I2.after TR;subst ev;have np:d≠h1.objs.size+1:=fun z=>by rw[z,ae] at hd;cases hd
   rw[ac np] at hd;have at3:H' (h1.objs.size+1)=some (ka C d (h1.objs.size+1)):=by rw[eH];exact ae
   obtain⟨⟨o,ws,x1,x2,x3,x4,x5⟩,_⟩:=I3.HH _ _ at3;refine#[rv,_,o,ws,R,C,fI,rfl,XC.at_ _ I3.MI,x1,x2,x4,x5,XR pins σ H' _ C d _ I3 at3 (Fj I1.sz (KH _)) ?_];have z:CS H' [h1.objs.size+1]=aF H1 d (ci d fs):=by
    funext b
    by_cases hb:b=h1.objs.size+1
    ·rw[mI (by rw[hb];exact EO),hb,ac np.symm,fr]
    ·rw[e7 (by simpa using hb),eH,ac hb]
     by_cases hbd:b=d
     ·rw[hbd,ae,ae]
     ·rw[ac hbd,ac hbd,ac hb]
   rw[z];exact qE d hd
theorem sA (XR:qK X E) (XC:dA X.K R C fI) (F:bS X.prog X.w X.K X.mg X.base wX k fI fdI ps (dP C g)) (hr:bW (k+1) X.A) (hg:Gl X x) (hm:X.mg x=some (.ref C)) (hb:gc X.K fdI ps []) (ha:PA X (e::es) t)
  (Rl:(x == [003])=false:=by decide) (he:Fb (e::es) X.env=[000]::Fb es X.env:=by rfl) (Ma:(Ie K5 [034]).any (·.1)=false:=by rfl):
  PS X (.Raise (some (.Call (.Name x np) (e::es) [] K5)) none pos) (Cn C g E t):=by
 rw[04];rw[arm_exec_Raise];refine E3 (Nb (pW hr.hd (E3 (ca ?_ fun v s1 hv=>E3 (Nb (Fx hv))))));refine Je (gj I hg hm ?_ Rl);refine Ki (h₀:=X.base) I.ok.mod.UQ XC.kp (ca (ha K5 pins s σ H _ I h) fun us s1 z=>?_) he Ma;obtain⟨vs,H1,I1,r,lv,fs,hgv,qE⟩:=z;exact#[I1.MI,nY XR XC F hr hb I1 r lv hgv qE]
theorem eT (XR:qK X E) (XC:dA X.K R C fI) (F:bS X.prog X.w X.K X.mg X.base wX k fI fdI ps (dP C g)) (hr:bW (k+1) X.A) (hg:Gl X x) (hm:X.mg x=some (.ref C)) (hb:gc X.K fdI ps [])
  (Rl:(x == [003])=false:=by decide):PS X (.Raise (some (.Call (.Name x np) [] [] K5)) none pos) (Cn C g E zQ):=by
 rw[04];obtain⟨lv,fs,hgv,qE⟩:=h;rw[arm_exec_Raise];refine E3 (Nb (pW hr.hd (E3 (ca ?_ fun v s1 hv=>E3 (Nb (Fx hv))))));refine Je (gj I hg hm ?_ Rl);exact NF (I.MI) XC.kp (nY XR XC F hr hb I .nil lv hgv qE)
end
end OS
namespace OS
open Vbemac
def bR (c:Io):FR:=letter c||digit c
def eO (c:Io):FR:=c !=10
def aW (p:Io->FR) (bs:FJ) (i:E1):E1:=i+((bs.drop i).takeWhile p).length
theorem eZ {bs:FJ}{i:E1}{c:Io}(h:bs[i]?=some c):bs.drop i=c::bs.drop (i+1):=by
 obtain⟨hi,e⟩:=FF.mp h;rw[GO hi,e]
theorem kD {p:Io->FR}{bs:FJ}{i:E1}{c:Io}(h:bs[i]?=some c) (hp:p c=true):aW p bs i=aW p bs (i+1):=by
 unfold aW;rw[eZ h,Jp,EL hp,EZ];lia
theorem ow {p:Io->FR}{bs:FJ}{i:E1}{c:Io}(h:bs[i]?=some c) (hp:p c=false):aW p bs i=i:=by
 unfold aW;rw[eZ h,Jp,EI (by rw[hp];exact EE)]
 rfl
theorem kL {p:Io->FR}{bs:FJ}{i:E1}(h:bs.length<=i):aW p bs i=i:=by
 unfold aW;rw[R9 h]
 rfl
theorem m8 {p:Io->FR}{bs:FJ}{i:E1}(h:i<=bs.length):aW p bs i<=bs.length:=by
 unfold aW;have:=(EA.takeWhile_sublist p (l:=bs.drop i)).length_le;rw[Lg] at this;lia
def part (bs:FJ) (i j:E1):FJ:=(bs.drop i).take (j-i)
theorem xj {p:Io->FR} : ∀l:FJ,l.takeWhile p=l.take (l.takeWhile p).length
 |[]=>rfl
 |a::l=>by
  rw[Jp];split
  ·rw[EZ,EA.take_succ_cons,<-xj l]
  ·rfl
theorem ko (p:Io->FR) (bs:FJ) (i:E1):(bs.drop i).takeWhile p=part bs i (aW p bs i):=by
 unfold part aW;rw[Hk];exact xj _
theorem oy (p:Io->FR) (bs:FJ) (i:E1):(bs.drop i).drop ((bs.drop i).takeWhile p).length=bs.drop (aW p bs i):=by
 rw[NO]
 rfl
theorem iJ: ∀(w:FJ) (p:Pos),(∀c∈w,c≠10)->moved p w=(p.1,p.2+w.length)
 |[],p,_=>rfl
 |c::w,p,h=>by
  show moved (advance p c) w=_
  rw[iJ w _ fun d hd=>h d (EN _ hd)];unfold advance;rw[EI (h c EO),EZ];show(p.1,p.2+1+w.length)=_;rw[RD,J7 1]
theorem qC {p:Io->FR} : ∀(l:FJ),∀c∈l.takeWhile p,p c=true
 |[],c,h=>nomatch h
 |a::l,c,h=>by
  rw[Jp] at h;split at h
  ·rename_i q
   rcases EW.mp h with e|h
   ·rw[e];exact q
   ·exact qC l c h
  ·exact nomatch h
theorem n8 {p:Io->FR}(hp:p 10=false) (bs:FJ) (i:E1) (q:Pos):moved q ((bs.drop i).takeWhile p)=(q.1,q.2+(aW p bs i-i)):=by
 rw[iJ _ _ fun c hc e=>by
  have:=qC _ c hc;rw[e,hp] at this;cases this]
 unfold aW;rw[Hk]
section
variable {bs:FJ}{i k:E1}{c:Io}{q:Pos}
theorem kM (h:bs[i]?=some c) (hb:blank c=true):lex (k+1) q (bs.drop i)=lex k (advance q c) (bs.drop (i+1)):=by
 rw[eZ h,lex,EL hb]
theorem ii (h:bs[i]?=some c) (hb:blank c=false) (OR:c=35):
  lex (k+1) q (bs.drop i)=lex k (q.1,q.2+(aW eO bs i-i)) (bs.drop (aW eO bs i)):=by
 have e:=eZ h
 have m:=n8 (p:=eO) rfl bs i q
 have d:=oy eO bs i;rw[e] at m d;rw[e,lex,EI (by rw[hb];exact EE),EL OR]
 show lex k (moved q ([021].takeWhile eO)) ([021].drop ([021].takeWhile eO).length)=_
 rw[m,d]
theorem j9 (h:bs[i]?=some c) (hb:blank c=false) (OR: ¬c=35) (hl:letter c=true):
  lex (k+1) q (bs.drop i)=if 24<aW bR bs i-i then [(.bad,q)] else(.word (part bs i (aW bR bs i)),q)::lex k (q.1,q.2+(aW bR bs i-i)) (bs.drop (aW bR bs i)):=by
 have e:=eZ h
 have m:=n8 (p:=bR) [01] bs i q
 have d:=oy bR bs i
 have t:=ko bR bs i
 have n:((bs.drop i).takeWhile bR).length=aW bR bs i-i:=by unfold aW;rw[Hk]
 rw[e] at m d t n;rw[e,lex,EI (by rw[hb];exact EE),EI OR,EL hl];show(if 24<([021].takeWhile bR).length then _ else(Tok.word ([021].takeWhile bR),q)::lex k (moved q ([021].takeWhile bR)) ([021].drop ([021].takeWhile bR).length))=_
 rw[m,d,n,t]
def pJ (bs:FJ) (j:E1):FR:=(bs[j]?).any letter
theorem xK (bs:FJ) (j:E1):(bs.drop j).head?=bs[j]?:=EA.head?_drop
theorem mq (h:bs[i]?=some c) (hb:blank c=false) (OR: ¬c=35) (hl:letter c=false) (hd:digit c=true):
  lex (k+1) q (bs.drop i)=if 18<aW digit bs i-i\/pJ bs (aW digit bs i)=true then [(.bad,q)] else(.num (valueOf (part bs i (aW digit bs i))),q)::lex k (q.1,q.2+(aW digit bs i-i)) (bs.drop (aW digit bs i)):=by
 have e:=eZ h
 have m:=n8 (p:=digit) [01] bs i q
 have d:=oy digit bs i
 have t:=ko digit bs i
 have n:((bs.drop i).takeWhile digit).length=aW digit bs i-i:=by unfold aW;rw[Hk]
 rw[e] at m d t n;rw[e,lex,EI (by rw[hb];exact EE),EI OR,EI (by rw[hl];exact EE),EL hd];show(if 18<([021].takeWhile digit).length\/((([021].drop ([021].takeWhile digit).length).head?).any letter)=true then _
  else(Tok.num (valueOf ([021].takeWhile digit)),q)::lex k (moved q ([021].takeWhile digit)) ([021].drop ([021].takeWhile digit).length))=_
 rw[m,d,n,t,xK]
 rfl
theorem nM {n:E1}{x:FJ} : ∀(L:EA FJ),(∀s∈L,s.length=n)->L.find? (fun s=>x.take s.length == s)=if x.take n∈L then some (x.take n) else none
 |[],_=>by simp
 |a::L,h=>by
  have ha:=h a EO
  have ih:=nM (n:=n) (x:=x) L fun s hs=>h s (EN _ hs)
  rw[GF,ha];by_cases e:x.take n=a
  ·rw[show(x.take n == a)=true from by rw[e];exact Gr a,EL (by rw[e];exact EO),e]
  ·rw[show(x.take n == a)=false from beq_eq_false_iff_ne.mpr e]
   show L.find? _=_
   rw[ih];by_cases m:x.take n∈L
   ·rw[EL m,EL (EN _ m)]
   ·rw[EI m,EI (fun z=>(EW.mp z).elim e m)]
def yt:EA FJ:=SIGNS.take 7
def B7:EA FJ:=SIGNS.drop 7
theorem fY:SIGNS=yt++B7:=(SA 7 SIGNS).symm
theorem iC: ∀s∈yt,s.length=2:=by decide
theorem nj: ∀s∈B7,s.length=1:=by decide
theorem uV: ∀s∈SIGNS,∀d∈s,d≠10:=by decide
def bj (bs:FJ) (i:E1):E1:=if part bs i (i+2)∈SIGNS then i+(part bs i (i+2)).length else i+1
theorem gM (x:FJ):x∈SIGNS ↔ x∈yt\/x∈B7:=by rw[fY];exact Fp
theorem yO (h:bs[i]?=some c):(SIGNS.find? fun s=>(bs.drop i).take s.length == s)=if part bs i (bj bs i)∈SIGNS then some (part bs i (bj bs i)) else none:=by
 have e2:(bs.drop i).take 2=part bs i (i+2):=by unfold part;rw[Hk]
 have e1:(bs.drop i).take 1=part bs i (i+1):=by unfold part;rw[Hk]
 have l1:(part bs i (i+1)).length=1:=by rw[<-e1,eZ h];rfl
 rw[fY,U5,nM yt iC,nM B7 nj,e2,e1];by_cases m2:part bs i (i+2)∈yt
 ·have n2:=iC _ m2
  have s2:part bs i (i+2)∈SIGNS:=(gM _).mpr (.inl m2)
  have se:bj bs i=i+2:=by unfold bj;rw[EL s2,n2]
  rw[EL m2,se,<-fY,EL s2]
  rfl
 ·have se:bj bs i=i+1:=by
   unfold bj;by_cases s2:part bs i (i+2)∈SIGNS
   ·rw[EL s2,nj _ (((gM _).mp s2).resolve_left m2)]
   ·rw[EI s2]
  have n1: ¬part bs i (i+1)∈yt:=fun z=>by
   have:=iC _ z;lia
  rw[EI m2,se,<-fY,ET.none_or];by_cases m1:part bs i (i+1)∈B7
  ·rw[EL m1,EL ((gM _).mpr (.inr m1))]
  ·rw[EI m1,EI fun z=>((gM _).mp z).elim n1 m1]
theorem oN (h:bs[i]?=some c) (m:part bs i (bj bs i)∈SIGNS):(part bs i (bj bs i)).length=bj bs i-i:=by
 have e1:(part bs i (i+1)).length=1:=by unfold part;rw[Hk,eZ h];rfl
 unfold bj at m ⊢;split
 ·rename_i s2
  rw[EL s2] at m;rcases(gM _).mp s2 with z|z
  ·rw[iC _ z,iC _ z];lia
  ·rw[nj _ z,e1];lia
 ·rw[e1];lia
theorem j3 (h:bs[i]?=some c) (hb:blank c=false) (OR: ¬c=35) (hl:letter c=false) (hd:digit c=false):
  lex (k+1) q (bs.drop i)=if part bs i (bj bs i)∈SIGNS then(.sign (part bs i (bj bs i)),q)::lex k (q.1,q.2+(bj bs i-i)) (bs.drop (bj bs i)) else [(.bad,q)]:=by
 have f:=yO h
 have e:=eZ h
 have hle:i<=bj bs i:=by unfold bj;split<;>lia
 have dd: ∀n,(bs.drop i).drop n=bs.drop (i+n):=fun n=>NO
 rw[e] at f;rw[e,lex,EI (by rw[hb];exact EE),EI OR,EI (by rw[hl];exact EE),EI (by rw[hd];exact EE),f];by_cases m:part bs i (bj bs i)∈SIGNS
 ·rw[EL m,EL m]
  show _::lex k (moved q (part bs i (bj bs i))) ([021].drop (part bs i (bj bs i)).length)=_
  rw[iJ _ _ (uV _ m),oN h m,<-e,dd,show i+(bj bs i-i)=bj bs i by lia]
 ·rw[EI m,EI m]
theorem Dq (h:bs.length<=i):lex (k+1) q (bs.drop i)=[(.eof,q)]:=by
 rw[R9 h,lex]
end
end OS
namespace OS
open Vbemac
open PySem (Str)
def fZ:Tok->Prop
 | .word w=>w≠[]/\ ∀c∈w,bR c=true
 | .sign s=>s∈SIGNS
 |_=>True
def Mid (x:Tok×Pos):Prop:=x.1≠ .eof/\x.1≠ .bad/\fZ x.1
def ju (x:Tok×Pos):Prop:=x.1= .eof\/x.1= .bad
def fQ (t:L9):Prop:= ∃WL x,t=WL++[x]/\ju x/\ ∀y∈WL,Mid y
theorem fQ.one (h:ju x):fQ [x]:=#[[],x,rfl,h,fun _ z=>nomatch z]
theorem fQ.cons (h:Mid x) (w:fQ t):fQ (x::t):=by
 obtain⟨WL,y,rfl,f,a⟩:=w;refine#[x::WL,y,rfl,f,fun z hz=>?_];rcases EW.mp hz with e|hz
 ·rw[e];exact h
 ·exact a z hz
theorem fQ.tail (w:fQ (x::t)) (h: ¬ju x):Mid x/\fQ t:=by
 obtain⟨WL,y,e,f,a⟩:=w;cases WL with
 |nil=>
  injection e with e1 e2;exact E7 (e1▸f) h
 |cons z WL=>
  injection e with e1 e2;exact#[e1▸a z EO,WL,y,e2,f,fun v hv=>a v (EN _ hv)]
theorem fQ.ne (w:fQ t):t≠[]:=by
 obtain⟨WL,y,rfl,_⟩:=w;simp
theorem fJ: ∀(k:E1) (q:Pos) (b:FJ),fQ (lex k q b)
 |0,q,b=>by rw[lex];exact .one (.inl rfl)
 |k+1,q,[]=>by rw[lex];exact .one (.inl rfl)
 |k+1,q,c::r=>by
  have z:(c::r)[0]?=some c:=rfl
  have d0:(c::r).drop 0=c::r:=rfl;rw[<-d0];by_cases hb:blank c=true
  ·rw[kM z hb];exact fJ k _ _
  ·have hb:blank c=false:=by simpa using hb
   by_cases OR:c=35
   ·rw[ii z hb OR];exact fJ k _ _
   ·by_cases hl:letter c=true
    ·rw[j9 z hb OR hl]
     split
     ·exact .one (.inr rfl)
     ·refine .cons #[by simp,by simp,?_,?_] (fJ k _ _)
      ·rw[<-ko,d0,Jp,EL (by unfold bR;rw[hl];rfl)]
       simp
      ·rw[<-ko];exact qC _
    ·have hl:letter c=false:=by simpa using hl
     by_cases hd:digit c=true
     ·rw[mq z hb OR hl hd]
      split
      ·exact .one (.inr rfl)
      ·exact .cons #[by simp,by simp,GH] (fJ k _ _)
     ·have hd:digit c=false:=by simpa using hd
      rw[j3 z hb OR hl hd];split
      ·rename_i m
       exact .cons #[by simp,by simp,m] (fJ k _ _)
      ·exact .one (.inr rfl)
theorem dO: ∀(k:E1) (q:Pos) (b:FJ),(lex k q b).length<=k+1
 |0,q,b=>by rw[lex];simp
 |k+1,q,[]=>by rw[lex];simp
 |k+1,q,c::r=>by
  have z:(c::r)[0]?=some c:=rfl
  have d0:(c::r).drop 0=c::r:=rfl;rw[<-d0];by_cases hb:blank c=true
  ·rw[kM z hb];exact Fj (dO k _ _) (by lia)
  ·have hb:blank c=false:=by simpa using hb
   by_cases OR:c=35
   ·rw[ii z hb OR];exact Fj (dO k _ _) (by lia)
   ·by_cases hl:letter c=true
    ·rw[j9 z hb OR hl]
     split
     ·simp
     ·rw[EZ];exact G7 (dO k _ _)
    ·have hl:letter c=false:=by simpa using hl
     by_cases hd:digit c=true
     ·rw[mq z hb OR hl hd]
      split
      ·simp
      ·rw[EZ];exact G7 (dO k _ _)
     ·have hd:digit c=false:=by simpa using hd
      rw[j3 z hb OR hl hd];split
      ·rw[EZ];exact G7 (dO k _ _)
      ·simp
theorem eI {a b:FJ}(h:sb a=sb b):a=b:=by
 have e:(a.map Mt).toArray=(b.map Mt).toArray:=FN Fh.cps h
 have e:a.map Mt=b.map Mt:=by simpa using e
 exact UA (fun x y q=>P4.mp q) |>.mp e
theorem wD: ∀a∈SIGNS,∀b∈SIGNS,dG a=dG b->a=b:=by decide+kernel
theorem xU: ∀a∈SIGNS,∀c,(dG a).cps[0]?=some c-> ∀d:E1,d<256->d=c->bR (NI d)=false:=by
 have h: ∀a∈SIGNS,∀d:E1,d<256->(dG a).cps[0]?=some d->bR (NI d)=false:=by decide+kernel
 intro a ha c hc d hd e;subst e;exact h a ha d hd hc
theorem rE {w s:FJ}(h0:w≠[]) (hw: ∀c∈w,bR c=true) (hs:s∈SIGNS):sb w≠dG s:=fun e=>by
 obtain⟨c,r,rfl⟩: ∃c r,w=c::r:=by cases w with|nil=>exact E7 rfl h0|cons c r=>exact#[c,r,rfl]
 have f:=xU s hs c.toNat (by rw[<-e];rfl) c.toNat (Wa c) rfl;rw[UC,hw c EO] at f;cases f
def uA:Tok->ET Fh
 | .word w=>some (sb w)
 | .sign s=>some (dG s)
 | .num _=>none
 | .eof=>some (sb [])
 | .bad=>some (sb [])
def cY (x:Fh) (w:FJ):Prop:=x=sb w/\w≠[]/\ ∀c∈w,bR c=true
def d7 (x:Fh) (s:FJ):Prop:=x=dG s/\s∈SIGNS
theorem CL: ∀s∈SIGNS,dG s≠sb []:=by decide+kernel
theorem Ah (ok:fZ k) {w:FJ}(h:cY x w):uA k=some x ↔ k= .word w:=by
 obtain⟨rfl,h0,h1⟩:=h;constructor
 ·intro e
  cases k with
  |word v=>exact FN Tok.word (eI (E5 e))
  |sign s=>exact E7 (E5 e).symm (rE h0 h1 ok)
  |num n=>cases e
  |eof=>exact E7 (eI (E5 e)).symm h0
  |bad=>exact E7 (eI (E5 e)).symm h0
 ·intro e;subst e;rfl
theorem tP (ok:fZ k) (h:d7 x s):uA k=some x ↔ k= .sign s:=by
 obtain⟨rfl,hs⟩:=h;constructor
 ·intro e
  cases k with
  |word v=>exact E7 (E5 e) (rE ok.1 ok.2 hs)
  |sign r=>exact FN Tok.sign (wD r ok s hs (E5 e))
  |num n=>cases e
  |eof=>exact E7 (E5 e).symm (CL s hs)
  |bad=>exact E7 (E5 e).symm (CL s hs)
 ·intro e;subst e;rfl
end OS
namespace OS
abbrev ig (p q:PySem.Pos):Prop:=(p.endLine == q.line)=true
open PySem PySem.Spec L2
open PyProof.Rows hiding St
theorem aR {X:Cx}{i:Int}{pos:Pos}(hg:Gl X x) (hm: ∃t,X.mg x=some (.int i t)) (hd:(x == [003])=false:=by decide):PE X (.Name x pos) (tC (.int i)):=by
 obtain⟨t,hm⟩:=hm;exact qg hg hm #[t,rfl] hd
theorem afe {X:Cx}{i:Fh}{pos:Pos}(hg:Gl X x) (hm: ∃t,X.mg x=some (.str i t)) (hd:(x == [003])=false:=by decide):PE X (.Name x pos) (tC (.str i)):=by
 obtain⟨t,hm⟩:=hm;exact qg hg hm #[t,rfl] hd
theorem o0.sq {K:EF}{a:EJ}{H:Hp}(h:o0 K a xs):rh K H a xs:= .inr h
theorem xo (r:Paired (fun(p:EA a0×V) (q:EA a0×EJ×EH)=>p.1=q.1/\bh p.2 q.2.2) aC xs) (k:EA a0):fS (bN aC k) ((Qv xs k).map (·.2)):=by
 induction r with
 |nil=>exact GH
 | @cons p q ps qs hq t ih=>
  unfold bN Qv at*;rw[GF,GF];by_cases e:q.1=k
  ·rw[show decide (p.1=k)=true from Gb (hq.1.trans e),show decide (q.1=k)=true from Gb e]
   exact hq.2
  ·rw[show decide (p.1=k)=false from FA (fun z=>e (hq.1.symm.trans z)),show decide (q.1=k)=false from FA e]
   exact ih
section
variable {td ty:TE}
def aff (P:Fz) (w:Ga) (K:EF) (ty td:TE):TE:=fun σ H Q=>ty σ H fun y H1=>td σ H1 fun x H2=> ∃a b k aC,x= .ref a/\zt P w K a aC/\y= .ref b/\H2 b=some (.tup (k.map kV))/\Q (.bl (bN aC k).isSome) H2
def aad (P:Fz) (w:Ga) (K:EF) (td ty:TE):TE:=fun σ H Q=>td σ H fun x H1=>ty σ H1 fun y H2=> ∃a b k aC v,x= .ref a/\zt P w K a aC/\y= .ref b/\H2 b=some (.tup (k.map kV))/\bN aC k=some v/\Q v H2
theorem xu (hu:X.A.units+1<OX) (hi:PE X i ty) (ho:PE X o td):PC X .In i o (aff X.prog X.w X.K ty td):=by
 rw[01];refine bin hi ho I h fun v u s2 x y H2 I2 rx ry q=>?_;obtain⟨a,b,k,aC,ey,kd,ex,eb,q⟩:=q;subst ex;subst ey;cases rx;cases ry;obtain⟨xs,dd,rel⟩:=kd.at_;refine wpAny_in_heap (JN hu) (jq I2.HH eb) kd.no (dd _ I2.MI) ?_;have z:=(xo rel k).LN;rw[Hv] at z;rw[<-z];exact#[.bl _,H2,I2.tok _,rfl,q]
theorem BE (hu:X.A.units+1<OX) (ho:PE X o td) (hi:PE X i ty) (hs:Db i):PE X (.Subscript o i pos) (aad X.prog X.w X.K td ty):=by
 rw[01];refine we Qm.lookup hs (ca [085] fun u s1 ⟨x,H1,I1,rx,q1⟩=>ca (hi pins s1 σ H1 _ I1 q1) fun iv s2 ⟨y,H2,I2,ry,a,b,k,aC,v',ex,kd,ey,eb,l,q⟩=>?_);subst ex;subst ey;obtain rfl:u=Fq a:=rx;obtain rfl:iv=Fq b:=ry;obtain⟨xs,dd,rel⟩:=kd.at_;have z:=xo rel k;rw[l] at z;obtain⟨w',hw,S9⟩:=fS.some_of z;obtain⟨p,hp,hp2⟩:=FG.mp hw;have D:=dd _ I2.MI;refine#[D.typeIs,Yk (JN hu) (jq I2.HH eb) D hp ?_];rw[hp2];exact#[v',H2,I2.tok _,S9,q]
end
section
variable {X:Cx}{st:Stmt}{t:TS}
def afg (t:TS):TS:=fun D σ H=> ∃J:L2.St->Hp->Prop,t { D with nx:=J } σ H/\ ∀σ' H',J σ' H'->D.nx σ' H'
theorem Es (h:PS X st t):PS X st (afg t):=by
 intro pins s σ H D I h0;obtain⟨J,h1,h2⟩:=h0;refine ca (h pins s σ H { D with nx:=J } I h1) fun f s1 q=>?_;cases f with
 |next=>
  obtain⟨σ',H',I',q⟩:=q;exact#[σ',H',I',h2 _ _ q]
 |brk=>exact q
 |cont=>exact q
 |ret u=>exact q
end
theorem pH:gN X (.builtin "isinstance") (fun xs H Q=> ∃(x:V) (C:EJ) (t:EH) (b:FR),xs=[x, .ref C]/\jC X.K H x t/\Hy X.K t (.ref C)=some b/\Q (.bl b) H):=by
 rw[013];obtain⟨x,C,t,b,rfl,ty,e,q⟩:=h;obtain⟨u1,u2,rfl,r1,r2⟩:=vals2 r;cases r2;exact yD I r1 ty e fun tk=>#[.bl b,H,I.tok _,rfl,q]
theorem zD.of {K:EF}{H:Hp}(t:zD K C) (e:H p=some [053]):jC K H (.ref p) (.ref C):= .ins e t.cl t.ha t.hn t.htk t.hm
theorem bM {α β:Type}{F:α->β->Prop} : ∀ {l:EA α}{m:EA β},Paired F l m->l.length=m.length
 |_,_, .nil=>rfl
 |_,_, .cons r t=>FN (· +1) (bM t)
def aae (N P:EA Fh) (sc:Scope):Prop:=sc.kind= .function/\sc.isCoroutine=false/\sc.isGenerator=false/\N.Nodup/\N.take P.length=P/\(∀x∈P,sc.names.lookup x=some .local\/sc.names.lookup x=some .cell)/\ ∀y∈sc.names,y.2≠ .free
instance (N P:EA Fh) (sc:Scope):Decidable (aae N P sc):=by unfold aae;infer_instance
theorem aw {N P:EA Fh}(h:aae N P sc):az N P sc:=#[h.1,h.2.1,h.2.2.1,h.2.2.2.1,h.2.2.2.2.1,h.2.2.2.2.2.1,h.2.2.2.2.2.2]
end OS
namespace OS
open PySem PySem.Spec L2
open PyProof.Rows hiding St
def _root_.L2.eG.to (D:eG) (X:Cx) (ss:EA Stmt):eG:= { D with nx:=fun σ H=>Bd X ss D σ H }
theorem eE {x m:Fh}{p1 p2 p4:Pos}(hp:ig p2 p4) (hf:methodCallForm (args.length+0) (Ie p4 (Fb args env)) (Kj p4 (IE [] env))=true):
  eval (.Call (.Attribute (.Name x p1) m p2) args [] p4) env=(do
   let ov<-eval (.Name x p1) env
   standAt p2.atName
   let (f,first)<-holding [ov] (Ku ov m (do return (<-OV (.Name x p1) env).getD true))
   MR p4 f first (Ie p4 (Fb args env)) (Kj p4 (IE [] env))):=by
 show(do
   let ov<-eval (.Name x p1) env
   standAt p2.atName
   methodCall (.Name x p1) m p2 p4 env ov (args.length+0) (Ie p4 (Fb args env)) (Kj p4 (IE [] env)))=_
 unfold methodCall calleeOf methodCallPos;rw[hf,hp]
 rfl
section
variable {H:Hp}{t:TS}
theorem io:tY X ss (fun D σ H=>Bd X ss D σ H):=fun pins s σ H D I h=>by
 obtain⟨t,h,q⟩:=h;exact h pins s σ H D I q
theorem aQ (h:PS X s t) (q:t (D.to X ss) σ H):Bd X (s::ss) D σ H:=#[_,ax h io,q]
theorem eF (h:PS X s t) (q:t D σ H):Bd X [s] D σ H:=#[_,ah h,q]
theorem cc (q:D.nx σ H):Bd X [] D σ H:=#[_,br,q]
end
inductive Pe (X:Cx) (e:G8) (σ:L2.St) (H:Hp) (Q:VK):Prop
 |mk (t:TE) (_:PE X e t) (_:t σ H Q):Pe X e σ H Q
inductive Pt (X:Cx) (e:G8) (σ:L2.St) (H:Hp) (Q:FR->Hp->Prop):Prop
 |mk (t:TT) (_:PT X e t) (_:t σ H Q):Pt X e σ H Q
inductive Pa (X:Cx) (e:EA G8) (σ:L2.St) (H:Hp) (Q:EA V->Hp->Prop):Prop
 |mk (t:TA) (_:PA X e t) (_:t σ H Q):Pa X e σ H Q
section
variable {H:Hp}{t:TS}{Q:VK}{R:FR->Hp->Prop}
theorem dn:PE X e (fun σ H Q=>Pe X e σ H Q):=fun pins s σ H Q I h=>by
 obtain⟨t,h,q⟩:=h;exact h pins s σ H Q I q
theorem je:PT X e (fun σ H Q=>Pt X e σ H Q):=fun pins s σ H Q I h=>by
 obtain⟨t,h,q⟩:=h;exact h pins s σ H Q I q
theorem rH:PA X es (fun σ H Q=>Pa X es σ H Q):=fun pos pins s σ H Q I h=>by
 obtain⟨t,h,q⟩:=h;exact h pos pins s σ H Q I q
structure Sl (X:Cx) (i:E1) (y:Fh):Prop where
 hi:X.N[i]?=some y
 hx:Loc X.env.scope y
 hf:X.fn y=true
theorem aN (i:E1) (nd:X.N.Nodup) (q:Pe X e σ H fun v H'=>Bd X ss D (σ.set i (some v)) H') (h:Sl X i y:=by exact#[rfl,Gx rfl,rfl]) (hs:K7 e (some (.Name y p0)) p5.line X.env=pure false:=by rfl):Bd X (.Assign [.Name y p0] e p5::ss) D σ H:=
 aQ (cG nd h.hi h.hx dn hs (.inl h.hf)) q
theorem bw (q:Pe X e σ H fun _ H'=>Bd X ss D σ H') (hs:K7 e none p5.line X.env=pure false:=by rfl):Bd X (.Expr e p5::ss) D σ H:=aQ (bi dn hs) q
theorem aK (q:Pe X e σ H D.rt):Bd X (.Return (some e) p5::ss) D σ H:=aQ (aJ dn) q
theorem bF (q:Pt X e σ H fun b H'=>if b=true then Bd X A (D.to X ss) σ H' else Bd X ss D σ H'):Bd X (.If e A [] p5::ss) D σ H:=aQ (cy je io br) q
theorem gi (N:L2.St->Hp->Prop) (rest: ∀σ H,N σ H->Bd X ss D σ H) (q:Pt X e σ H fun b H'=>if b=true then Bd X A { D with nx:=N } σ H' else N σ H'):Bd X (.If e A [] p5::ss) D σ H:=aQ (Es (cy je io br)) #[N,q,rest]
theorem uL (q:Bd X ss D σ H):Bd X [] (D.to X ss) σ H:=cc q
theorem dv (q:Pe X e σ H (uu R)) (he: ∀whole,isTrue e X.env whole=(do let v<-whole;standAt e.pos;holding [v] (truthy v)):=by intro _;rfl):Pt X e σ H R:=#[_,df dn he,q]
theorem jf (q:Pt X e σ H fun b H'=>R (!b) H'):Pt X (.UnaryOp .Not e p1) σ H R:=#[_,kU je,q]
theorem Bq {f:G8}(q:Pt X e σ H fun b H'=>if b=true then Pt X f σ H' R else R false H'):Pt X (.BoolOp .And [e,f] p1) σ H R:=#[_,(qd je (mh je)).pt,q]
theorem afh {f:G8}(q:Pt X e σ H fun b H'=>if b=true then R true H' else Pt X f σ H' R):Pt X (.BoolOp .Or [e,f] p1) σ H R:=#[_,(wM je (qi je)).pt,q]
theorem Xu {x:Fh}(q:Q (.str x) H):Pe X (.Constant (.str x) j p1) σ H Q:=#[_,dH,q]
theorem cM {x:Int}(q:Q (.int x) H):Pe X (.Constant (.int x) j p1) σ H Q:=#[_,aj,q]
theorem nZ (q:Q .HZ H):Pe X (.Constant .none j p1) σ H Q:=#[_,ZJ,q]
theorem cD {Q:EA V->Hp->Prop}(q:Q [] H):Pa X [] σ H Q:=#[_,ag,q]
theorem aO {Q:EA V->Hp->Prop}(q:Pe X e σ H fun v H1=>Pa X es σ H1 fun vs H2=>Q (v::vs) H2) (hs:Fb (e::es) X.env=[000]::Fb es X.env:=by rfl):Pa X (e::es) σ H Q:=#[_,aa dn rH hs,q]
theorem bv (i:E1) {x:Fh}(q:k8 i σ H Q) (hN:X.N[i]?=some x:=by rfl) (hv:oH X.env.scope x:=by exact Gx rfl) (hd:(x == [003])=false:=by decide) (RG:(x == ("__classdict__":Fh))=false:=by decide):Pe X (.Name x p1) σ H Q:=#[_,dU hN hv hd RG,q]
end
theorem Pt.mono {X:Cx}{e:G8}{σ:L2.St}{H:Hp}{Q Q':FR->Hp->Prop}(h:Pt X e σ H Q) (im: ∀b H,Q b H->Q' b H):Pt X e σ H Q':=by
 obtain⟨t,ht,q⟩:=h;refine#[fun σ H Q'=> ∃Q:FR->Hp->Prop,(∀b H,Q b H->Q' b H)/\t σ H Q,fun pins s σ H Q' I h=>?_,Q,im,q];obtain⟨Q,im,q⟩:=h;exact ca (ht pins s σ H Q I q) fun c s' ⟨H',I',q⟩=>#[H',I',im _ _ q]
theorem Pe.mono {X:Cx}{e:G8}{σ:L2.St}{H:Hp}{Q Q':VK}(h:Pe X e σ H Q) (im: ∀b H,Q b H->Q' b H):Pe X e σ H Q':=by
 obtain⟨t,ht,q⟩:=h;refine#[fun σ H Q'=> ∃Q:VK,(∀b H,Q b H->Q' b H)/\t σ H Q,fun pins s σ H Q' I h=>?_,Q,im,q];obtain⟨Q,im,q⟩:=h;exact ca (ht pins s σ H Q I q) fun c s' ⟨v,H',I',r,q⟩=>#[v,H',I',r,im _ _ q]
inductive aaf (I:E1->L2.St->Hp->Prop) (m:E1) (σ:L2.St) (H:Hp):Prop
 |mk (k:E1) (_:k<m) (_:I k σ H):aaf I m σ H
def _root_.L2.eG.lp (D:eG) (X:Cx) (ss:EA Stmt) (N:L2.St->Hp->Prop):eG:= { D.to X ss with nx:=N,ct:=N,bk:=(D.to X ss).nx }
inductive isApp (L:EJ) (R:Hp->Prop) (v:V) (H:Hp):Prop
 |mk (xs:EA V) (_:H L=some [049]) (_:xs.length<FE) (_:R (aF H L (.lst (xs++[v])))):isApp L R v H
section
variable {X:Cx}{ss A:EA Stmt}{D:eG}{σ:L2.St}{H:Hp}{e f c:G8}{es:EA G8}{Q:VK}{R:FR->Hp->Prop}{N:L2.St->Hp->Prop}{x y:Fh}{p0 p1 p2 p3 p4 p5:Pos}{i:E1}{L:EJ}{xs:EA V}{te:TE}
theorem fT (hp:Pc (model X.prog X.w) X.A X.env X.xe) (I:E1->L2.St->Hp->Prop) (m:E1) (h0:I m σ H) (hs: ∀m σ H,I m σ H->Pt X c σ H fun b H1=>if b=true then Bd X A (D.lp X ss (aaf I m)) σ H1 else Bd X ss D σ H1):Bd X (.While c A [] p5::ss) D σ H:=by
 refine aQ (iI hp je io) #[I,#[m,h0],fun m σ H h=>(hs m σ H h).mono fun b H1 z=>?_];cases b with
 |true=>exact#[aaf I m,fun σ' H' ⟨k,h1,h2⟩=>#[k,h1,h2],z]
 |false=>exact z
theorem gb (q:N σ H):Bd X [] (D.lp X ss N) σ H:=cc q
theorem A4 (q:D.bk σ H):Bd X (.Break p5::A) D σ H:=aQ CC q
theorem jH (i:E1) (hp:Pc (model X.prog X.w) X.A X.env X.xe) (nd:X.N.Nodup) (he:PE X e te) (hv: ∀R:VK,R (.ref L) H->te σ H R) (I:E1->L2.St->Hp->Prop) (h0:I 0 σ H) (hL: ∀j σ H,j<=xs.length->I j σ H->H L=some [049])
  (hs: ∀j x σ H,xs[j]?=some x->I j σ H->Bd X A (D.lp X ss (I (j+1))) (σ.set i (some x)) H) (hd: ∀σ H,I xs.length σ H->Bd X ss D σ H) (hc:X.calm=true:=by rfl) (h:Sl X i y:=by exact#[rfl,Gx rfl,rfl]) (hf: ∀x,Lk e X.env x=pure x:=by intro _;rfl):Bd X (.For (.Name y p0) e A [] p5::ss) D σ H:=
 aQ (uG hp hc (l8 he) (ki nd h.hi h.hx (.inl h.hf)) io hf) (hv _ #[L,rfl,#[_,cP.of (hL 0 σ H (Fs _) h0)],si I h0 (fun j σ H hj h=>cP.of (hL j σ H hj h)) hs hd])
theorem vt (q:Pa X es σ H (Ck Q)):Pe X (.List es p1) σ H Q:=#[_,iA rH,q]
theorem mf (q: ∀L,H L=none->Q (.ref L) (aF H L (.lst []))):Pe X (.List [] p1) σ H Q:=vt (cD #[Fs _,q])
theorem ij (hl:X.mg "len"=none) (hL:H L=some [049]) (he:PE X e te) (hv: ∀Q:VK,Q (.ref L) H->te σ H Q) (q:Q (.int xs.length) H) (hg:Gl X "len":=by rfl) (JS:Fb [e] X.env=[[000]]:=by rfl):Pe X (.Call (.Name "len" p1) [e] [] p2) σ H Q:=
 #[_,bD bL hg hl Hl (aa he ag JS) [01] [01] JS rfl,hv _ #[L,xs,rfl, .inl (cP.of hL),q]]
theorem cR {r:R2}(ho:kZ X (HL op) r) (q:Pe X e σ H fun x H1=>Pe X f σ H1 fun y H2=>r x y H2 (uu R)) (hm:behindInMarks op f=false:=by exact aM _):Pt X (.Compare e [op] [f] p1) σ H R:=#[_,a8 ho dn dn hm,q]
theorem Az {r:R2}(ho:kZ X (OW op) r) (q:Pe X e σ H fun x H1=>Pe X f σ H1 fun y H2=>r x y H2 Q):Pe X (.BinOp e op f p1) σ H Q:=#[_,b7 ho dn dn,q]
theorem iM (he:PE X e te) (hv: ∀R:VK,R (.ref L) H->te σ H R) (hL:H L=some [049]) (q:Pe X f σ H (isApp L fun H'=>Bd X ss D σ H')) (hb:HM e "append" X.env (eval e X.env)=eval e X.env:=by rfl) (JS:Fb [f] X.env=[(false,eval f X.env)]:=by rfl) (hp:ig p2 p4:=by rfl):
  Bd X (.Expr (.Call (.Attribute e "append" p2) [f] [] p4) p5::ss) D σ H:=by
 refine bw #[_,wm Iw J4 J5 iT he (aa dn ag JS) hb (by rw[JS];rfl) hp JS rfl,hv _ #[.inl #[rfl,_,cP.of hL],q.mono fun v H1 z=>?_]];obtain⟨xs',h1,h2,h3⟩:=z;exact#[L,xs',v,rfl,rfl,h1,h2,h3]
end
set_option cleanup.letToHave false in
theorem okL {P:Fz}{w:Ga}{K:EF}{mg:Fh->ET EH}{base:Gn}{x Gz:Fh}{st:Stmt}{f:EJ}{fd:FL}{N ps:EA Fh}{k:E1}{sp:Sp}(F:oJ K x Gz st f fd)
  (S:az N ps (af st)) (len: ∀vs H Q E,sp vs H Q E->vs.length=ps.length)
  (Jc: ∀(Gp:EH) (A:Gk) (outer:EA Env) (s:EM) (H:Hp) (vs:EA V) (Q:VK) (E:XK),bW k (A.deeper [011])->sp vs H Q E->
   let X:=fg (fW P w) P w K mg base N Gz (af st) f Gp A outer s H E
   let D:eG:= { nx:=fun _ H'=>Q .HZ H',rt:=Q }
   Bd X (a7 st) D (start N vs) H):bS P w K mg base (fW P w) (k+1) f fd ps sp:=fO F S len Jc
section
variable {H:Hp}{Q:VK}{R:FR->Hp->Prop}{sp:Sp}{CX:pX}{E:XK}
theorem cr (q:Pt X e σ H fun b H'=>if b=true then Bd X A D σ H' else Bd X B D σ H'):Bd X [.If e A B p5] D σ H:=eF (cy je io io) q
theorem aag {Z:Prop}(Tb:Z->Bd X B D σ H) (q:(Z->Bd X B D σ H)->Pt X e σ H fun b H'=>if b=true then Bd X A D σ H' else Bd X B D σ H'):Bd X [.If e A B p5] D σ H:=cr (q Tb)
theorem fh (q:Pe X e σ H fun _ H'=>D.nx σ H') (hs:K7 e none p5.line X.env=pure false):Bd X [.Expr e p5] D σ H:=eF (bi dn hs) q
theorem cn (q:Pe X e σ H (dL X.K y Q)) (hb:HM e y X.env (eval e X.env)=eval e X.env):Pe X (.Attribute e y p1) σ H Q:=#[_,ak dn hb,q]
theorem kO (q:Pe X e σ H fun v H1=>Pe X f σ H1 fun u H2=>Ay X.K v u H2 Q) (hs:rc f):Pe X (.Subscript e f p1) σ H Q:=#[_,cJ bA dn dn hs,q]
theorem bI (q:Pa X (e::es) σ H fun vs H1=>sp (vs++[]) H1 Q E) (G:bS X.prog X.w X.K X.mg X.base CX k fa fd ps sp) (hr:bW k X.A) (d:CD X.K X.mg x fa fd ps) (up:dh CX X E) (hg:Gl X x:=by rfl) (hx:(x == [003])=false:=by decide) (he:Fb (e::es) X.env=[000]::Fb es X.env:=by rfl) (Ma:(Ie p4 [034]).any (·.1)=false:=by rfl):
  Pe X (.Call (.Name x p1) (e::es) [] p4) σ H Q:=#[_,aL G hr hg d up rH hx he Ma,q]
theorem jg (q:Pe X e σ H fun v H1=>Pe X f σ H1 fun u H2=> ∃i j,v= .int i/\u= .int j/\R (decide (i=j)) H2):Pt X (.Compare e [.Eq] [f] p1) σ H R:=cR b8 (q.mono fun v H1 q=>q.mono fun u H2 ⟨i,j,h1,h2,q'⟩=>by
 subst h1 h2;exact#[rfl,_,rfl,by rw[show decide (V.int i=V.int j)=decide (i=j) from decide_eq_decide.mpr #[fun y=>V.int.inj y,fun y=>by rw[y]]];exact q']) (aM _)
end
theorem dD {c:Prop} [Decidable c] {A B:Prop}(h1:c->A) (h2: ¬c->B):if decide c=true then A else B:=by
 by_cases h:c
 ·rw[EL (Gb h)];exact h1 h
 ·rw[EI (by rw[FA h];exact EE)];exact h2 h
abbrev k9:=EJ×HO
structure Ow (B:Hp) (L:EA k9) (H:Hp):Prop where
 same:a9 B H
 at_: ∀x∈L,H x.1=some x.2/\B x.1=none
 nd:(L.map fun x:k9=>x.1).Nodup
section
variable {B H H':Hp}
theorem Ow.get (O:Ow B L H) (i:E1) {x:k9}(h:L[i]?=some x):H x.1=some x.2:=(O.at_ x (Gs h)).1
theorem Ow.grow (O:Ow B L H) (k:a9 H H'):Ow B L H':=#[fun b o e=>k b o (O.same b o e),fun x h=>#[k _ _ (O.at_ x h).1,(O.at_ x h).2],O.nd]
theorem Ow.sub (O:Ow B L H) (h:L'.Sublist L):Ow B L' H:=#[O.same,fun x z=>O.at_ x (h.subset z),O.nd.sublist (h.map _)]
theorem Ow.perm (O:Ow B L H) (h:L.Perm L'):Ow B L' H:=#[O.same,fun x z=>O.at_ x (h.mem_iff.mpr z),(h.map _).nodup_iff.mp O.nd]
theorem Ow.set (O:Ow B (L1++(p,o)::L2) H) (e:H' p=some o') (k: ∀b u,H b=some u->b≠p->H' b=some u):Ow B (L1++(p,o')::L2) H':=by
 have nd:=O.nd;rw[GG,Fe] at nd
 have z:=KO.mp nd
 have bp:=(O.at_ (p,o) (GI _ EO)).2;refine#[fun b u h=>k b u (O.same b u h) fun z=>(by rw[z,bp] at h;cases h),fun x h=>?_,by rw[GG,Fe];exact nd]
 rcases Fp.mp h with h|h
 ·have h1:=O.at_ x (Lu _ h)
  exact#[k _ _ h1.1 fun y=>z.2.2 x.1 (Kc h) p EO y,h1.2]
 ·rcases EW.mp h with h|h
  ·rw[h];exact#[e,bp]
  ·have h1:=O.at_ x (GI _ (EN _ h))
   exact#[k _ _ h1.1 fun y=>(FI.mp z.2.1).1 (by have h3:=Kc (f:=fun x:k9=>x.1) h;rw[y] at h3;exact h3),h1.2]
theorem mx: ∀b u,H b=some u->b≠p->aF H p o b=some u:=fun b u e n=>by rw[ac n];exact e
theorem Ow.put (O:Ow B (L1++(p,o)::L2) H):Ow B (L1++(p,o')::L2) (aF H p o'):=O.set ae mx
theorem Ow.adds (O:Ow B L H) (k:a9 H H') (h: ∀x∈N,H x.1=none/\H' x.1=some x.2) (nd:(N.map fun x:k9=>x.1).Nodup):Ow B (N++L) H':=by
 have hB: ∀ {b:EJ},H b=none->B b=none:=fun {b} e=>by
  cases z:B b with
  |none=>rfl
  |some o=>rw[O.same b o z] at e;cases e
 refine#[fun b o e=>k b o (O.same b o e),fun x z=>?_,?_]
 ·rcases Fp.mp z with z|z
  ·exact#[(h x z).2,hB (h x z).1]
  ·exact#[k _ _ (O.at_ x z).1,(O.at_ x z).2]
 ·rw[GG]
  refine KO.mpr #[nd,O.nd,fun a ha b hb z=>?_];obtain⟨x,hx,rfl⟩:=KQ.mp ha;obtain⟨y,hy,rfl⟩:=KQ.mp hb;have:=(O.at_ y hy).1;rw[<-z,(h x hx).1] at this;cases this
end
abbrev cK.O {K:EF}{mg:Fh->ET EH}{n:Fh}{st:Stmt}{ps:EA Fh}{f:EJ}{fd:FL}(_:cK K mg n st ps f fd) (P:Fz) (w:Ga) (base:Gn) (k:E1) (sp:Sp):Prop:=bS P w K mg base (fW P w) k f fd ps sp
abbrev cK.U {K:EF}{mg:Fh->ET EH}{n:Fh}{st:Stmt}{ps:EA Fh}{f:EJ}{fd:FL}(_:cK K mg n st ps f fd) (P:Fz) (w:Ga) (base:Gn) (k:E1) (sp:Sp):Prop:=bS P w K mg base wX k f fd ps sp
abbrev eM.O {K:EF}{C:EJ}{n q:Fh}{st:Stmt}{ps:EA Fh}{f:EJ}{fd:FL}(_:eM K C n q st ps f fd) (P:Fz) (w:Ga) (mg:Fh->ET EH) (base:Gn) (k:E1) (sp:Sp):Prop:=bS P w K mg base (fW P w) k f fd ps sp
abbrev eM.U {K:EF}{C:EJ}{n q:Fh}{st:Stmt}{ps:EA Fh}{f:EJ}{fd:FL}(_:eM K C n q st ps f fd) (P:Fz) (w:Ga) (mg:Fh->ET EH) (base:Gn) (k:E1) (sp:Sp):Prop:=bS P w K mg base wX k f fd ps sp
abbrev cA (s:Stmt) (l:EA Fh):Prop:=az l l (af s)
theorem afi:cA abc ["self","worth"]:=aw [00]
theorem afj:cA abd ["self","name"]:=aw [00]
theorem afk:cA abe ["self","name","arguments"]:=aw [00]
theorem afl:cA abf ["self","sign","operand"]:=aw [00]
theorem afm:cA abg ["self","strength","operands","signs"]:=aw [00]
theorem afn:cA abh ["self","condition","chosen","otherwise"]:=aw [00]
theorem afo:cA abi ["self","name","first","last","body"]:=aw [00]
theorem afp:cA abj ["self","name","exp"]:=aw [00]
theorem afq:cA abk ["self","name","first","last","statements"]:=aw [00]
theorem afr:cA abl ["self","condition","statements","else_statements"]:=aw [00]
theorem afs:cA abm ["self","side","zone","quarter","price","to_price","amount"]:=aw [00]
theorem aft:cA abn ["self","name","exp"]:=aw [00]
theorem afu:cA abo ["self","name","side","zone","price","amounts","under","group"]:=aw [00]
theorem afv:cA abp ["self","name","exp"]:=aw [00]
theorem afw:cA abq ["self","name","parameters","exp"]:=aw [00]
theorem afx:cA abr ["self","name","statements"]:=aw [00]
theorem afy:cA abt ["self","desk","zone","quarter","side","low","high","amount"]:=aw [00]
theorem afz:cA abu ["self","desk","zone","side","price","group","parent","amounts"]:=aw [00]
theorem aka:cA s_K ["word"]:=aw [00]
theorem akb:cA s_o ["self","number"]:=aw [00]
theorem afA:cA abv ["self"]:=aw [00]
theorem akc:cA s_1 ["self","kind","line","column"]:=aw [00]
theorem akd:cA s_L ["self"]:=aw [00]
theorem ake:cA s_M ["self"]:=aw [00]
theorem afB:cA abw ["self"]:=aw [00]
theorem afC:cA abx ["self"]:=aw [00]
theorem afD:cA aby ["self"]:=aw [00]
theorem afE:cA abz ["self"]:=aw [00]
theorem akf:cA s_N ["sign","right"]:=aw [00]
theorem akg:cA s_O ["sign","left","right"]:=aw [00]
theorem akh:cA s_P ["sign","left","right"]:=aw [00]
theorem afF:cA abA ["sign","number"]:=aw [00]
theorem afG:cA abB ["name","numbers"]:=aw [00]
theorem afH:cA abC ["strength","number"]:=aw [00]
theorem aki:cA s_Q ["strength"]:=aw [00]
theorem afI:cA abD ["self","exp"]:=aw [00]
theorem afJ:cA abE ["self"]:=aw [00]
theorem afK:cA abF ["self"]:=aw [00]
theorem afL:cA abG ["self","name","value"]:=aw [00]
theorem afM:cA abH ["self","name"]:=aw [00]
theorem afN:cA abI ["self","exp"]:=aw [00]
theorem afO:cA abJ ["self","value"]:=aw [00]
theorem afP:cA abK ["self","exp"]:=aw [00]
theorem akj:cA s_2 ["worker","exp","parts"]:=aw [00]
theorem akk:az ["worker","call","parts","wanted","function"] ["worker","call","parts"] (af s_3):=aw [00]
theorem akl:cA s_4 ["worker","unary","parts"]:=aw [00]
theorem akm:cA s_5 ["worker","chain","parts"]:=aw [00]
theorem akn:cA s_6 ["worker","chain","parts"]:=aw [00]
theorem ako:az ["worker","chain","parts","right"] ["worker","chain","parts"] (af s_7):=aw [00]
theorem afQ:cA abL ["sign","left","right"]:=aw [00]
theorem akp:cA s_w ["value"]:=aw [00]
theorem akq:cA s_8 ["worker","choice","parts"]:=aw [00]
theorem akr:cA s_9 ["worker","summed","parts"]:=aw [00]
theorem afR:az ["worker","summed","parts","turns","added"] ["worker","summed","parts"] (af abM):=aw [00]
theorem afS:cA abN ["self","zones","quarters","low","high"]:=aw [00]
theorem afT:cA abO ["self","market"]:=aw [00]
theorem aah:az ["market","tops","expansion","top"] ["market","tops"] (af s_R):=aw [00]
theorem afU:cA abP ["expansion","top"]:=aw [00]
theorem aks:cA s_x ["worker","given"]:=aw [00]
theorem afV:az ["expansion","statements","statement"] ["expansion","statements"] (af s_k):=aw [00]
theorem akt:cA s_S ["expansion","statement"]:=aw [00]
theorem aai:az ["expansion","loop","worker","turn","last"] ["expansion","loop"] (af s_y):=aw [00]
theorem afW:cA s_B ["expansion","condition"]:=aw [00]
theorem afX:cA abQ ["number","least","most"]:=aw [00]
theorem Xv:az ["expansion","step","worker","zone","quarter","low","high","amount","market","side"] ["expansion","step"] (af abR):=aw [00]
theorem aku:cA s_T ["expansion","order"]:=aw [00]
theorem Xw:az ["expansion","block","worker","zone","price","amounts","group","amount","parent","side"] ["expansion","block"] (af abS):=aw [00]
theorem afY:az ["expansion","amounts","found","quarter"] ["expansion","amounts"] (af s_C):=aw [00]
theorem afZ:cA abT ["expansion","block"]:=aw [00]
theorem af0:cA abU ["expansion","name","order"]:=aw [00]
theorem akv:cA s_D ["self","kind","value","line","column"]:=aw [00]
theorem akw:cA s_e ["byte"]:=aw [00]
theorem akx:cA s_h ["byte"]:=aw [00]
theorem af1:cA s_E ["text","at"]:=aw [00]
theorem af2:cA s_F ["text","at"]:=aw [00]
theorem af3:cA s_G ["text","at"]:=aw [00]
theorem af4:az ["text","at","pair"] ["text","at"] (af s_H):=aw [00]
theorem af5:az ["text","at","end","glued"] ["text","at","end"] (af s_I):=aw [00]
theorem Ef:az ["part","worth","byte"] ["part"] (af s_r):=aw [00]
theorem aaj:az ["kind","part","byte"] ["kind","part"] (af s_s):=aw [00]
theorem lU:az ["text","found","line","line_start","at","end","kind"] ["text"] (af s_i):=aw [00]
theorem af6:cA abV ["self","tokens"]:=aw [00]
theorem af7:az ["self","token"] ["self"] (af s_a):=aw [00]
theorem af8:az ["self","kind","token"] ["self","kind"] (af s_b):=aw [00]
theorem aky:cA s_p ["self","value"]:=aw [00]
theorem af9:cA abW ["self"]:=aw [00]
theorem aga:cA abX ["self"]:=aw [00]
theorem agb:az ["self","token"] ["self"] (af s_U):=aw [00]
theorem agc:cA abY ["self"]:=aw [00]
theorem agd:az ["self","token"] ["self"] (af s_t):=aw [00]
theorem age:cA abZ ["self","value"]:=aw [00]
theorem agf:cA ab0 ["self","value"]:=aw [00]
theorem akz:cA s_z ["self"]:=aw [00]
theorem Xx:az ["self","name"] ["self"] (af ab1):=aw [00]
theorem agg:cA ab2 ["self","given"]:=aw [00]
theorem agh:cA ab3 ["self","name"]:=aw [00]
theorem agi:cA ab4 ["self","name"]:=aw [00]
theorem akA:cA s_f ["reader","depth"]:=aw [00]
theorem agj:cA s_c ["reader","depth"]:=aw [00]
theorem agk:az ["reader","depth","inner","condition","chosen"] ["reader","depth"] (af ab5):=aw [00]
theorem agl:az ["reader","depth","strength","operands","signs"] ["reader","depth","strength"] (af s_u):=aw [00]
theorem aak:az ["reader","depth","inner","sign"] ["reader","depth"] (af s_l):=aw [00]
theorem agm:az ["reader","depth","name"] ["reader","depth"] (af ab6):=aw [00]
theorem agn:az ["reader","depth","inner","exp"] ["reader","depth"] (af ab7):=aw [00]
theorem ago:az ["reader","depth","inner","name","first","last","body"] ["reader","depth"] (af ab8):=aw [00]
theorem akB:az ["reader","depth","inner","name","wanted","arguments"] ["reader","depth"] (af s_V):=aw [00]
theorem agp:cA ab9 ["reader","sign"]:=aw [00]
theorem aal:az ["text","reader","tops"] ["text"] (af s_j):=aw [00]
theorem agq:cA aca ["reader"]:=aw [00]
theorem agr:az ["reader","name","exp"] ["reader"] (af acb):=aw [00]
theorem akC:az ["reader","exp"] ["reader"] (af s_q):=aw [00]
theorem ags:az ["reader","name","parameters","exp","parameter"] ["reader"] (af acd):=aw [00]
theorem agt:az ["reader","function","parameters"] ["reader","function"] (af ace):=aw [00]
theorem agu:az ["reader","function","name"] ["reader","function"] (af acf):=aw [00]
theorem agv:az ["reader","name"] ["reader"] (af acg):=aw [00]
theorem agw:az ["reader","depth","statements","statement"] ["reader","depth"] (af s_m):=aw [00]
theorem agx:cA ach ["reader","depth"]:=aw [00]
theorem akD:az ["reader","name","exp"] ["reader"] (af s_W):=aw [00]
theorem agy:cA aci ["reader","depth"]:=aw [00]
theorem agz:az ["reader","depth","inner","name","first","last","statements"] ["reader","depth"] (af acj):=aw [00]
theorem agA:az ["reader","depth","inner","condition","statements","else_statements"] ["reader","depth"] (af ack):=aw [00]
theorem agB:cA acm ["reader"]:=aw [00]
theorem akE:cA s_n ["reader","word"]:=aw [00]
theorem akF:cA s_A ["reader","word"]:=aw [00]
theorem akG:az ["reader","side","zone","quarter","price","to_price","amount"] ["reader"] (af s_X):=aw [00]
theorem akH:az ["reader","name","side","zone","price","amounts","under","group"] ["reader"] (af s_Y):=aw [00]
theorem agC:az ["reader","name","exp"] ["reader"] (af acn):=aw [00]
theorem agD:cA aco ["reader"]:=aw [00]
theorem aam:az ["text","byte"] ["text"] (af s_J):=aw [00]
theorem akI:cA s_Z ["price"]:=aw [00]
theorem Xy:az ["zones","quarters","low","high","counts"] ["zones","quarters","low","high"] (af acp):=aw [00]
theorem akJ:cA s_g ["as_told"]:=aw [00]
theorem agE:cA acq ["zones","quarters","low","high","text"]:=aw [00]
theorem aan:az ["zones","quarters","low","high","text","expansion","refusal"] ["zones","quarters","low","high","text"] (af s_d):=aw [00]
variable {P:Fz}{w:Ga}{K:EF}{mg:Fh->ET EH}{base:Gn}{a:bf}
def jG (bs:EC):EA V:=bs.map fun c=>V.int (nb c)
theorem fF (bs:EC):(jG bs).length=bs.length:=by unfold jG;rw[EY]
theorem fz {bs:EC}{i:E1}{c:Io}(h:bs[i]?=some c):(jG bs)[i]?=some (V.int (nb c)):=by unfold jG;rw[FQ,h];rfl
theorem m9 {p:Io->Prop}(h: ∀n:E1,n<256->p (NI n)) (c:Io):p c:=by
 have:=h c.toNat (Wa c)
 rwa [UC] at this
theorem tz (c:Io):Ha c=(decide ((48:Int)<=nb c)&&decide (nb c<=57)):=m9 (p:=fun c=>Ha c=(decide ((48:Int)<=nb c)&&decide (nb c<=57))) [00] c
theorem yg (c:Io):JH c=((decide ((65:Int)<=nb c)&&decide (nb c<=90))||((decide ((97:Int)<=nb c)&&decide (nb c<=122))||decide (nb c=95))):=
 m9 (p:=fun c=>JH c=((decide ((65:Int)<=nb c)&&decide (nb c<=90))||((decide ((97:Int)<=nb c)&&decide (nb c<=122))||decide (nb c=95)))) [00] c
inductive uJ (p:Io->FR) (vs:EA V) (H:Hp) (Q:VK) (_E:XK):Prop
 |mk (c:Io) (_:vs=[.int (nb c)]) (_:Q (.bl (p c)) H):uJ p vs H Q _E
inductive wO (K:EF) (p:Io->FR) (vs:EA V) (H:Hp) (Q:VK) (_E:XK):Prop
 |mk (l:EJ) (bs:EC) (i:E1) (_:vs=[.ref l, .int i]) (_:cP K H l (jG bs)) (_:i<=bs.length) (_:Q (.int (aW p bs i:E1)) H):wO K p vs H Q _E
theorem A7 (c:Io):eO c=!decide (V.int (nb c)=V.int 10):=m9 (p:=fun c=>eO c=!decide (V.int (nb c)=V.int 10)) [00] c
theorem jF {i:E1}{lo hi n:Int}{σ:St}{H:Hp}{Q:VK}(hv:σ[i]?=some (some (.int n))) (q:Q (.bl (decide (lo<=n)&&decide (n<=hi))) H):
  uT (zb fun i j=> .bl (decide (i<=j))) (zb fun i j=> .bl (decide (i<=j))) (tC (.int lo)) (k8 i) (tC (.int hi)) σ H Q:=by
 refine m6 [029] hv;by_cases h1:lo<=n
 ·rw[EL (Gb h1)]
  rw[Gb h1,IK] at q;exact#[_,_,rfl,rfl,q]
 ·rw[EI (by rw[FA h1];exact EE)]
  rw[FA h1,Iy] at q;exact q
theorem cj:decide (V.int i=V.int j)=decide (i=j):=decide_eq_decide.mpr #[fun y=>V.int.inj y,fun y=>by rw[y]]
theorem aP {A B:Prop}(h1:b=true->A) (h2:b=false->B):if b=true then A else B:=by
 cases b with
 |true=>exact cf (h1 rfl)
 |false=>exact bK (h2 rfl)
theorem Dr (T:aU K mg a):T.d_e.U P w base 1 (uJ Ha):=by
 refine T.d_e.F.ok akw [03] [02];obtain⟨c,rfl,q⟩:=h;refine#[_,(ah (aJ (iy eP eP aj (pv 0) aj))),?_];rw[tz] at q;exact jF rfl q
theorem aao (T:aU K mg a):T.d_h.U P w base 1 (uJ JH):=by
 refine T.d_h.F.ok akx [03] [02];obtain⟨c,rfl,q⟩:=h;refine#[_,(ah (aJ (Cc (iy eP eP aj (pv 0) aj) (Cc (iy eP eP aj (pv 0) aj) (jx (b9 b8 (pv 0) aj (aM _))))))),?_];rw[yg] at q;refine jF rfl #[_,rfl,aP [015] fun e=>?_]
 ·rw[e,Sq] at q
  exact q
 ·rw[e,Rr] at q
  refine jF rfl #[_,rfl,aP [015] fun e=>?_]
  ·rw[e,Sq] at q
   exact q
  ·rw[e,Rr] at q
   refine#[rfl,?_];rw[cj];exact q
theorem akK (T:aU K mg a):T.d_E.U P w base 1 (wO K eO):=by
 refine T.d_E.F.ok af1 [03] [02];obtain⟨l,bs,i,rfl,hS,hi,q⟩:=h;refine#[_,(ax (iI K9 (qd (a8 jY (pv 1) [058] (aM _)) (mh (a8 o8 [045] (aR (by rfl) T.PD) (aM _)))).pt (ah (kG (i:=1) af1.nd rfl (Gx rfl) aj kT)))
   (ah (aJ (pv 1)))),?_]
 refine#[fun m σ H'=> ∃j:E1,m=bs.length-j/\σ=[some (.ref l),some (.int (j:E1))]/\H'=H/\j<=bs.length/\aW eO bs j=aW eO bs i,#[_,i,rfl,rfl,rfl,hi,rfl],?_];rintro m σ H' ⟨j,rfl,rfl,rfl,hj,ej⟩;refine [067];rw[fF];rw[03]
 ·have lt:j<bs.length:=by have:=Ft e;lia
  obtain⟨c,hc⟩: ∃c,bs[j]?=some c:=#[_,GU lt];refine#[_,_,_,_,rfl,rfl,hS,bo (fz hc),rfl,_,rfl,?_];have st:eO c=!decide (V.int (nb c)=V.int 10):=A7 c;refine aP (fun e2=>?_) fun e2=>?_
  ·refine#[fun σ' Ry=>σ'=[some (.ref l),some (.int ((j+1:E1)))]/\Ry=H',?_,_,rfl,_,_,rfl,rfl,rfl,rfl]
   rintro σ' Ry ⟨rfl,rfl⟩;exact#[_,by lia,j+1,rfl,rfl,rfl,lt,by rw[<-ej,kD hc (st.trans e2)]]
  ·refine ?_
   rw[<-ej,ow hc (st.trans e2)] at q;exact q
 ·have ge:bs.length<=j:=by have:=Fw e;lia
  refine bK ?_;rw[<-ej,kL ge] at q;exact q
theorem akL (T:aU K mg a):T.d_F.U P w base 2 (wO K bR):=by
 have G_h:=aao (P:=P) (w:=w) (base:=base) T
 have G_e:=Dr (P:=P) (w:=w) (base:=base) T;refine T.d_F.F.ok af2 [03] [02];obtain⟨l,bs,i,rfl,hS,hi,q⟩:=h;refine#[_,(ax (iI K9 (qd (a8 jY (pv 1) [058] (aM _)) (mh (wM (df (aL G_h hr (by rfl) T.d_h.c aY (aa [045] ag))) (qi (df (aL G_e hr (by rfl) T.d_e.c aY (aa [045] ag))))).pt)).pt (ah (kG (i:=1) af2.nd rfl (Gx rfl) aj kT)))
   (ah (aJ (pv 1)))),?_]
 refine#[fun m σ H'=> ∃j:E1,m=bs.length-j/\σ=[some (.ref l),some (.int (j:E1))]/\H'=H/\j<=bs.length/\aW bR bs j=aW bR bs i,#[_,i,rfl,rfl,rfl,hi,rfl],?_];rintro m σ H' ⟨j,rfl,rfl,rfl,hj,ej⟩;refine [067];rw[fF];rw[03]
 ·have lt:j<bs.length:=by have:=Ft e;lia
  obtain⟨c,hc⟩: ∃c,bs[j]?=some c:=#[_,GU lt];have go:bR c=true-> ∃N:St->Hp->Prop,(∀σ' Ry,N σ' Ry-> ∃m',m'<bs.length-j/\ ∃j1:E1,m'=bs.length-j1/\σ'=[some (.ref l),some (.int (j1:E1))]/\Ry=H'/\j1<=bs.length/\aW bR bs j1=aW bR bs i)/\
    N [some (.ref l),some (.int ((j+1:E1)))] H':=fun y=>by
   refine#[fun σ' Ry=>σ'=[some (.ref l),some (.int ((j+1:E1)))]/\Ry=H',?_,rfl,rfl];rintro σ' Ry ⟨rfl,rfl⟩;exact#[_,by lia,j+1,rfl,rfl,rfl,lt,by rw[<-ej,kD hc y]]
  refine [080]
  ·obtain⟨N,n1,n2⟩:=go (by unfold bR;rw[e2];rfl)
   exact cf #[N,n1,_,rfl,_,_,rfl,rfl,n2]
  ·refine#[_,_,_,_,rfl,rfl,hS,bo (fz hc),c,rfl,_,rfl,aP (fun e3=>?_) fun e3=>?_]
   ·obtain⟨N,n1,n2⟩:=go (by unfold bR;rw[e3,Pk])
    exact#[N,n1,_,rfl,_,_,rfl,rfl,n2]
   ·refine ?_
    rw[<-ej,ow hc (by unfold bR;rw[e2,e3];rfl)] at q;exact q
 ·have ge:bs.length<=j:=by have:=Fw e;lia
  refine bK ?_;rw[<-ej,kL ge] at q;exact q
theorem akM (T:aU K mg a):T.d_G.U P w base 2 (wO K Ha):=by
 have G_e:=Dr (P:=P) (w:=w) (base:=base) T;refine T.d_G.F.ok af3 [03] [02];obtain⟨l,bs,i,rfl,hS,hi,q⟩:=h;refine#[_,(ax (iI K9 (qd (a8 jY (pv 1) [058] (aM _)) (mh (df (aL G_e hr (by rfl) T.d_e.c aY (aa [045] ag))))).pt (ah (kG (i:=1) af3.nd rfl (Gx rfl) aj kT)))
   (ah (aJ (pv 1)))),?_]
 refine#[fun m σ H'=> ∃j:E1,m=bs.length-j/\σ=[some (.ref l),some (.int (j:E1))]/\H'=H/\j<=bs.length/\aW Ha bs j=aW Ha bs i,#[_,i,rfl,rfl,rfl,hi,rfl],?_];rintro m σ H' ⟨j,rfl,rfl,rfl,hj,ej⟩;refine [067];rw[fF];rw[03]
 ·have lt:j<bs.length:=by have:=Ft e;lia
  obtain⟨c,hc⟩: ∃c,bs[j]?=some c:=#[_,GU lt];refine [080]
  ·refine#[fun σ' Ry=>σ'=[some (.ref l),some (.int ((j+1:E1)))]/\Ry=H',?_,_,rfl,_,_,rfl,rfl,rfl,rfl]
   rintro σ' Ry ⟨rfl,rfl⟩;exact#[_,by lia,j+1,rfl,rfl,rfl,lt,by rw[<-ej,kD hc e2]]
  ·refine ?_
   rw[<-ej,ow hc e2] at q;exact q
 ·have ge:bs.length<=j:=by have:=Fw e;lia
  refine bK ?_;rw[<-ej,kL ge] at q;exact q
theorem iK (hg:Gl X x) (hm:X.mg x=some (.ref p)) (hd:(x == [003])=false:=by decide):PE X (.Name x pos) (tC (.ref p)):=qg hg hm rfl hd
theorem n6 {bs:EC}{i j:E1} :uC (jG bs) (some (i:Int)) (some (j:Int))=jG (part bs i j):=by
 unfold uC part;rw[HT.TU,HT.TU,fF];unfold jG;rw[<-EA.map_drop,<-EA.map_take]
 congr 1
 by_cases hi:i<=bs.length
 ·rw[WW hi]
  by_cases hj:j<=bs.length
  ·rw[WW hj]
  ·rw[V5 (show bs.length<=j by lia),II (by rw[Lg];lia),II (by rw[Lg];lia)]
 ·rw[V5 (show bs.length<=i by lia),JE (E6 _),JE (show bs.length<=i by lia)]
  simp
theorem aap (h:kb x=kb y):x=y:=P4.mp (UP (W7 h))
theorem DW {x y:EC}(h:x.map kb=y.map kb):x=y:=(UA fun _ _ z=>aap z).mp h
theorem aaq (w:EC):(w.map kb).map kV=jG w:=by unfold jG;rw[Jg];rfl
theorem xl (w:EC): ∀L:EA EC,bN (L.map fun s=>(s.map kb,V.str (dG s))) (w.map kb)=if w∈L then some (V.str (dG w)) else none
 |[]=>by simp [bN]
 |s::L=>by
  rw[Fe];by_cases e:s=w
  ·subst e
   rw[cg rfl,EL EO]
  ·rw[b4 (fun z=>e (DW z)),xl w L]
   by_cases m:w∈L
   ·rw[EL m,EL (EN _ m)]
   ·rw[EI m,EI fun z=>(EW.mp z).elim (fun y=>e y.symm) m]
theorem sL (w:EC):bN dW (w.map kb)=if w∈F6 then some (V.str (dG w)) else none:=xl w F6
theorem iR (w:EC):(bN dW (w.map kb)).isSome=decide (w∈F6):=by
 rw[sL];by_cases m:w∈F6
 ·rw[EL m,Gb m];rfl
 ·rw[EI m,FA m];rfl
def eU (bs:EC) (i:E1) (c:Io):E1:=if JH c=true then aW bR bs i else if Ha c=true then aW Ha bs i else bj bs i
inductive sE (K:EF) (vs:EA V) (H:Hp) (Q:VK) (_E:XK):Prop
 |mk (l:EJ) (bs:EC) (i:E1) (c:Io) (_:vs=[.ref l, .int i]) (_:cP K H l (jG bs)) (_:bs[i]?=some c) (_: ∀H',a9 H H'->Q (.int (eU bs i c:E1)) H'):sE K vs H Q _E
theorem b3 {H:Hp}(h:H p=Ss):a9 H (aF H p o):=fun b u e=>by rw[ac (ai e h)];exact e
theorem akN (T:aU K mg a) (kS:zt P w K a.Jy dW):T.d_H.U P w base 3 (sE K):=by
 have G_h:=aao (P:=P) (w:=w) (base:=base) T
 have G_e:=Dr (P:=P) (w:=w) (base:=base) T
 have G_F:=akL (P:=P) (w:=w) (base:=base) T
 have G_G:=akM (P:=P) (w:=w) (base:=base) T;refine T.d_H.F.ok af4 [03] [02];obtain⟨l,bs,i,c,rfl,hS,hc,q⟩:=h
 have hi:i<=bs.length:=J6 (FF.mp hc).1;refine#[_,(ax (cy (df (aL G_h [07] (by rfl) T.d_h.c aY (aa [045] ag))) (ah (aJ (aL G_F [07] (by rfl) T.d_F.c aY (aa (pv 0) [031])))) br)
   (ax (cy (df (aL G_e [07] (by rfl) T.d_e.c aY (aa [045] ag))) (ah (aJ (aL G_G [07] (by rfl) T.d_G.c aY (aa (pv 0) [031])))) br)
   (ax (cG (i:=2) af4.nd rfl (Gx rfl) (iY gu (by rfl) T.Ri LY (aa (og qP (pv 0) (i4 (pv 1)) (i4 (b7 dX (pv 1) aj))) ag)))
   (ah (aJ (dB (fB (xu (dj hr) (pv 2) (iK (by rfl) T.Rg))) (b7 dX (pv 1) (bD bL (by rfl) T.JP Hl [079])) (b7 dX (pv 1) aj))))))),?_]
 refine#[_,_,_,_,rfl,rfl,hS,bo (fz hc),c,rfl,_,rfl,aP [015] fun e=>?_]
 ·refine#[l,bs,i,rfl,hS,hi,?_]
  have z:=q H (a9.refl H);unfold eU at z;rw[EL e] at z;exact z
 ·refine [080]
  ·refine#[l,bs,i,rfl,hS,hi,?_]
   have z:=q H (a9.refl H);unfold eU at z;rw[EI (by rw[e];exact EE),EL e2] at z;exact z
  ·refine#[_,rfl,_,_,rfl,rfl,_,rfl,_,_,rfl,hS,fun p hp=>?_]
   refine#[p,_,rfl, .inl #[cP.of ae,fun t ht=>?_]];have cut:uC (jG bs) (some (i:Int)) (some ((i:Int)+2))=jG (part bs i (i+2)):=n6 (j:=i+2);rw[cut] at ht ⊢;have sm:a9 H (aF (aF H p (.lst (jG (part bs i (i+2))))) t (.tup (jG (part bs i (i+2))))):=(b3 hp).trans (b3 ht);have z:=q _ sm;unfold eU at z;rw[EI (by rw[e];exact EE),EI (by rw[e2];exact EE)] at z;unfold bj at z;refine#[a.Jy,t,(part bs i (i+2)).map kb,dW,rfl,kS,rfl,by rw[ae,aaq],_,rfl,aP (fun e3=>?_) fun e3=>?_]
   ·rw[iR] at e3
    rw[EL (Ft e3)] at z;refine#[_,_,rfl, .inr (rh.of ae),_,_,rfl,rfl,?_];rw[fF];exact z
   ·rw[iR] at e3
    rw[EI (Fw e3)] at z;exact#[_,_,rfl,rfl,z]
def iZ (bs:EC) (i e:E1) (c:Io):Int:=if JH c=true then(if e-i<=24 then 0 else 4) else if Ha c=true then(if 18<e-i\/pJ bs e=true then 4 else 1) else if part bs i e∈F6 then 2 else 4
inductive pO (K:EF) (vs:EA V) (H:Hp) (Q:VK) (_E:XK):Prop
 |mk (l:EJ) (bs:EC) (i e:E1) (c:Io) (_:vs=[.ref l, .int i, .int e]) (_:cP K H l (jG bs)) (_:bs[i]?=some c) (_:i<=e) (_:e<=bs.length) (_: ∀H',a9 H H'->Q (.int (iZ bs i e c)) H'):pO K vs H Q _E
theorem akO (T:aU K mg a) (kS:zt P w K a.Jy dW):T.d_I.U P w base 2 (pO K):=by
 have G_h:=aao (P:=P) (w:=w) (base:=base) T
 have G_e:=Dr (P:=P) (w:=w) (base:=base) T;refine T.d_I.F.ok af5 [03] [02];obtain⟨l,bs,i,e,c,rfl,hS,hc,hie,he,q⟩:=h;refine#[_,(ax (cy (df (aL G_h [07] (by rfl) T.d_h.c aY (aa [045] ag))) (ah (aJ (dB (a8 eP (b7 cW (pv 2) (pv 1)) (aR (by rfl) T.Qc) (aM _)) (aR (by rfl) T.SY) (aR (by rfl) T.OJ)))) br)
   (ax (cy (df (aL G_e [07] (by rfl) T.d_e.c aY (aa [045] ag))) (ax (cG (i:=3) af5.nd rfl (Gx rfl) (on (b9 jY (pv 2) [058] (aM _)) (jx (aL G_h [07] (by rfl) T.d_h.c aY (aa (cJ bA (pv 0) (pv 2) [002]) ag)))))
   (ah (aJ (dB (wM (df (pv 3)) (qi (a8 ga (b7 cW (pv 2) (pv 1)) (aR (by rfl) T.O6) (aM _)))).pt (aR (by rfl) T.OJ) (aR (by rfl) T.OI))))) br)
   (ah (aJ (dB (fB (xu (dj hr) (iY gu (by rfl) T.Ri LY (aa (og qP (pv 0) (i4 (pv 1)) (i4 (pv 2))) ag)) (iK (by rfl) T.Rg))) (aR (by rfl) T.Vw) (aR (by rfl) T.OJ)))))),?_]
 refine#[_,_,_,_,rfl,rfl,hS,bo (fz hc),c,rfl,_,rfl,aP (fun e1=>?_) fun e1=>?_]
 ·refine#[_,_,rfl,rfl,_,_,rfl,rfl,_,rfl,?_]
  have z:=q H (a9.refl H);unfold iZ at z;rw[EL e1] at z;refine aP (fun e2=>?_) fun e2=>?_
  ·have:=Ft e2
   rw[EL (by lia)] at z;exact z
  ·have:=Fw e2
   rw[EI (by lia)] at z;exact z
 ·refine [080]
  ·have z:=q H (a9.refl H)
   unfold iZ at z;rw[EI (by rw[e1];exact EE),EL e2] at z;have rest: ∀b:FR,pJ bs e=b->aeN (tIf (tOr (tB (k8 3)) (Cz (tOp (zb fun i j=> .bl (decide (j<i))) (tOp (zb fun i j=> .int (i-j)) (k8 2) (k8 1)) (tC (.int 18))))) (tC (.int 4)) (tC (.int 1))) { nx:=fun _ H'=>Q .HZ H',rt:=Q } [some (.ref l),some (.int i),some (.int e),some (.bl b)] H:=fun b hb=>by
    refine#[_,rfl,aP (fun e3=>?_) fun e3=>?_]
    ·rw[EL (.inr (hb.trans e3))] at z
     exact cf z
    ·refine#[_,_,rfl,rfl,_,_,rfl,rfl,_,rfl,aP (fun e4=>?_) fun e4=>?_]
     ·have:=Ft e4
      rw[EL (.inl (by lia))] at z;exact z
     ·have:=Fw e4
      rw[EI (fun y=>y.elim (fun y=>by lia) fun y=>by rw[hb,e3] at y;cases y)] at z;exact z
   refine [067];rw[fF];refine aP (fun e3=>?_) fun e3=>?_
   ·have lt:e<bs.length:=by have:=Ft e3;lia
    obtain⟨g,hg⟩: ∃g,bs[e]?=some g:=#[_,GU lt];refine#[_,_,_,_,rfl,rfl,hS,bo (fz hg),g,rfl,?_];exact rest (JH g) (by unfold pJ;rw[hg];rfl)
   ·have ge:bs.length<=e:=by have:=Fw e3;lia
    exact rest false (by unfold pJ;rw[Ig ge];rfl)
  ·refine#[_,rfl,_,rfl,_,_,rfl,hS,fun p hp=>?_]
   refine#[p,_,rfl, .inl #[cP.of ae,fun t ht=>?_]];rw[n6] at ht ⊢;have sm:a9 H (aF (aF H p (.lst (jG (part bs i e)))) t (.tup (jG (part bs i e)))):=(b3 hp).trans (b3 ht);have z:=q _ sm;unfold iZ at z;rw[EI (by rw[e1];exact EE),EI (by rw[e2];exact EE)] at z;refine#[a.Jy,t,(part bs i e).map kb,dW,rfl,kS,rfl,by rw[ae,aaq],_,rfl,aP (fun e3=>?_) fun e3=>?_]
   ·rw[iR] at e3
    rw[EL (Ft e3)] at z;exact z
   ·rw[iR] at e3
    rw[EI (Fw e3)] at z;exact z
section
open Vbemac (valueOf)
theorem qx (l:EC) (c:Io):valueOf (l++[c])=10*valueOf l+(c.toNat-48):=by unfold valueOf;rw[EA.foldl_append];rfl
theorem zZ (h:Ha c=true):48<=nb c:=by
 rw[tz,Gh] at h;exact Ft h.1
inductive wv (K:EF) (vs:EA V) (H:Hp) (Q:VK) (_E:XK):Prop
 |mk (l:EJ) (u:EC) (_:vs=[.ref l]) (_:cP K H l (jG u)) (_:(∀c∈u,Ha c=true)) (_:Q (.int (valueOf u:E1)) H):wv K vs H Q _E
def one (c:Io):Fh:=#[[c.toNat].toArray]
theorem pV: ∀w:EC,TL.RZ [] (w.map fun c=>[c.toNat])=w.map Mt
 |[]=>rfl
 |[c]=>rfl
 |c::d::r=>by
  show [c.toNat]++([]++TL.RZ [] ((d::r).map fun c=>[c.toNat]))=_
  rw[pV (d::r)]
  rfl
theorem Av (w:EC):Ud ("":Fh) (w.map one)=sb w:=by
 rw[TL.join_eq];refine TL.aab ?_;rw[TL.TV,Jg];exact pV w
def zJ:Fh:="0123456789:;<=>?@ABCDEFGHIJKLMNOPQRSTUVWXYZ[\\]^_`abcdefghijklmnopqrstuvwxyz"
theorem yx:zJ.length<=FE:=by decide+kernel
theorem zY (h:bR c=true):zr zJ.cps.toList (nb c-48)=some c.toNat:=by
 revert h;exact m9 (p:=fun c=>bR c=true->zr zJ.cps.toList (nb c-48)=some c.toNat) [00] c
inductive zR (K:EF) (vs:EA V) (H:Hp) (Q:VK) (_E:XK):Prop
 |mk (k:Int) (l:EJ) (u:EC) (_:vs=[.int k, .ref l]) (_:cP K H l (jG u)) (_:u.length<=3000) (_:((k=0/\(∀c∈u,bR c=true)/\ ∀H',a9 H H'->Q (.str (sb u)) H')\/(k=1/\(∀c∈u,Ha c=true)/\ ∀H',a9 H H'->Q (.int (valueOf u:E1)) H')\/
   (k=2/\u∈F6/\ ∀H',a9 H H'->Q (.str (dG u)) H')\/(k=4/\ ∀H',a9 H H'->Q (.str (sb [])) H'))):zR K vs H Q _E
theorem akP (T:aU K mg a):T.d_r.U P w base 1 (wv K):=by
 refine T.d_r.F.ok Ef [03] [02];obtain⟨l,u,rfl,hS,hd,q⟩:=h;refine#[_,(ax (cG (i:=1) Ef.nd rfl (Gx rfl) aj)
   (ax (uG K9 rfl (l8 (pv 0)) (ki (i:=2) Ef.nd rfl (Gx rfl)) (ah (cG (i:=1) Ef.nd rfl (Gx rfl) (b7 cW (b7 dX (b7 Ax (pv 1) aj) (pv 2)) aj))))
   (ah (aJ (pv 1))))),?_]
 refine#[l,rfl,#[_,hS],si (K:=K) (a:=l) (xs:=jG u) (fun i σ H'=> ∃v:ET V,σ=[some (.ref l),some (.int (valueOf (u.take i):E1)),v]/\H'=H) #[none,rfl,rfl] (fun i σ H' _ ⟨_,_,e⟩=>by rw[e];exact hS) ?_ ?_]
 ·rintro i y σ H' hi ⟨v,rfl,rfl⟩
  obtain⟨c,hc,rfl⟩: ∃c,u[i]?=some c/\y=V.int (nb c):=by
   unfold jG at hi;rw[FQ] at hi;cases e:u[i]? with
   |none=>rw[e] at hi;cases hi
   |some c=>rw[e] at hi;exact#[c,rfl,(E5 hi).symm]
  refine#[_,_,rfl,rfl, .inr #[by decide,by decide],_,_,rfl,rfl,_,_,rfl,rfl,some (.int (nb c)),?_,rfl];have g:=zZ (hd c (Gs hc));have e:((valueOf (u.take (i+1)):E1):Int)=(valueOf (u.take i):E1)*10+nb c-48:=by
   rw[Mw,hc];show((valueOf (u.take i++[c]):E1):Int)=_;rw[qx];have g':48<=c.toNat:=Int.ofNat_le.mp g;show((10*valueOf (u.take i)+(c.toNat-48):E1):Int)=(valueOf (u.take i):E1)*10+(c.toNat:Int)-48;lia
  rw[e]
  rfl
 ·rintro σ H' ⟨v,rfl,rfl⟩
  rw[fF,MX];exact q
theorem akQ (T:aU K mg a) (kS:zt P w K a.Jy dW):T.d_s.U P w base 2 (zR K):=by
 have G_r:=akP (P:=P) (w:=w) (base:=base) T;refine T.d_s.F.ok aaj [03] [02];obtain⟨k,l,u,rfl,hS,MJ,h⟩:=h;refine#[_,(ax (cy (a8 b8 (pv 0) (aR (by rfl) T.SY) (aM _)) (ah (aJ (DR dH (Xr rfl aaj.nd (l8 (pv 1)) (own:=[("byte",2)]) (rO (by show DG ["kind","part","byte"] (af s_s) _ [("byte",2)]=true;decide+kernel)) (fun _ _ _ _ _=>ki (i:=2) aaj.nd rfl (Gx rfl)) (fun _ _ _ _ _=>v9) (fun _ _ _ _ _=>(cJ ZW (afe (by rfl) T.S6) (b7 cW (pv 2) aj) [002])))))) br)
   (ax (cy (a8 b8 (pv 0) (aR (by rfl) T.OI) (aM _)) (ah (aJ (aL G_r [07] (by rfl) T.d_r.c aY [031]))) br)
   (ax (cy (a8 b8 (pv 0) (aR (by rfl) T.Vw) (aM _)) (ah (aJ (BE (dj hr) (iK (by rfl) T.Rg) (iY gu (by rfl) T.Ri LY [031]) [002]))) br)
   (ah (aJ dH))))),?_]
 refine [013];rw[cj];rcases h with⟨rfl,hw,q⟩|⟨rfl,hd,q⟩|⟨rfl,hs,q⟩|⟨rfl,q⟩
 ·refine cf ?_
  refine#[#[_,rfl],l,rfl,#[_,hS],fun D hD=>?_];have sm:a9 H (aF H D (.lst [])):=b3 hD;refine xa (K:=K) (a:=l) (xs:=jG u) (fun i H'=>a9 H H'/\H' D=some (.lst (((u.take i).map one).map V.str))) #[sm,ae] (fun i H' _ z=>z.1.seq hS) ?_ ?_
  ·rintro i y H' hi ⟨s1,UT⟩
   obtain⟨c,hc,rfl⟩: ∃c,u[i]?=some c/\y=V.int (nb c):=by
    unfold jG at hi;rw[FQ] at hi;cases e:u[i]? with
    |none=>rw[e] at hi;cases hi
    |some c=>rw[e] at hi;exact#[c,rfl,(E5 hi).symm]
   refine#[rfl,?_];unfold Z6;dsimp only;rw[EL rfl];refine#[_,_,rfl,rfl,_,_,_,rfl,rfl,yx,zY (hw c (Gs hc)),_,UT,?_,?_,?_]
   ·have z:=(EA.length_take_le i u)
    rw[EY,EY];refine FP (Ti i u) ?_;exact FP MJ [01]
   ·exact fun b o e=>by rw[ac (ai e hD)];exact s1 b o e
   ·rw[ae,Mw,hc]
    show some (HO.lst (((u.take i).map one).map V.str++[V.str #[[c.toNat].toArray]]))=some (HO.lst (((u.take i++[c]).map one).map V.str))
    rw[GG,GG]
    rfl
  ·rintro H' ⟨s1,UT⟩
   rw[fF,MX] at UT;refine#[_,D,u.map one,rfl,rfl, .inl (cP.of UT),?_,?_]
   ·have e:((u.map one).map (·.length)).sum=u.length:=by
     rw[Jg];clear hS MJ hw q UT s1 sm
     induction u with
     |nil=>rfl
     |cons c r ih=>rw[Fe,Yr,ih,EZ];show 1+r.length=_;lia
    rw[e];show u.length+(u.map one).length*0<=16777216;lia
   ·rw[Av]
    exact q H' s1
 ·refine bK [013]
  rw[cj];exact cf #[l,u,rfl,hS,hd,q H (a9.refl H)]
 ·refine bK [013]
  rw[cj];refine bK [013];rw[cj];refine cf #[l,_,rfl, .inl #[hS,fun t ht=>?_]];refine#[a.Jy,t,u.map kb,dW,_,rfl,kS,rfl,by rw[ae,aaq],(by rw[sL,EL hs]),q _ (b3 ht)]
 ·refine bK [013]
  rw[cj];refine bK [013];rw[cj];exact bK (q H (a9.refl H))
end
section
open Vbemac (valueOf)
def AJ (k v l c:V):EA (Fh×V):=Hs "column" c (Hs "line" l (Hs "value" v (Hs "kind" k [])))
def hU:F5->Int
 | .word _=>0
 | .num _=>1
 | .sign _=>2
 | .eof=>3
 | .bad=>4
def ib:F5->V
 | .word u=> .str (sb u)
 | .num n=> .int (n:E1)
 | .sign u=> .str (dG u)
 | .eof=> .str (sb [])
 | .bad=> .str (sb [])
inductive fM (C:EJ) (H:Hp) (p:EJ) (x:F5×FT):Prop
 |mk (dx:EJ) (_:H p=some (.ins C dx (AJ (.int (hU x.1)) (ib x.1) (.int (x.2.1:E1)) (.int (x.2.2:E1))))):fM C H p x
inductive Xz (C:EJ) (vs:EA V) (H:Hp) (Q:VK) (_E:XK):Prop
 |mk (p dx:EJ) (k v l c:V) (_:vs=[.ref p,k,v,l,c]) (_:H p=some (.ins C dx [])) (_: ∀H':Hp,H' p=some (.ins C dx (AJ k v l c))->(∀b o,H b=some o->b≠p->H' b=some o)->Q .HZ H'):Xz C vs H Q _E
theorem zG (c:Io):tZ (.int (nb c)) [.int 9, .int 10, .int 13, .int 32]=Rw c:=m9 (p:=fun c=>tZ (.int (nb c)) [.int 9, .int 10, .int 13, .int 32]=Rw c) [00] c
inductive Be (K:EF) (C:EJ) (vs:EA V) (H:Hp) (Q:VK) (_E:XK):Prop
 |mk (l:EJ) (bs:EC) (_:vs=[.ref l]) (_:cP K H l (jG bs)) (_:bs.length<=3000) (_: ∀(H':Hp) (q:EJ) (as:EA EJ),a9 H H'->H q=Ss->H' q=some (.lst (as.map V.ref))->Paired (fM C H') as (Gq bs)->Q (.ref q) H'):Be K C vs H Q _E
theorem fM.keep {H H':Hp}(h:fM C H p x) (k: ∀b o,H b=some o->(∀xs,o≠ .lst xs)->H' b=some o):fM C H' p x:=by
 obtain⟨dx,e⟩:=h;exact#[dx,k _ _ e fun xs z=>nomatch z]
theorem iz {α β:Type}{F:α->β->Prop} : ∀ {l:EA α}{m:EA β}{x:α}{y:β},Paired F l m->F x y->Paired F (l++[x]) (m++[y])
 |_,_,_,_, .nil,h=> .cons h .nil
 |_,_,_,_, .cons r t,h=> .cons r (iz t h)
def XB (k:Int) (u:EC) (v:V):Prop:=(k=0/\(∀c∈u,bR c=true)/\v= .str (sb u))\/(k=1/\(∀c∈u,Ha c=true)/\v= .int (valueOf u:E1))\/(k=2/\u∈F6/\v= .str (dG u))\/(k=4/\v= .str (sb []))
theorem qy (h:JH c=true):bR c=true:=by unfold bR;rw[h];rfl
theorem zA {p:Io->FR} :i<=aW p bs i:=by unfold aW;lia
theorem mT {p:Io->FR}(h:bs[i]?=some c) (hp:p c=true):i<aW p bs i:=by
 rw[kD h hp];exact zA
theorem rL {p:Io->FR} : ∀c∈part bs i (aW p bs i),p c=true:=by
 rw[<-ko];exact qC _
theorem lE:(part bs i j).length<=bs.length-i:=by
 unfold part;rw[PR,Lg];lia
theorem mw (h:bs[i]?=some c):i<bj bs i/\bj bs i<=bs.length:=by
 obtain⟨hi,_⟩:=FF.mp h;have l1:0<(part bs i (i+2)).length:=by unfold part;rw[Hk,eZ h];exact E1.succ_pos _
 have l2:=lE (bs:=bs) (i:=i) (j:=i+2);unfold bj;split<;>lia
theorem A5 (h:bs[i]?=some c) (hb:Rw c=false) (OR: ¬c=35):i<eU bs i c/\eU bs i c<=bs.length/\ ∃y:F5,iZ bs i (eU bs i c) c=hU y/\XB (hU y) (part bs i (eU bs i c)) (ib y)/\
  ∀k q,Oi (k+1) q (bs.drop i)=if hU y=4 then [(y,q)] else(y,q)::Oi k (q.1,q.2+(eU bs i c-i)) (bs.drop (eU bs i c)):=by
 obtain⟨hi,_⟩:=FF.mp h;unfold eU iZ;cases hl:JH c with
 |true=>
  rw[EL rfl,EL rfl];refine#[mT h (qy hl),m8 (J6 hi),?_];by_cases g:aW bR bs i-i<=24
  ·refine#[.word (part bs i (aW bR bs i)),EL g, .inl #[rfl,rL,rfl],fun k q=>?_]
   rw[j9 h hb OR hl,EI (by lia)];exact(EI (by show¬(0:Int)=4;decide)).symm
  ·refine#[.bad,EI g, .inr (.inr (.inr #[rfl,rfl])),fun k q=>?_]
   rw[j9 h hb OR hl,EL (by lia)];exact(EL rfl).symm
 |false=>
  rw[EI EE,EI EE];cases hd:Ha c with
  |true=>
   rw[EL rfl,EL rfl];refine#[mT h hd,m8 (J6 hi),?_];by_cases g:18<aW Ha bs i-i\/pJ bs (aW Ha bs i)=true
   ·refine#[.bad,EL g, .inr (.inr (.inr #[rfl,rfl])),fun k q=>?_]
    rw[mq h hb OR hl hd,EL g];exact(EL rfl).symm
   ·refine#[.num (valueOf (part bs i (aW Ha bs i))),EI g, .inr (.inl #[rfl,rL,rfl]),fun k q=>?_]
    rw[mq h hb OR hl hd,EI g];exact(EI (by show¬(1:Int)=4;decide)).symm
  |false=>
   rw[EI EE,EI EE];refine#[(mw h).1,(mw h).2,?_];by_cases g:part bs i (bj bs i)∈F6
   ·refine#[.sign (part bs i (bj bs i)),EL g, .inr (.inr (.inl #[rfl,g,rfl])),fun k q=>?_]
    rw[j3 h hb OR hl hd,EL g];exact(EI (by show¬(2:Int)=4;decide)).symm
   ·refine#[.bad,EI g, .inr (.inr (.inr #[rfl,rfl])),fun k q=>?_]
    rw[j3 h hb OR hl hd,EI g];exact(EL rfl).symm
theorem XD (h:nb c=nb d):c=d:=P4.mp (UP h)
theorem sB:(as++[x]).map V.ref=as.map V.ref++[V.ref x]:=by rw[GG];rfl
theorem AM {K:EF}{H:Hp}{Q:VK}{E:XK}(ok:XB k u v) (hS:cP K H l (jG u)) (hl:u.length<=3000) (q: ∀H',a9 H H'->Q v H'):zR K [.int k, .ref l] H Q E:=by
 refine#[k,l,u,rfl,hS,hl,?_];rcases ok with⟨h,g,rfl⟩|⟨h,g,rfl⟩|⟨h,g,rfl⟩|⟨h,rfl⟩
 ·exact .inl #[h,g,q]
 ·exact .inr (.inl #[h,g,q])
 ·exact .inr (.inr (.inl #[h,g,q]))
 ·exact .inr (.inr (.inr #[h,q]))
theorem oU (T:aU K mg a):T.d_D.U P w mg base 1 (Xz a.IA):=by
 refine T.d_D.F.ok akv [03] [02];obtain⟨p,dx,k,v,l,c,rfl,hp,q⟩:=h;refine#[_,(ax (b5 (pv 0) (pv 1) rfl)
   (ax (b5 (pv 0) (pv 2) rfl)
   (ax (b5 (pv 0) (pv 3) rfl)
   (ah (b5 (pv 0) (pv 4) rfl))))),?_]
 have l1:(Hs "kind" k []).length<1000:=FP (cS "kind" k []) [01]
 have l2:(Hs "value" v (Hs "kind" k [])).length<1000:=FP (Fj (cS "value" v _) (G7 (cS "kind" k []))) [01]
 have l3:(Hs "line" l (Hs "value" v (Hs "kind" k []))).length<1000:=FP (Fj (cS "line" l _) (G7 (Fj (cS "value" v _) (G7 (cS "kind" k []))))) [01];refine#[p,_,dx,_,rfl,hp,T.HU,T.JF,(by show 0<1000;decide),?_];refine#[p,_,dx,_,rfl,ae,T.HU,T.IP,l1,?_];refine#[p,_,dx,_,rfl,ae,T.HU,T.Ms,l2,?_];refine#[p,_,dx,_,rfl,ae,T.HU,T.Ln,l3,?_];refine q _ ae fun b o e hb=>?_
 rw[ac hb,ac hb,ac hb,ac hb];exact e
structure agF (C:EJ) (bs:EC) (q:EJ) (H H':Hp) (i ln ls:E1) (as:EA EJ):Prop where
 sm:a9 H H'
 lst:H' q=some (.lst (as.map V.ref))
 agG:i<=bs.length
 agH:ls<=i
 rest: ∃(ts:EG) (k:E1),Paired (fM C H') as ts/\bs.length<i+k/\Gq bs=ts++Oi k (ln,i-ls+1) (bs.drop i)/\as.length<=i
theorem wP {H5 H6:Hp}(hx:H6 x=some (.ins C dx (AJ (.int (hU y.1)) (ib y.1) (.int (y.2.1:E1)) (.int (y.2.2:E1)))))
  (k: ∀b o,H5 b=some o->H6 b=some o) (p:Paired (fM C H5) as ts) (nq:x≠q) (hq:H6 q=some (.lst (as.map V.ref))):
  Paired (fM C (aF H6 q (.lst ((as++[x]).map V.ref)))) (as++[x]) (ts++[y]):=by
 refine iz (Paired.M7 p fun b z h=>?_) #[dx,by rw[ac nq];exact hx];refine fM.keep h fun b' o e no=>?_;have ne:b'≠q:=fun z=>by
  have w1:=k _ _ e;rw[z,hq] at w1;exact no _ (E5 w1).symm
 rw[ac ne];exact k _ _ e
theorem akR (T:aU K mg a) (kS:zt P w K a.Jy dW):T.d_i.U P w base 4 (Be K a.IA):=by
 have G_E:=akK (P:=P) (w:=w) (base:=base) T
 have G_H:=akN (P:=P) (w:=w) (base:=base) T kS
 have G_I:=akO (P:=P) (w:=w) (base:=base) T kS
 have G_s:=akQ (P:=P) (w:=w) (base:=base) T kS
 have G_D:=oU (P:=P) (w:=w) (base:=base) T;refine T.d_i.F.ok lU [03] [02];obtain⟨l,bs,rfl,hS,MJ,hQ⟩:=h;refine#[_,(ax (cG (i:=1) lU.nd rfl (Gx rfl) (iA ag))
   (ax (cG (i:=2) lU.nd rfl (Gx rfl) aj)
   (ax (cG (i:=3) lU.nd rfl (Gx rfl) aj)
   (ax (cG (i:=4) lU.nd rfl (Gx rfl) aj)
   (ax (iI K9 (a8 jY (pv 4) [058] (aM _)) (ah (cy (a8 li (cJ bA (pv 0) (pv 4) [002]) (iK (by rfl) T.Vx) rfl) (ax (kG (i:=4) lU.nd rfl (Gx rfl) aj kT)
   (ah (cy (a8 b8 (cJ bA (pv 0) (b7 cW (pv 4) aj) [002]) (aR (by rfl) T.PD) (aM _)) (ax (kG (i:=2) lU.nd rfl (Gx rfl) aj kT)
   (ah (cG (i:=3) lU.nd rfl (Gx rfl) (pv 4)))) br))) (ah (cy (a8 b8 (cJ bA (pv 0) (pv 4) [002]) (aR (by rfl) T.Uq) (aM _)) (ah (cG (i:=4) lU.nd rfl (Gx rfl) (aL G_E [07] (by rfl) T.d_E.c aY (aa (pv 0) (aa (pv 4) ag))))) (ax (cG (i:=5) lU.nd rfl (Gx rfl) (aL G_H [07] (by rfl) T.d_H.c aY (aa (pv 0) (aa (pv 4) ag))))
   (ax (cG (i:=6) lU.nd rfl (Gx rfl) (aL G_I [07] (by rfl) T.d_I.c aY (aa (pv 0) (aa (pv 4) (aa (pv 5) ag)))))
   (ax (bi (wm Iw J4 J5 iT (pv 1) (aa (g7 T.RO G_D [07] (by rfl) T.RL T.d_D.c.b .nil aY (aa (pv 6) (aa (aL G_s [07] (by rfl) T.d_s.c aY (aa (pv 6) (aa (og qP (pv 0) (i4 (pv 4)) (i4 (pv 5))) ag))) (aa (pv 2) (aa (b7 dX (b7 cW (pv 4) (pv 3)) aj) ag))))) ag)))
   (ax (cy (a8 b8 (pv 6) (aR (by rfl) T.OJ) (aM _)) (ah (aJ (pv 1))) br)
   (ah (cG (i:=4) lU.nd rfl (Gx rfl) (pv 5))))))))))))
   (ax (bi (wm Iw J4 J5 iT (pv 1) (aa (g7 T.RO G_D [07] (by rfl) T.RL T.d_D.c.b .nil aY (aa (aR (by rfl) T.Xd) (aa dH (aa (pv 2) (aa (b7 dX (b7 cW (pv 4) (pv 3)) aj) ag))))) ag)))
   (ah (aJ (pv 1))))))))),?_]
 refine#[Fs _,fun q hq=>#[fun m σ H'=> ∃(i ln ls:E1) (as:EA EJ) (v5 v6:ET V),m=bs.length-i/\σ=[some (.ref l),some (.ref q),some (.int ln),some (.int ls),some (.int i),v5,v6]/\agF a.IA bs q H H' i ln ls as,#[_,0,1,0,[],none,none,rfl,rfl,#[b3 hq,ae,Fs _,E6 _,[],bs.length+1, .nil,by lia,rfl,E6 _]],?_]];rintro m σ H1 ⟨i,ln,ls,as,v5,v6,rfl,rfl,M⟩;have XE:=M.sm.seq hS;obtain⟨ts,k,pr,hk,tk,asl⟩:=M.rest;have ile:=M.agG;have akS:=M.agH;obtain⟨k,rfl⟩: ∃k',k=k'+1:=#[k-1,by lia];have ec:(i:Int)-(ls:Int)+1=((i-ls+1:E1):Int):=by lia
 refine#[_,_,rfl, .inl XE,_,_,rfl,rfl,_,rfl,?_];rw[fF];rw[03]
 ·have lt:i<bs.length:=by have:=Ft e;lia
  obtain⟨c,hc⟩: ∃c,bs[i]?=some c:=#[_,GU lt];refine#[fun σ' Ry=> ∃(i' ln' ls':E1) (as':EA EJ) (v5' v6':ET V),i<i'/\σ'=[some (.ref l),some (.ref q),some (.int ln'),some (.int ls'),some (.int i'),v5',v6']/\agF a.IA bs q H Ry i' ln' ls' as',?_,?_]
  ·rintro σ' Ry ⟨i',ln',ls',as',v5',v6',lt',rfl,M'⟩
   have:=M'.agG;exact#[_,by lia,i',ln',ls',as',v5',v6',rfl,rfl,M']
  refine#[_,_,_,_,rfl,rfl,XE,bo (fz hc),_,_,rfl, .inr T.Vy.sq,rfl,rfl,_,rfl,?_];show if tZ (.int (nb c)) [.int 9, .int 10, .int 13, .int 32]=true then _ else _
  rw[zG];refine aP (fun hb=>?_) fun hb=>?_
  ·refine#[_,rfl,_,_,rfl,rfl,?_]
   refine#[_,_,rfl,rfl,_,_,_,V.int (nb c),rfl,rfl,XE,(by rw[Int.add_sub_cancel];exact bo (fz hc)),rfl,_,rfl,?_];rw[cj];have lx:=kM (k:=k) (q:=(ln,i-ls+1)) hc hb;refine aP (fun h10=>?_) fun h10=>?_
   ·have c10:c=10:=XD (Ft h10)
    refine#[_,rfl,_,_,rfl,rfl,i+1,ln+1,i+1,as,v5,v6,G6 i,rfl,#[M.sm,M.lst,lt,E6 _,ts,k,pr,by lia,?_,by lia]];rw[tk,lx,c10,PK]
    rfl
   ·have c10: ¬c=10:=fun z=>E7 (by rw[z];rfl) (Fw h10)
    refine#[i+1,ln,ls,as,v5,v6,G6 i,rfl,#[M.sm,M.lst,lt,ML akS,ts,k,pr,by lia,?_,by lia]];rw[tk,lx,show i+1-ls+1=i-ls+1+1 by lia];unfold Vbemac.advance;rw[EI c10]
  ·refine#[_,_,_,_,rfl,rfl,XE,bo (fz hc),rfl,_,rfl,?_]
   rw[cj];refine aP (fun OR=>?_) fun OR=>?_
   ·have c35:c=35:=XD (Ft OR)
    have g:i<aW eO bs i:=mT hc (by rw[c35];rfl)
    have g2:aW eO bs i<=bs.length:=m8 ile;refine#[l,bs,i,rfl,XE,ile,aW eO bs i,ln,ls,as,v5,v6,g,rfl,#[M.sm,M.lst,g2,by lia,ts,k,pr,by lia,?_,by lia]];rw[tk,ii hc hb c35]
    show ts++Oi k (ln,i-ls+1+(aW eO bs i-i)) _=_
    rw[show i-ls+1+(aW eO bs i-i)=aW eO bs i-ls+1 by lia]
   ·have c35: ¬c=35:=fun z=>E7 (by rw[z];rfl) (Fw OR)
    obtain⟨g,g2,y,ky,vy,lx⟩:=A5 hc hb c35;have lx:=lx k (ln,i-ls+1);refine#[l,bs,i,c,rfl,XE,hc,fun H2 s2=>?_];refine#[l,bs,i,eU bs i c,c,rfl,s2.seq XE,hc,J6 g,g2,fun H3 s3=>?_];rw[ky];generalize eU bs i c=en at g g2 vy lx ky ⊢;have s13:a9 H1 H3:=s2.trans s3;have hS3:=s13.seq XE;refine#[.inl #[rfl,_,cP.of (s13 _ _ M.lst)],?_];refine#[_,rfl,_,rfl,_,_,rfl,hS3,fun p hp=>?_];rw[n6];refine AM vy (cP.of ae) ?_ fun H4 s4=>?_
    ·have:=lE (bs:=bs) (i:=i) (j:=en)
     lia
    have s14:a9 H1 H4:=s13.trans ((b3 hp).trans s4);refine#[_,_,rfl,rfl,_,_,rfl,rfl,fun x dx hx Ur ne=>#[x,dx,_,_,_,_,rfl,ae,fun H5 h5 k5=>#[rfl,?_]]]
    have h5:H5 x=some (.ins a.IA dx (AJ (.int (hU y)) (ib y) (.int (ln:E1)) (.int ((i-ls+1:E1):Int)))):=by rw[<-ec];exact h5
    have s15:a9 H1 H5:=fun b o e=>k5 b o (by rw[ac (ai (s14 b o e) hx),ac (ai (s14 b o e) Ur)];exact s14 b o e) (ai (s14 b o e) hx)
    have nq:x≠q:=(ai (s14 _ _ M.lst) hx).symm
    have q5:=s15 _ _ M.lst
    have pn:=wP (y:=(y,ln,i-ls+1)) h5 s15 pr nq q5
    have sm5:a9 H (aF H5 q (.lst ((as++[x]).map V.ref))):=fun b o e=>by rw[ac (ai e hq)];exact s15 b o (M.sm b o e)
    refine#[q,_,_,rfl,rfl,q5,by rw[EY];exact FP (Fj asl (Fj ile MJ)) [01],?_];rw[<-sB];refine [013];rw[cj];refine aP (fun k4=>?_) fun k4=>?_
    ·rw[EL (Ft k4)] at lx
     refine(hQ _ q (as++[x]) sm5 hq ae ?_);rw[tk,lx];exact pn
    ·rw[EI (Fw k4)] at lx
     refine#[en,ln,ls,as++[x],_,_,g,rfl,#[sm5,ae,g2,by lia,ts++[(y,ln,i-ls+1)],k,pn,by lia,?_,by rw[Fc,IT];lia]];rw[tk,lx,F4];show ts++(y,ln,i-ls+1)::Oi k (ln,i-ls+1+(en-i)) _=_;rw[show i-ls+1+(en-i)=en-ls+1 by lia]
     rfl
 ·have lx:=Dq (k:=k) (q:=(ln,i-ls+1)) (bs:=bs) (i:=i) (by have:=Fw e;lia)
  refine#[.inl #[rfl,_,cP.of M.lst],?_];refine#[_,_,rfl,rfl,_,_,rfl,rfl,fun x dx hx Ur ne=>#[x,dx,_,_,_,_,rfl,ae,fun H5 h5 k5=>#[rfl,?_]]];have h5:H5 x=some (.ins a.IA dx (AJ (.int (hU .eof)) (ib .eof) (.int (ln:E1)) (.int ((i-ls+1:E1):Int)))):=by rw[<-ec];exact h5
  have s15:a9 H1 H5:=fun b o e=>k5 b o (by rw[ac (ai e hx),ac (ai e Ur)];exact e) (ai e hx)
  have nq:x≠q:=(ai M.lst hx).symm
  have q5:=s15 _ _ M.lst
  have pn:=wP (y:=(.eof,ln,i-ls+1)) h5 s15 pr nq q5
  have sm5:a9 H (aF H5 q (.lst ((as++[x]).map V.ref))):=fun b o e=>by rw[ac (ai e hq)];exact s15 b o (M.sm b o e)
  refine#[q,_,_,rfl,rfl,q5,by rw[EY];exact FP (Fj asl (Fj ile MJ)) [01],?_];rw[<-sB];refine(hQ _ q (as++[x]) sm5 hq ae ?_);rw[tk,lx];exact pn
end
theorem Ez (K:EF):UL K [025] (.type "type") "__init__"=some (.val (.builtin "Exception.__init__")):=by kernel_rfl
theorem aar:typeOf [025]=pure (.type "type"):=by kernel_rfl
theorem BA:Manifest.isStub "Exception"=false:=by decide+kernel
theorem AZ:Kr "Exception"=some [025]:=by decide+kernel
theorem aas {H:Hp}{a:EJ}(h:H a=some o):aF H a o=H:=by
 funext b
 by_cases e:b=a
 ·rw[e,ae,h]
 ·exact ac e
def BN (C:EJ) (i:E1):TS:=fun D σ H=> ∃p,σ[i]?=some (some (.ref p))/\H p=some (qA C p)/\D.nx σ H
theorem uI (XC:dA X.K R C fI) (hg:Gl X "Exception") (hm:X.mg "Exception"=none) (hx:PE X (.Name x p2) (k8 i))
  (JS:Fb [.Name x p2] X.env=[(false,eval (.Name x p2) X.env)]:=by rfl) (hs:K7 (.Call (.Attribute (.Name "Exception" p1) "__init__" Kx) [.Name x p2] [] K5) none pos.line X.env=pure false:=by rfl)
  {pl:Sem FR}(ht:eval (.Call (.Attribute (.Name "Exception" p1) "__init__" Kx) [.Name x p2] [] K5) X.env=(do
   let ov<-eval (.Name "Exception" p1) X.env
   standAt Kx.atName
   let (f,first)<-holding [ov] (Ku ov "__init__" pl)
   MR K5 f first (Ie K5 (Fb [.Name x p2] X.env)) (Kj K5 [074])):=by rfl):
  PS X (.Expr (.Call (.Attribute (.Name "Exception" p1) "__init__" Kx) [.Name x p2] [] K5) pos) (BN C i):=by
 rw[04];obtain⟨p,hp,hH,hD⟩:=h;refine wpAny_Expr_any ?_ I.quiet hs;refine KN (pl:=pl) (lj I hg hm AZ ?_) ht;obtain⟨m,Fr⟩:=I.fr;refine PySem.W.method_type Fr I.mod.UQ aar BA (Ez X.K) rfl ?_;have I0:aE X pins σ H { s with toks:=s.toks+1 } :=I.tok _;refine NM (e:= .Name x p2) (rest:=[]) ?_ (by rw[JS];rfl) rfl;rw[JS];refine Ks (ca (hx pins _ σ H (fun v H'=>v= .ref p/\H'=H) I0 (m6 #[rfl,rfl] hp)) fun u s1 z=>?_);obtain⟨v,H',I1,rv,e1,e2⟩:=z;subst e1 e2;cases rv;refine KL ?_;obtain⟨h1,g1,d1,t1,VE⟩:=s1;obtain⟨⟨T,hT⟩,_⟩:=I1.HH _ _ hH;obtain⟨Nn,mN,oI,NR,mR,⟨nm,q,bs,sn,sub,ab,col,dd,k0,k1,k2,k3,k5,hC⟩,_⟩:=XC.at_ h1 I1.MI;refine P2 (yo Qn afd hC hT ?_);have gx:((h1.push (eJ [])).update p (HD (·.setIfInBounds 0 (.ref h1.objs.size)))).get? p=some (dg C h1.objs.size):=
  IU _ (E2 _ hT) rfl
 have J:aE X pins σ (aF H' p (qA C p)) ⟨(h1.push (eJ [])).update p (HD (·.setIfInBounds 0 (.ref h1.objs.size))),g1,d1,t1,VE⟩:=
  I1.write (x:=p) (e:=p) (t':=t1) (by rw[hH];exact GH) (.inl rfl) (fun b u hb z=>by rw[GA _ _ (HS hb)];exact E2 _ z) #[_,gx]
   #[#[_,gx],#[_,gx],fun _ _ ⟨T,z⟩ y=>#[T,y _ z]]
 rw[aas hH] at J;exact#[σ,H',J,hD]
section
variable {CX:pX}{sp:Sp}{E:XK}
theorem e8 (hg:Gl X x) (hm:X.mg x=some (.ref R)) (c:BC X.K R m f) (F:bS X.prog X.w X.K X.mg X.base CX k f fd ps sp) (hr:bW k X.A) (hb:gc X.K fd ps ds) (hd:aX QL ds) (hx:dh CX X E) (ha:PA X (e::es) t)
  (Rl:(x == [003])=false:=by decide) (JS:Fb (e::es) X.env=[000]::Fb es X.env:=by rfl) (Ma:(Ie pos [034]).any (·.1)=false:=by rfl)
  (ht:eval (.Call (.Attribute (.Name x p1) m Kx) (e::es) [] pos) X.env=(do
   let ov<-eval (.Name x p1) X.env
   standAt Kx.atName
   let (f,first)<-holding [ov] (Ku ov m pl)
   MR pos f first (Ie pos (Fb (e::es) X.env)) (Kj pos [074])):=by rfl):
  PE X (.Call (.Attribute (.Name x p1) m Kx) (e::es) [] pos) (BR sp QL E t):=by
 rw[01];refine KN (pl:=pl) (gj I hg hm ?_ Rl) ht;obtain⟨mm,Fr⟩:=I.fr;refine PySem.W.method_of_cls Fr I.mod.UQ c.sp (PySem.W.cls_val Fr I.mod.UQ c.ty c.rd c.fc rfl ?_);have I0:aE X pins σ H { s with toks:=s.toks+1 } :=I.tok _;refine Ki (first:=[]) (h₀:=X.base) I.ok.mod.UQ c.kp (ca (ha pos pins _ σ H _ I0 h) fun us s1 ⟨vs,H1,I1,r,q⟩=>#[I1.MI,?_]) JS Ma
 exact rb F hr hb hd hx I1 r q
end
theorem i6:("__setattr__":Fh)∈c8:=by decide+kernel
theorem pK:("__getattribute__":Fh)∈c8:=by decide+kernel
theorem oo:("__getattr__":Fh)∈c8:=by decide+kernel
theorem XAt.la {R C fI:EJ}{B:String}{y:ET EH}(X:XAt h R C fI) (m:mroOf (.type B)=pure cT) (q:n∈c8) (l:Hg (.type B) n=pure y):LA h (.ref R::cT) n y:=by
 obtain⟨_,_,_,_,_,_,_,_,_,_,_,⟨_,_,_,_,_,_,_,_,_,_,_,_,_,hR⟩,nR,qR⟩:=X;exact LA.own hR nR (qR n q) (LA.of m l)
section
variable {X:Cx}{pins:EA (EJ×Ih)}{σ:St}{H:Hp}{s:EM}{R C fI p d:EJ}{f:Fh}{y:V}{u:EH}{A:Gk}{E:EH->EM->Prop}{Q:Mo->EM->Prop}{fs:EA (Fh×V)}{sa owner B:String}
theorem lg {mA:Fh->ET EH}(n:h.Ns1 d mA) (r: ∀g,fS (fs.lookup g) (mA g)) (wi:M5 mA (fs.map (·.1))):cw X.prog X.w H h d (ci d fs):=by
 obtain⟨o,es,ep,e,z⟩:=id n;exact#[#[mA,n,r,wi],#[o,e],fun h1 h2 ⟨m,n1,q1⟩ k=>#[m,n1.at k,q1]]
theorem zP (XC:dA X.K R C fI) (SF:LP B cT sa owner) (hf:f∈c8) (hB:Hg (.type B) f=pure none) (I:aE X pins σ H s) (e:H p=some (qA C p)) (ry:bh y u)
  (h: ∀d s',H d=none->aE X pins σ (aF (aF H d (ci d [(f,y)])) p (ka C d p)) s'->Q () s'):Fl (model X.prog X.w) A (Sh (.ref p) f u) Q E s:=by
 have XA:=XC.at_ _ I.MI;obtain⟨⟨T,hT⟩,_⟩:=I.HH _ _ e;obtain⟨h1,g1,d1,t1,VE⟩:=s;obtain⟨Nn,mN,oI,NR,mR,⟨nm,q,bs,sn,sub,ab,col,dd,k0,k1,k2,k3,k5,hC⟩,UR,WK,V2,_⟩:=id XA;refine vJ SF hC UR (V2 _ i6) (XA.la SF.mro i6 SF.slot.lookup) hT rfl fun tk t=>CA SF hC UR (V2 _ hf) (XA.la SF.mro hf hB) hT rfl rfl rfl fun h' Ta k kx kn=>#[rfl,?_]
 have fr:H h1.objs.size=none:=I.HH.fresh (E6 _)
 have np:h1.objs.size≠p:=fun z=>by rw[z,e] at fr;cases fr
 refine h h1.objs.size _ fr ?_;have gd:(h1.push { cls:= .type "dict",data:= .dict [].toArray }).get? h1.objs.size=some { cls:= .type "dict",data:= .dict [].toArray } :=Gy _ rfl;have n0:(h1.push { cls:= .type "dict",data:= .dict [].toArray }).Ns h1.objs.size (fun _=>none):=#[_, [].toArray,_,gd,rfl,(fun e he=>E7 he [024]),fun _=>rfl]
 have I1:aE X pins σ (aF H h1.objs.size (ci h1.objs.size [])) ⟨h1.push { cls:= .type "dict",data:= .dict [].toArray },g1,d1,Ta,VE⟩:=
  I.laid (t':=Ta) (fun b u z=>E2 _ z) (E6 _) (lg (Og n0) (fun _=>GH) fun g hg=>E7 rfl hg)
 have VF:(h1.push { cls:= .type "dict",data:= .dict [].toArray }).get? p=some (dg C T):=E2 _ hT
 have gp:((h1.push { cls:= .type "dict",data:= .dict [].toArray }).update p fun o=> { o with dict:=some h1.objs.size }).get? p=some { dg C T with dict:=some h1.objs.size } :=IU _ VF rfl
 have I2:aE X pins σ (aF (aF H h1.objs.size (ci h1.objs.size [])) p (ka C h1.objs.size p)) ⟨(h1.push { cls:= .type "dict",data:= .dict [].toArray }).update p fun o=> { o with dict:=some h1.objs.size },g1,d1,Ta,VE⟩:=
  I1.write (x:=p) (e:=p) (t':=Ta) (by rw[ac np.symm,e];exact GH) (.inl rfl) (fun b u hb z=>by rw[GA _ _ (HS hb)];exact z) #[_,gp]
   #[#[_,_,gp,rfl,rfl,rfl,rfl],#[_,gp],fun _ _ ⟨o,vs,z,r⟩ k=>#[o,vs,k _ z,r]]
 obtain⟨od,_,_,hod,_⟩:=id kn;have I3:aE X pins σ (aF (aF (aF H h1.objs.size (ci h1.objs.size [])) p (ka C h1.objs.size p)) h1.objs.size (ci h1.objs.size [(f,y)])) ⟨h',g1,d1,Ta,VE⟩:=by
  refine I2.write (x:=h1.objs.size) (e:=h1.objs.size) (t':=Ta) (by rw[ac np,ae];exact GH) (.inl rfl) (fun b v hb z=>?_) #[_,hod] (lg kn (fun g=>?_) fun g hg=>?_)
  ·by_cases bp:b=p
   ·rw[bp] at z ⊢
    rw[gp] at z;rw[kx,<-z]
   ·rw[GA _ _ (HS bp)] at z
    refine k b v bp ?_;rcases Gn.get?_push_cases z with⟨z1,_⟩|z1
    ·exact E7 z1 hb
    ·exact z1
  ·show fS (IM g [(f,y)]) (if g=f then some u else none)
   by_cases gf:g=f
   ·rw[gf,EL rfl]
    simp only[IM,Gr];exact ry
   ·rw[EI gf,IM,show(g == f)=false from beq_eq_false_iff_ne.mpr gf]
    exact GH
  ·by_cases gf:g=f
   ·rw[gf];exact EO
   ·exact E7 (EI gf) hg
 have eH:aF (aF (aF H h1.objs.size (ci h1.objs.size [])) p (ka C h1.objs.size p)) h1.objs.size (ci h1.objs.size [(f,y)])=aF (aF H h1.objs.size (ci h1.objs.size [(f,y)])) p (ka C h1.objs.size p):=by
  funext b
  by_cases b1:b=h1.objs.size
  ·rw[b1,ae,ac np,ae]
  ·by_cases b2:b=p
   ·rw[b2,ac np.symm,ae,ae]
   ·rw[ac b1,ac b2,ac b1,ac b2,ac b1]
 rw[eH] at I3;exact I3
theorem AB (XC:dA X.K R C fI) (SF:LP B cT sa owner) (hf:f∈c8) (hB:Hg (.type B) f=pure none) (I:aE X pins σ H s) (e:H p=some (ka C d p)) (ed:H d=some (ci d fs)) (hl:fs.length<1000) (ry:bh y u)
  (h: ∀s',aE X pins σ (aF H d (ci d (Hs f y fs))) s'->Q () s'):Fl (model X.prog X.w) A (Sh (.ref p) f u) Q E s:=by
 have XA:=XC.at_ _ I.MI;obtain⟨⟨o,vs,x1,x2,x3,x4,x5⟩,_⟩:=I.HH _ _ e;obtain⟨⟨mA,n,r,wi⟩,_⟩:=I.HH _ _ ed;obtain⟨h1,g1,d1,t1,VE⟩:=s;obtain⟨Nn,mN,oI,NR,mR,⟨nm,q,bs,sn,sub,ab,col,dd,k0,k1,k2,k3,k5,hC⟩,UR,WK,V2,_⟩:=id XA
 have dp:d≠p:=fun z=>by
  obtain⟨o',es,ep,z1,z2,_⟩:=n;rw[z,x1] at z1;have y:=E5 z1;rw[<-y,x4] at z2;cases z2
 have hz:(fs.map (·.1)).length<=1000:=by rw[EY];lia
 refine vJ SF hC UR (V2 _ i6) (XA.la SF.mro i6 SF.slot.lookup) x1 x2 fun tk t=>AA SF hC UR (V2 _ hf) (XA.la SF.mro hf hB) x1 x2 x3 n wi hz fun h' Ta k kn=>#[rfl,?_];obtain⟨od,_,_,hod,_⟩:=id kn;refine h _ (I.write (x:=d) (e:=d) (t':=Ta) (by rw[ed];exact GH) (.inl rfl) k #[_,hod] (lg kn (fun g=>?_) fun g hg=>?_))
 ·rw[iB]
  by_cases gf:g=f
  ·rw[EL gf,EL gf];exact ry
  ·rw[EI gf,EI gf];exact r g
 ·by_cases gf:g=f
  ·rw[gf];exact(gI f y fs).1
  ·refine(gI f y fs).2 g (wi g fun z=>hg ?_)
   show(if g=f then some u else mA g)=none
   rw[EI gf];exact z
theorem Dy {Q:EH->EM->Prop}{φ:Gn->Prop}(XC:dA X.K R C fI) (hf:f∈c8) (hB:Hg [025] f=pure none) (I:aE X pins σ H s)
  (e: ∃o vs,s.heap.get? p=some o/\o.cls= .ref C/\o.dict=some d/\o.data= .fields vs) (ed:H d=some (ci d fs)) (l:fs.lookup f=some v)
  (h: ∀u s',aE X pins σ H s'->bh v u->Q u s'):Fl (model X.prog X.w) A (Sg (.ref p) f b) Q E s:=by
 have XA:=XC.at_ _ I.MI;obtain⟨o,vs,x1,x2,x3,x4⟩:=e;obtain⟨⟨mA,n,r,wi⟩,_⟩:=I.HH _ _ ed;obtain⟨h1,g1,d1,t1,VE⟩:=s;obtain⟨Nn,mN,oI,NR,mR,⟨nm,q,bs,sn,sub,ab,col,dd,k0,k1,k2,k3,k5,hC⟩,UR,WK,V2,_⟩:=id XA
 have dp:d≠p:=fun z=>by
  obtain⟨o',es,ep,z1,z2,_⟩:=n;rw[z,x1] at z1;have y:=E5 z1;rw[<-y,x4] at z2;cases z2
 have nc: ∀c,o.data≠ .cls c:=fun c z=>by rw[x4] at z;cases z
 have I0:h1.Inst p C mA:=#[o,x1,x2,nc, .inr #[d,x3,dp,n]];obtain⟨u,hu,ru⟩:=fS.some_of (v:=v) (o:=mA f) (by rw[<-l];exact r f);exact Dt AI (XA.la HG.mro pK afa) (XA.la HG.mro oo afb) (hC) UR (V2 _ pK) (V2 _ oo) (V2 _ hf) (XA.la HG.mro hf hB) I0 hu (PySem.W.handedOut_of (pI ru)) (h u _ (I.tok _) ru)
end
section
variable {ta tv:TE}
def sX0 (C:EJ) (ta tv:TE) (f:Fh):TS:=fun D σ H=>tv σ H fun y H1=>ta σ H1 fun x H2=> ∃p,x= .ref p/\H2 p=some (qA C p)/\ ∀d,H2 d=none->D.nx σ (aF (aF H2 d (ci d [(f,y)])) p (ka C d p))
def sX1 (C:EJ) (ta tv:TE) (f:Fh):TS:=fun D σ H=>tv σ H fun y H1=>ta σ H1 fun x H2=> ∃p d fs,x= .ref p/\H2 p=some (ka C d p)/\H2 d=some (ci d fs)/\fs.length<1000/\D.nx σ (aF H2 d (ci d (Hs f y fs)))
theorem agI (XC:dA X.K R C fI) (SF:LP "Exception" cT sa owner) (hf:f∈c8) (hB:Hg [025] f=pure none) (ha:PE X o ta) (hv:PE X JM tv)
  (hs:K7 JM (some (.Attribute o f MK)) pos.line X.env=pure false):PS X (.Assign [.Attribute o f MK] JM pos) (sX0 C ta tv f):=by
 rw[04];refine LH (ca (hv pins s σ H _ I h) fun u s1 ⟨y,H1,I1,ry,q⟩=>ca (ha pins s1 σ H1 _ I1 q) fun ov s2 ⟨x,H2,I2,rx,p,ex,ea,q2⟩=>?_) hs;subst ex;obtain rfl:ov=Fq p:=rx;exact zP XC SF hf hB I2 ea ry fun d s3 hd I3=>#[σ,_,I3,q2 d hd]
theorem Au (XC:dA X.K R C fI) (SF:LP "Exception" cT sa owner) (hf:f∈c8) (hB:Hg [025] f=pure none) (ha:PE X o ta) (hv:PE X JM tv)
  (hs:K7 JM (some (.Attribute o f MK)) pos.line X.env=pure false):PS X (.Assign [.Attribute o f MK] JM pos) (sX1 C ta tv f):=by
 rw[04];refine LH (ca (hv pins s σ H _ I h) fun u s1 ⟨y,H1,I1,ry,q⟩=>ca (ha pins s1 σ H1 _ I1 q) fun ov s2 ⟨x,H2,I2,rx,p,d,fs,ex,ea,ed,l,q2⟩=>?_) hs;subst ex;obtain rfl:ov=Fq p:=rx;exact AB XC SF hf hB I2 ea ed l ry fun s3 I3=>#[σ,_,I3,q2]
end
abbrev yJ (X:Cx) (pins:EA (EJ×Ih)) (Ew:EH->EM->Prop):Cx:= { X with pn:=X.pn++pins,xe:=Ew }
abbrev CU (X:Cx) (a:EJ):Cx:= { X with A:=X.A.mark (some (.ref a)),calm:=false,xe:=fun _ _=>False }
section
variable {H:Hp}{Ew:EH->EM->Prop}{a:EJ}
theorem zx (I:aE X pins σ H s):aE (yJ X pins Ew) [] σ H s:=
 #[#[I.ok.mod,I.ok.kind,I.ok.glob,I.ok.blt,I.ok.above,I.ok.inj,I.ok.has,I.ok.Xg,I.ok.hd,I.ok.frames,I.ok.Xh,I.ok.ZH,I.ok.bs,I.ok.Ue,I.ok.RV,I.ok.RW,I.ok.funs,I.ok.VU],I.os,I.bare,I.base,I.loc,I.cell,I.free,I.LG,
  fun p hp=>I.pin p (by rw[Gw] at hp;exact hp),I.HH,I.len]
theorem eS (I:aE (yJ X pins Ew) TK σ H s):aE X pins σ H s:=
 #[#[I.ok.mod,I.ok.kind,I.ok.glob,I.ok.blt,I.ok.above,I.ok.inj,I.ok.has,I.ok.Xg,I.ok.hd,I.ok.frames,I.ok.Xh,I.ok.ZH,I.ok.bs,I.ok.Ue,I.ok.RV,I.ok.RW,I.ok.funs,I.ok.VU],I.os,I.bare,I.base,I.loc,I.cell,I.free,I.LG,
  fun p hp=>I.pin p (Lu _ hp),I.HH,I.len]
theorem w6 (I:aE X pins σ H s):aE (CU X a) pins σ H s:=
 #[#[I.ok.mod,I.ok.kind,I.ok.glob,I.ok.blt,I.ok.above,I.ok.inj,I.ok.has,I.ok.Xg,fun z=>GP z,I.ok.frames,I.ok.Xh,I.ok.ZH,I.ok.bs,I.ok.Ue,I.ok.RV,I.ok.RW,I.ok.funs,I.ok.VU],I.os,I.bare,I.base,I.loc,I.cell,I.free,I.LG,
  I.pin,I.HH,I.len]
theorem yM (ok:X.Ok) (I:aE (CU X a) pins σ H s):aE X pins σ H s:=#[ok,I.os,I.bare,I.base,I.loc,I.cell,I.free,I.LG,I.pin,I.HH,I.len]
theorem j4 (h:SP (yJ X pins Ew) TK D f s'):SP X pins D f s':=by
 cases f with
 |next=>obtain⟨σ',H',I,q⟩:=h;exact#[σ',H',eS I,q]
 |brk=>obtain⟨σ',H',I,q⟩:=h;exact#[σ',H',eS I,q]
 |cont=>obtain⟨σ',H',I,q⟩:=h;exact#[σ',H',eS I,q]
 |ret u=>obtain⟨v,σ',H',I,r,q⟩:=h;exact#[v,σ',H',eS I,r,q]
theorem yC (I:aE X pins σ H s) (hn:H a=none) (z:X.OZ.heap.objs.size<=a) (nl:a≠X.env.locals) (nc: ∀x c,X.env.cells.lookup x=some c->c≠a) (np: ∀p∈X.pn++pins,p.1≠a)
  (new:cw X.prog X.w (aF H a o) s.heap a o):aE X pins σ (aF H a o) s:=by
 have ne: ∀b u,H b=some u->b≠a:=fun b u e y=>by rw[y,hn] at e;cases e
 refine I.step (h':=s.heap) (g':=s.gens) (t':=s.toks) (d':=s.drawn) (ch:=[a]) (fun b hb=>?_) (fun b o _ _ _ e _=>e) (fun b o _ _ _ e _=>#[o.slots,e]) (fun b o hb e y=>?_) (fun b o _ e=>#[o,e]) (fun b xs e=>?_) (fun b o u e=>?_) (fun b ps e=>#[[].toArray,?_]) (fun m y=>y) (fun b u e=>?_) I.bare
 ·rw[Fd.mp hb];exact#[.inr z,nl,nc,np]
 ·rw[ac (fun y=>hb (by rw[y];exact EO))];exact y
 ·rw[ac (ne b _ e)];exact e
 ·rw[ac (ne b _ e)];exact e
 ·rw[ac (ne b _ e),e];simp
 ·by_cases hb:b=a
  ·rw[hb,ae] at e
   rw[hb,<-E5 e];exact new
  ·rw[ac hb] at e
   exact(I.HH b u e).Rj (fun c v _ q=>q) (fun c q=>by rw[ac (ne c _ q)];exact q) fun c xs q=>by rw[ac (ne c _ q)];exact q
theorem Cg {m:Fh->ET EH}(I:aE X pins σ H s) (hn:h'.Ns X.env.locals m) (hs:LZ X.env.locals s.heap h'):aE X pins (Iz X.N.length none) H { s with heap:=h',toks:=t } :=by
 have W:aE X pins (Iz X.N.length none) H s:=I.weak (by rw[Ny];exact I.len.symm) fun i v e=>by
  rw[Kz] at e;split at e<;>cases e
 have nL: ∀b u,H b=some u->b≠X.env.locals:=fun b u e y=>by rw[y,I.free] at e;cases e
 obtain⟨ol,_,_,hol,_⟩:=id hn;refine#[W.ok,W.os,W.bare,#[fun b o e n hb hx=>?_,fun b o e n hb hx=>?_,W.base.free,fun b o e hx=>?_,W.base.Qw,W.base.P6,W.base.Qx],#[m,hn,fun i x v _ e _=>?_],fun x c e=>?_,W.free,W.LG,fun p hp=>?_,fun b u e=>?_,W.len]
 ·exact(hs.2 b (Gu [055])).trans (W.base.keep b o e n hb hx)
 ·obtain⟨sl,y⟩:=W.base.slot b o e n hb hx
  exact#[sl,(hs.2 b (Gu [055])).trans y]
 ·obtain⟨o',y⟩:=W.base.there b o e hx
  exact#[o',(hs.2 b (Gu [055])).trans y]
 ·rw[Kz] at e
  split at e<;>cases e
 ·obtain⟨v,o,y,yd⟩:=I.cell x c e
  exact#[v,o,(hs.2 c (I.Xi x c e)).trans y,yd]
 ·obtain⟨e1,e2,e3,e4⟩:=I.pin p hp
  exact#[(hs.2 p.1 e3).trans e1,e2,e3,e4]
 ·refine(I.HH b u e).Rj (fun c v hc q=>(hs.2 c ?_).trans q) [05] fun _ _ q=>q
  rcases hc with y|y
  ·rw[y];exact nL b u e
  ·exact nL c _ y
end
structure Own (X:Cx) (pins:EA (EJ×Ih)) (b:EJ):Prop where
 z:X.OZ.heap.objs.size<=b
 nl:b≠X.env.locals
 nc: ∀x c,X.env.cells.lookup x=some c->c≠b
 np: ∀p∈X.pn++pins,p.1≠b
theorem ug {X:Cx}{pins:EA (EJ×Ih)}{σ:St}{H:Hp}{s:EM}(I:aE X pins σ H s) (hb:s.heap.objs.size<=b):Own X pins b:=by
 refine#[Fj I.sz hb,KU (Fv I.lt hb),fun x c e z=>?_,fun p hp z=>?_]
 ·obtain⟨v,q⟩:=I.cell x c e
  exact E7 (Fv q.lt (by rw[z];exact hb)) (Hq _)
 ·exact E7 (Fv (Fn (I.pin p hp).1) (by rw[z];exact hb)) (Hq _)
def kh (C d a:EJ):HO:= .ext fun h=> ∃o vs,h.get? a=some o/\o.cls= .ref C/\o.dict=some d/\o.data= .fields vs
structure DH (X:Cx) (pins:EA (EJ×Ih)) (H:Hp) (h:Gn) (C d a:EJ):Prop where
 own:Own X pins a
 no:H a=none
 ex: ∃oe vs T oT ts,h.get? a=some oe/\oe.cls= .ref C/\oe.dict=some d/\oe.data= .fields vs/\vs[1]?=some (.ref T)/\T≠a/\H T=none/\Own X pins T/\h.get? T=some oT/\oT.data= .fields ts/\ts[3]?=some .none
abbrev akT (X:Cx) (hs:EA ExceptHandler) (Q:Flow->EM->Prop):EH->EM->Prop:=fun e s1=>Fl (model X.prog X.w) X.A (Pd e X.env) (fun _ s2=>Fl (model X.prog X.w) X.A (QW e none) (fun _ s3=>Fl (model X.prog X.w) X.A (handleBy e X.env hs) Q X.xe s3) X.xe s2) X.xe s1
section
variable {Q:Flow->EM->Prop}{Ek:XK}
theorem Da (JS:X.stack=X.env::X.outer) (Rx:X.env.frame=some X.env.locals)
  (hh: ∀(C a d:EJ) (σ:St) (H:Hp) (s:EM),aE X pins σ H s->DH X pins H s.heap C d a->Ek (.ref C) (some d) H->Fl (model X.prog X.w) X.A (handleBy (.ref a) X.env hs) Q X.xe s):
  dh (fW X.prog X.w) (yJ X pins (akT X hs Q)) Ek:=by
 intro TK σ H s e s' I h;obtain⟨C,a,d,H',rfl,os,bare,un,HH,za,ha,⟨oe,vs,T,oT,ts,x1,x2,x3,x4,x5,x6,x7,x8,x9,x10,x11⟩,hE⟩:=h;have J0:=I.VA (ch:=[]) os un HH bare (fun b z=>nomatch z)
 have J:aE X pins σ H' s':=eS J0
 have oa:Own X pins a:=ug (eS I) za
 have oT':Own X pins T:=ug (eS I) x6
 have fr:X.A.frames=some (X.env::X.outer):=by rw[J.ok.frames,JS]
 have st:s'.heap.FunFrames X.base (X.env::X.outer):=by rw[<-JS];exact J.stack
 show Fl (model X.prog X.w) X.A (Pd (.ref a) X.env) _ _ s'
 refine wz (base:=X.base) fr st Rx x1 x4 x5 x7 x9 x10 x11 fun h' L=>?_;have ck: ∀b∈[a,T],H' b=none:=fun b hb=>by
  rcases EW.mp hb with z|z
  ·rw[z];exact ha
  ·rw[Fd.mp z];exact x8
 have fq:(X.env::X.outer).filterMap (·.frame)=rk X.stack:=by rw[JS];rfl
 rw[fq] at L;have hk:hX X.prog X.w H' h':=fun b u e=>by
  refine(J.HH b u e).Rj (fun c v hc q=>L.keep c v [030] [030] q) [05] fun _ _ q=>q
  ·have y:=J.PZ c z
   rcases hc with w1|w1
   ·rw[w1,e] at y;cases y
   ·rw[w1] at y;cases y
  ·have y:=ck c z
   rcases hc with w1|w1
   ·rw[w1,e] at y;cases y
   ·rw[w1] at y;cases y
 have K1:aE X pins σ H' { s' with heap:=h' } :=by
  refine J.call (g':=s'.gens) (t':=s'.toks) (d':=s'.drawn) (ch:=[a,T]) #[fun b o e n hb hx=>L.keep b o hb hx e,fun b o e n hb hx=>L.slot b o hb hx e,fun b o e n hx=>n,fun b o e hx=>L.there b o e,fun _ _ e=>e,fun _ _ _ e=>e,fun b ps e=>#[[].toArray,by rw[e];simp]] hk J.bare fun b hb=>?_;rcases EW.mp hb with z|z
  ·rw[z];exact#[.inr oa.z,oa.nl,oa.nc,oa.np]
  ·rw[Fd.mp z];exact#[.inr oT'.z,oT'.nl,oT'.nc,oT'.np]
 obtain⟨ws,T2,oT2,ts2,y1,y2,y3,y4,y5,y6,y7⟩:=L.fly;exact hh C a d σ H' _ K1 #[oa,ha,_,ws,T2,oT2,ts2,y1,x2,x3,rfl,y2,y4,J.HH.fresh y3,ug J y3,y5,y6,y7] hE
end
section
variable {a:EJ}{H:Hp}{th:TS}
def Cb (R G C:EJ):Prop:=G=C\/G=R
theorem BH (XC:dA X.K R C fI) (hG:Cb R G C) {E:EH->EM->Prop}{Q:FR->EM->Prop}(I:aE X pins σ H s) (cm:DH X pins H s.heap C d a) (q:Q true s):Fl M A (excMatches (.ref a) (.ref G)) Q E s:=by
 obtain⟨Nn,mN,oI,NR,mR,⟨nm,qq,bs,sn,sub,ab,col,dd,k0,k1,k2,k3,k5,hC⟩,_,_,_,_,_,⟨nm',qq',bs',sn',alL,ab',alM,V1,k0',k1',k2',k3',k5',hR⟩,_⟩:=XC.at_ _ I.MI;obtain⟨oe,vs,T,oT,ts,y1,y2,_⟩:=cm.ex;obtain⟨h1,g1,d1,t1,VE⟩:=s;rcases hG with rfl|rfl
 ·exact wpAny_excMatches_sub_self hC y1 y2 (by rw[FY];rfl) q
 ·have u1:(Fq G::cT).contains (.type "BaseException")=true:=by rw[FY];rfl
  have u2:(Fq C:: .ref G::cT).contains (.ref G)=true:=by simp
  have f:=tc_notTuple;unfold excMatches
  repeat (first|(with_reducible refine FW y1 ?_;rw[y2])|with_reducible refine FW hR ?_|(with_reducible refine wpAny_isSubtype_exc hR ?_;rw[u1])|(with_reducible refine wpAny_isSubtype_exc hC ?_;rw[u2])|wp_step)
  exact q
theorem uE {E:EH->EM->Prop}{Q:Mo->EM->Prop}(I:aE X pins σ H s) (cm:DH X pins H s.heap C d a)
  (h: ∀s',aE X pins σ H s'->(∃o vs,s'.heap.get? a=some o/\o.cls= .ref C/\o.dict=some d/\o.data= .fields vs)->Q () s'):Fl M A (QW (.ref a) none) Q E s:=by
 obtain⟨oe,vs,T,oT,ts,y1,y2,y3,y4,y5,y6,y7,y8,y9,y10,y11⟩:=cm.ex;refine wpAny_setFlight_none y1 y4 y5 y9 y10 (JT.mp y11).1 (h _ (I.turned (it:=T) (t':=s.toks) (fun b o hb e=>by rw[GA _ _ (HS hb)];exact e) y7 y8.nl (.inr y8.z) y8.nc y8.np) ?_);exact#[oe,vs,by show(s.heap.update T _).get? a=_;rw[GA _ _ y6];exact y1,y2,y3,y4]
theorem aat (XC:dA X.K R C fI) (hG:Cb R G C) (hg:Gl X x) (hm:X.mg x=some (.ref G)) (hN:X.N.Nodup) (hi:X.N[i]?=some n) (hl:X.env.scope.names.lookup n=some .local) (hs:tY (CU X a) (b0::TY) th)
  (I:aE X pins σ H s) (cm:DH X pins H s.heap C d a) (hr:th #[fun _ _=>False,D.rt,fun _ _=>False,fun _ _=>False] ((Iz X.N.length none).set i (some (.ref a))) (aF H a (kh C d a)))
  (Rl:(x == [003])=false:=by decide):
  Fl (model X.prog X.w) X.A (handleBy (.ref a) X.env [.ExceptHandler (some (.Name x np)) (some n) (b0::TY) agJ]) (SP X pins D) X.xe s:=by
 refine wpAny_handleBy_cons (codeAny_handlers_test ?_) (by intro q;cases q);refine gj (X:=CU X a) (w6 I) hg hm ?_ Rl;refine BH XC hG I cm ?_;show KP _ _ _ _ _;refine codeAny_handlers_suite_as (uE I cm fun s1 I1 e1=>?_);have I2:aE X pins (Iz X.N.length none) H s1:=I1.weak (by rw[Ny];exact I1.len.symm) fun i v e=>by
  rw[Kz] at e;split at e<;>cases e
 have I3:aE X pins (Iz X.N.length none) (aF H a (kh C d a)) s1:=
  yC I2 cm.no cm.own.z cm.own.nl cm.own.nc cm.own.np #[e1,#[_,e1.choose_spec.choose_spec.1],fun _ _ ⟨o,vs,z,r⟩ k=>#[o,vs,k _ z,r]]
 refine jM (X:=CU X a) (v:= .ref a) (w6 I3) hN hi (.inl hl) rfl (fun s4 I4=>?_) (.inr hl);refine HP (hs pins s4 _ _ _ I4 hr) (fun f s5 z=>?_) fun _ _ z=>z.elim;cases f with
 |next=>obtain⟨_,_,_,z⟩:=z;exact z.elim
 |brk=>obtain⟨_,_,_,z⟩:=z;exact z.elim
 |cont=>obtain⟨_,_,_,z⟩:=z;exact z.elim
 |ret u=>
  obtain⟨v,σ5,H5,I5,r5,q5⟩:=z;obtain⟨m,hn,_⟩:=id I5.loc;refine wpAny_nameGoes hl hn (by rw[I.ok.kind];rfl) fun h' m' n' sb=>#[v,_,H5,Cg (yM I.ok I5) n' sb,r5,q5]
end
section
variable {tb th:TS}{Ek:XK}
def aau (Ek:XK) (m i:E1) (tb th:TS):TS:=fun D σ H=>tb D σ H/\ ∀C d H' a,Ek (.ref C) (some d) H'->H' a=none->
 th #[fun _ _=>False,D.rt,fun _ _=>False,fun _ _=>False] ((Iz m none).set i (some (.ref a))) (aF H' a (kh C d a))
theorem BL (Ek:XK) (JS:X.stack=X.env::X.outer) (Rx:X.env.frame=some X.env.locals) (hE: ∀C d H,Ek (.ref C) (some d) H-> ∃fI,dA X.K R C fI/\Cb R G C) (hg:Gl X x) (hm:X.mg x=some (.ref G)) (hN:X.N.Nodup) (hi:X.N[i]?=some n) (hl:X.env.scope.names.lookup n=some .local)
  (hb: ∀pins Ew,dh (fW X.prog X.w) (yJ X pins Ew) Ek->tY (yJ X pins Ew) body tb) (hs: ∀a,tY (CU X a) (b0::TY) th) (Rl:(x == [003])=false:=by decide):
  PS X (.Try body [.ExceptHandler (some (.Name x np)) (some n) (b0::TY) agJ] [] [] pos) (aau Ek X.N.length i tb th):=by
 rw[04];refine wpAny_Try_except ?_;have P:=Da (hs:=[.ExceptHandler (some (.Name x np)) (some n) (b0::TY) agJ]) (Q:=SP X pins D) (Ek:=Ek) JS Rx fun C a d σ1 H1 s1 I1 cm hE1=>(hE C d H1 hE1).elim fun fI ⟨XC,hG⟩=>aat (D:=D) XC hG hg hm hN hi hl (hs a) I1 cm (h.2 C d H1 a hE1 cm.no) Rl
 refine HP (hb pins _ P [] s σ H D (zx I) h.1) (fun f s1 z=>?_) fun e s1 z=>z;cases f with
 |next=>exact Mj (j4 z)
 |brk=>exact j4 z
 |cont=>exact j4 z
 |ret u=>exact j4 z
def agK (K:EF) (te:TE) (f:Fh):TE:=fun σ H Q=>te σ H fun x H1=> ∃R C fI a d fs v,dA K R C fI/\x= .ref a/\H1 a=some (kh C d a)/\H1 d=some (ci d fs)/\fs.lookup f=some v/\Q v H1
theorem DJ {te:TE}{K:EF}(hK:X.K=K) (hf:f∈c8) (hB:Hg [025] f=pure none) (he:PE X e te) (hb:HM e f X.env (eval e X.env)=eval e X.env):PE X (.Attribute e f pos) (agK K te f):=by
 rw[01];subst hK;refine wE hb (ca [043] fun u s1 ⟨x,H1,I1,rx,R,C,fI,a,d,fs,v,XC,ex,ea,ed,l,q⟩=>?_);rw[008];obtain⟨z,_⟩:=I1.HH _ _ ea;exact Dy (φ:=fun _=>True) XC hf hB I1 z ed l fun u' s2 I2 ru=>#[v,H1,I2,ru,q]
end
theorem mE:Hg [025] "number"=pure none:=by rw[JV,Iv];kernel_rfl
theorem BK:Hg [025] "kind"=pure none:=by rw[JV,Iv];kernel_rfl
theorem AV:Hg [025] "line"=pure none:=by rw[JV,Iv];kernel_rfl
theorem uO:Hg [025] "column"=pure none:=by rw[JV,Iv];kernel_rfl
abbrev Bx (n l c:Int):EA (Fh×V):=[("number", .int (-3)),("kind", .int n),("line", .int l),("column", .int c)]
abbrev DO (n:Int):EA (Fh×V):=[("number", .int n)]
def agL:EA V->EA (Fh×V)->Prop:=fun us fs=> ∃n:Int,us=[.int n]/\fs=DO n
def aav:EA V->EA (Fh×V)->Prop:=fun us fs=> ∃n l c:Int,us=[.int n, .int l, .int c]/\fs=Bx n l c
theorem bO (T:aU K mg a) (XC:dA K a.GB C fI):T.VW.U P w mg base 1 (dP C agL):=by
 refine T.VW.F.ok akb [061] [02]
 ·obtain⟨p,us,fs,rfl,⟨n,rfl,rfl⟩,_⟩:=h
  rfl
 ·obtain⟨p,us,fs,rfl,⟨n,rfl,rfl⟩,hp,q⟩:=h
  refine#[_,(ax (uI (C:=C) (fI:=fI) XC (by rfl) T.RT (pv 0))
   (ah (agI XC HG [00] mE (pv 0) (pv 1) rfl))),?_]
  exact#[p,rfl,hp,p,rfl,hp,fun d hd=>q d hd]
theorem jh (T:aU K mg a) (XC:XT K a):T.d_1.U P w mg base 2 (dP a.Hd aav):=by
 have G:=bO (P:=P) (w:=w) (base:=base) T XC.fc;refine T.d_1.F.ok akc [061] [02]
 ·obtain⟨p,us,fs,rfl,⟨n,l,c,rfl,rfl⟩,_⟩:=h
  rfl
 ·obtain⟨p,us,fs,rfl,⟨n,l,c,rfl,rfl⟩,hp,q⟩:=h
  refine#[_,(ax (bi (e8 (by rfl) T.Hi XC.rm G [07] T.VW.c.b .nil aY [040]))
   (ax (Au XC.fc HG [00] BK (pv 0) (pv 1) rfl)
   (ax (Au XC.fc HG [00] AV (pv 0) (pv 2) rfl)
   (ah (Au XC.fc HG [00] uO (pv 0) (pv 3) rfl))))),?_]
  refine#[_,rfl,p,_,DO (-3),rfl,#[-3,rfl,rfl],hp,fun d hd=>?_];have np:d≠p:=(ai hp hd).symm;have z:=q d hd;refine#[p,d,_,rfl,ae,by rw[ac np,ae],by show 1<1000;decide,?_];refine#[p,d,_,rfl,by rw[ac np.symm,ae],ae,by show 2<1000;decide,?_];refine#[p,d,_,rfl,by rw[ac np.symm,ac np.symm,ae],ae,by show 3<1000;decide,?_];have eH: ∀f1 f2 f3 f4:EA (Fh×V),aF (aF (aF (aF (aF H d (ci d f1)) p (ka a.Hd d p)) d (ci d f2)) d (ci d f3)) d (ci d f4)=aF (aF H d (ci d f4)) p (ka a.Hd d p):=fun f1 f2 f3 f4=>by
   funext b
   by_cases hb:b=d
   ·rw[hb,ae,ac np,ae]
   ·rw[ac hb,ac hb,ac hb]
    by_cases hb2:b=p
    ·rw[hb2,ae,ae]
    ·rw[ac hb2,ac hb,ac hb2,ac hb]
  show Q .HZ _
  rw[eH];exact z
inductive tU:EA Fh->EA Stmt->Prop
 |nil:tU [] []
 |cons {f:Fh}{fs:EA Fh}{ss:EA Stmt}{p1 p2 p3 p4:Pos}(_:tU fs ss):tU (f::fs) (.Assign [.Attribute (.Name "self" p1) f p2] (.Name f p3) p4::ss)
inductive lw (C:EJ) (fs:EA Fh) (vs:EA V) (H:Hp) (Q:VK) (_E:XK):Prop
 |mk (p dx:EJ) (ws:EA V) (_:vs= .ref p::ws) (_:ws.length=fs.length) (_:H p=some (.ins C dx [])) (_: ∀H':Hp,H' p=some (.ins C dx (fs.zip ws))->(∀b o,H b=some o->b≠p->H' b=some o)->Q .HZ H'):lw C fs vs H Q _E
theorem tQ {f:Fh}{v:V} : ∀ {l:EA (Fh×V)},(∀x∈l,x.1≠f)->Hs f v l=l++[(f,v)]
 |[],_=>rfl
 | (g,x)::r,h=>by
  unfold Hs;rw[EI (h _ EO),tQ fun y hy=>h y (EN _ hy)]
  rfl
theorem Dn {X:Cx}{D:eG}{p dx C:EJ}{σ:L2.St}(c:gA X.K C) (h0:X.N[0]?=some ("self":Fh)) (v0:oH X.env.scope "self") (s0:σ[0]?=some (some (.ref p))):
  ∀ {fs:EA Fh}{ss:EA Stmt},tU fs ss-> ∀ {k:E1}{ws:EA V}{done:EA (Fh×V)}{H:Hp},(∀g∈fs,ao X.K C g/\oH X.env.scope g/\(g == [003])=false/\(g == ("__classdict__":Fh))=false)->
   (∀i g,fs[i]?=some g->X.N[k+i]?=some g)->(∀i v,ws[i]?=some v->σ[k+i]?=some (some v))->ws.length=fs.length->(done.map (·.1)++fs).Nodup->done.length+fs.length<1000->H p=some (.ins C dx done)->
   (∀H':Hp,H' p=some (.ins C dx (done++fs.zip ws))->(∀b o,H b=some o->b≠p->H' b=some o)->D.nx σ H')->Bd X ss D σ H:=by
 intro fs ss hi
 induction hi with
 |nil=>
  intro k ws done H _ _ _ hl _ _ hp q;refine cc (q H ?_ fun b o e _=>e);rw[MW.mp hl,EA.zip_nil_left,Gw];exact hp
 | @cons f fs ss p1 p2 p3 p4 _ ih=>
  intro k ws done H hg hN hw hl nd len hp q;cases ws with
  |nil=>cases hl
  |cons v ws=>
   obtain⟨no,vf,d1,d2⟩:=hg f EO;refine aQ (b5 (dU h0 v0) (dU (hN 0 f rfl) vf d1 d2) rfl) (m6 (m6 #[p,C,dx,done,rfl,hp,c,no,by lia,?_] s0) (hw 0 v rfl));have nf: ∀x∈done,x.1≠f:=fun x hx e=>by
    have:=(KO.mp nd).2.2 x.1 (Kc hx) f EO;exact this e
   rw[tQ nf];refine ih (k:=k+1) (ws:=ws) (done:=done++[(f,v)]) (fun g h=>hg g (EN _ h)) (fun i g e=>?_) (fun i u e=>?_) (QK hl) ?_ ?_ ae fun H' h1 h2=>?_
   ·rw[RD,J7 1];exact hN (i+1) g e
   ·rw[RD,J7 1];exact hw (i+1) u e
   ·rw[GG,F4];exact nd
   ·rw[Fc]
    have:done.length+(fs.length+1)<1000:=len
    show done.length+1+fs.length<1000
    lia
   ·refine q H' ?_ fun b o e ne=>h2 b o (by rw[ac ne];exact e) ne
    rw[h1,F4]
    rfl
theorem c7 {x Gz:Fh}{st:Stmt}{f:EJ}{fd:FL}{C:EJ}{fs:EA Fh}(F:oJ K x Gz st f fd) (S:az ("self"::fs) ("self"::fs) (af st)) (c:gA K C) (no: ∀g∈fs,ao K C g) (i:tU fs (a7 st))
  (hd:(fs.length<1000/\ ∀g∈fs,(g == [003])=false/\(g == ("__classdict__":Fh))=false):=by decide):bS P w K mg base wX 1 f fd ("self"::fs) (lw C fs):=by
 refine F.ok S [061] [02]
 ·obtain⟨p,dx,ws,rfl,h,_⟩:=h
  exact FN Q0 h
 ·obtain⟨p,dx,ws,rfl,hl,hp,q⟩:=h
  have ZL: ∀g∈("self":Fh)::fs,oH (af st) g:=fun g hg=>(S.par g hg).elim .inl fun z=> .inr (.inl z)
  have e:L2.start ("self"::fs) (.ref p::ws)=some (.ref p)::ws.map some:=by
   unfold L2.start;rw[show(("self":Fh)::fs).length-(V.ref p::ws).length=0 by rw[EZ,EZ,hl,PK]];exact Gw _
  rw[e];refine Dn (C:=C) (p:=p) (dx:=dx) c rfl (ZL _ EO) rfl i (k:=1) (ws:=ws) (done:=[]) (fun g hg=>#[no g hg,ZL g (EN _ hg),hd.2 g hg]) (fun i g e=>by rw[J7];exact e) (fun i v e=>?_) hl (FI.mp S.nd).2 (by rw[JK,J8];exact hd.1) hp fun H' h1 h2=>q H' h1 h2;rw[J7,EA.getElem?_cons_succ,FQ,e]
  rfl
def qJ (q kd fn ds bl:EJ) (n:E1):EA (Fh×V):=[("tokens", .ref q),("at", .int n),("known", .ref kd),("functions", .ref fn),("desks", .ref ds),("blocks", .ref bl)]
inductive XF (a:bf) (H:Hp) (q:EJ) (n:E1) (t:EG):Prop
 |mk (as:EA EJ) (all:EG) (_:H q=some (.lst (as.map V.ref))) (_:Paired (fM a.IA H) as all) (_:all.drop n=t):XF a H q n t
structure mZ (a:bf) (H:Hp) (r q kd fn ds bl:EJ) (n:E1) (t:EG):Prop where
 ins: ∃dr,H r=some (.ins a.FX dr (qJ q kd fn ds bl n))
 toks:XF a H q n t
def nF (C:EJ) (E:XK) (H:Hp) (n:E1) (x:FT):Prop:= ∀d,H d=none->E (.ref C) (some d) (aF H d (ci d (Bx n x.1 x.2)))
theorem iX {α β:Type}{F:α->β->Prop} : ∀ {l:EA α}{m:EA β}{i:E1}{y:β},Paired F l m->m[i]?=some y-> ∃x,l[i]?=some x/\F x y
 |_,_,_,_, .nil,h=>by cases h
 |_,_,0,_, .cons r t,h=>#[_,rfl,by obtain rfl:=E5 h;exact r]
 |_,_,i+1,_, .cons r t,h=>iX (i:=i) t h
theorem ym {α:Type}{l t:EA α}{x:α}(h:l.drop n=x::t):l[n]?=some x:=by
 have:=FN (fun z:EA α=>z[0]?) h
 simpa using this
theorem mZ.cur {a:bf}{H:Hp}{r q kd fn ds bl:EJ}{n:E1}{x:F5×FT}{t:EG}(R:mZ a H r q kd fn ds bl n (x::t)):
  ∃(as:EA EJ) (p:EJ),H q=some (.lst (as.map V.ref))/\(as.map V.ref)[n]?=some (.ref p)/\fM a.IA H p x:=by
 obtain⟨as,all,h1,h2,h3⟩:=R.toks;obtain⟨p,e,k⟩:=iX h2 (ym h3);exact#[as,p,h1,by rw[FQ,e];rfl,k]
inductive XG (a:bf) (vs:EA V) (H:Hp) (Q:VK) (E:XK):Prop
 |mk (r q kd fn ds bl:EJ) (n:E1) (x:F5×FT) (t:EG) (_:vs=[.ref r]) (_:mZ a H r q kd fn ds bl n (x::t)) (_:[026]) (_:(x.1≠ .bad-> ∀p,fM a.IA H p x->Q (.ref p) H)):XG a vs H Q E
inductive Ci (a:bf) (vs:EA V) (H:Hp) (_Q:VK) (E:XK):Prop
 |mk (r q kd fn ds bl:EJ) (n:E1) (x:F5×FT) (t:EG) (m:E1) (_:vs=[.ref r, .int m]) (_:mZ a H r q kd fn ds bl n (x::t)) (_:nF a.Hd E H (if x.1= .bad then 1 else m) x.2):Ci a vs H _Q E
theorem pU:hU x=4 ↔ x= .bad:=by cases x<;>simp [hU]
theorem cZ (T:aU K mg a) (XC:XT K a):T.Vp.O P w mg base 4 (XG a):=by
 have G:=jh (P:=P) (w:=w) (base:=base) T XC;refine fO T.Vp.F af7 [03] [02];rw[019];obtain⟨as,p,eq,ep,tp⟩:=R.cur
 have tp':=tp;obtain⟨dx,et⟩:=tp';refine#[_,(ax (cG (i:=1) af7.nd rfl (Gx rfl) (cJ bA [001] [001] [002]))
   (ax (cy (a8 b8 [010] (aR (by rfl) T.OJ) (aM _)) (ah (sA eu XC.fc G [07] (by rfl) T.P7 T.d_1.c.b (aa (aR (by rfl) T.QD) (aa [010] (aa [010] ag))))) br)
   (ah (aJ (pv 1))))),?_]
 refine#[r,_,dr,_,_,rfl,er,T.Fy,T.K4,rfl,r,_,dr,_,_,rfl,er,T.Fy,T.JY,rfl,q,_,n, .ref p,rfl,rfl,cP.of eq,bo ep,?_];refine#[p,_,dx,_,_,rfl,et,T.HU,T.JF,rfl,rfl,_,rfl,?_];rw[cj];rw[03]
 ·have xb:=pU.mp (Ft e)
  exact#[p,_,dx,_,_,rfl,et,T.HU,T.Ms,rfl,p,_,dx,_,_,rfl,et,T.HU,T.Ln,rfl,(by show 3<=9;decide),_,#[_,_,_,rfl,rfl],hb xb]
 ·have xb:x.1≠ .bad:=fun z=>Fw e (pU.mpr z)
  exact(hg xb p tp)
inductive rN (a:bf) (b:F5->FR) (vs:EA V) (H:Hp) (Q:VK) (E:XK):Prop
 |mk (r q kd fn ds bl:EJ) (n:E1) (x:F5×FT) (t:EG) (_:vs=[.ref r]) (_:mZ a H r q kd fn ds bl n (x::t)) (_:[026]) (_:(x.1≠ .bad->Q (.bl (b x.1)) H)):rN a b vs H Q E
def lQ (v:Fh) (k:F5):FR:=decide (ib k= .str v)
inductive CO (a:bf) (vs:EA V) (H:Hp) (Q:VK) (E:XK):Prop
 |mk (r q kd fn ds bl:EJ) (n:E1) (x:F5×FT) (t:EG) (v:Fh) (_:vs=[.ref r, .str v]) (_:mZ a H r q kd fn ds bl n (x::t)) (_:[026]) (_:(x.1≠ .bad->Q (.bl (lQ v x.1)) H)):CO a vs H Q E
def past (a:bf) (H:Hp) (r q kd fn ds bl:EJ) (n:E1) (H':Hp):Prop:= ∃dr,H r=some (.ins a.FX dr (qJ q kd fn ds bl n))/\H'=aF H r (.ins a.FX dr (qJ q kd fn ds bl (n+1)))
inductive AK (a:bf) (vs:EA V) (H:Hp) (Q:VK) (E:XK):Prop
 |mk (r q kd fn ds bl:EJ) (n:E1) (x:F5×FT) (t:EG) (_:vs=[.ref r]) (_:mZ a H r q kd fn ds bl n (x::t)) (_:[026]) (_:(x.1≠ .bad-> ∀H',past a H r q kd fn ds bl n H'->Q (ib x.1) H')):AK a vs H Q E
inductive tX (a:bf) (vs:EA V) (H:Hp) (Q:VK) (E:XK):Prop
 |mk (r q kd fn ds bl:EJ) (n:E1) (x:F5×FT) (t:EG) (v:Fh) (_:vs=[.ref r, .str v]) (_:mZ a H r q kd fn ds bl n (x::t)) (_:[026]) (_:(x.1≠ .bad->lQ v x.1=false->nF a.Hd E H 2 x.2)) (_:(x.1≠ .bad->lQ v x.1=true-> ∀H',past a H r q kd fn ds bl n H'->Q .HZ H')):tX a vs H Q E
inductive wb (a:bf) (vs:EA V) (H:Hp) (Q:VK) (E:XK):Prop
 |mk (r q kd fn ds bl:EJ) (n:E1) (x:F5×FT) (t:EG) (v:Fh) (_:vs=[.ref r, .str v]) (_:mZ a H r q kd fn ds bl n (x::t)) (_:[026]) (_:(x.1≠ .bad->lQ v x.1=false->Q (.bl false) H)) (_:(x.1≠ .bad->lQ v x.1=true-> ∀H',past a H r q kd fn ds bl n H'->Q (.bl true) H')):wb a vs H Q E
theorem mZ.step {a:bf}{H H':Hp}(R:mZ a H r q kd fn ds bl n (x::t)) (h:past a H r q kd fn ds bl n H'):mZ a H' r q kd fn ds bl (n+1) t:=by
 obtain⟨dr,e,rfl⟩:=h;obtain⟨as,all,h1,h2,h3⟩:=R.toks;refine#[#[dr,ae],as,all,?_,Paired.M7 h2 fun b z k=>?_,?_]
 ·have ne:q≠r:=fun z=>by rw[z,e] at h1;cases h1
  rw[ac ne];exact h1
 ·obtain⟨dx,ez⟩:=k
  have ne:b≠r:=fun z=>by
   rw[z,e] at ez;have:=FN NP (HO.ins.inj (E5 ez)).2.2;cases this
  exact#[dx,by rw[ac ne];exact ez]
 ·have:=FN (EA.drop 1) h3
  rw[NO] at this;exact this
theorem CG:ZQ (ib x) (.str v)=true:=by cases x<;>rfl
def lB:F5->FR
 | .num _=>true
 |_=>false
def Bu:F5->FR
 | .eof=>true
 |_=>false
theorem fG (T:aU K mg a) (XC:XT K a):T.Vq.O P w mg base 5 (Ci a):=by
 have G:=jh (P:=P) (w:=w) (base:=base) T XC;rw[007];refine fO T.Vq.F af8 [03] [02];obtain⟨r,q,kd,fn,ds,bl,n,x,t,m,rfl,R,hf⟩:=h;rw[08];refine#[_,(ax (cG (i:=2) af8.nd rfl (Gx rfl) [036])
   (ah (sA eu XC.fc G [07] (by rfl) T.P7 T.d_1.c.b (aa (pv 1) (aa (ak (pv 2) rfl) (aa (ak (pv 2) rfl) ag)))))),?_]
 refine#[r,dr,_,rfl,er,rfl,r,q,kd,fn,ds,bl,n,x,t,rfl,R,fun b=>by rw[EL b] at hf;exact hf,fun nb p tp=>?_];rw[EI nb] at hf;obtain⟨dx,et⟩:=tp;exact#[p,_,dx,_,_,rfl,et,T.HU,T.Ms,rfl,p,_,dx,_,_,rfl,et,T.HU,T.Ln,rfl,(by show 3<=9;decide),_,#[_,_,_,rfl,rfl],hf]
theorem lY (T:aU K mg a) (XC:XT K a):T.d_p.O P w mg base 5 (CO a):=by
 rw[007];refine fO T.d_p.F aky [03] [02];obtain⟨r,q,kd,fn,ds,bl,n,x,t,v,rfl,R,hb,hg⟩:=h;rw[08];refine#[_,(ah (aJ (b9 b8 (ak [036] rfl) (pv 1) (aM _)))),?_];refine [060];obtain⟨dx,et⟩:=tp;exact#[p,_,dx,_,_,rfl,et,T.HU,T.IP,rfl,CG,hg nb]
theorem xG (T:aU K mg a) (XC:XT K a):T.Y9.O P w mg base 5 (rN a Bu):=by
 rw[007];refine fO T.Y9.F af9 [03] [02];rw[019];refine#[_,(ah (aJ (b9 b8 (ak [036] rfl) (aR (by rfl) T.Xd) (aM _)))),?_];refine [060];obtain⟨dx,et⟩:=tp;refine#[p,_,dx,_,_,rfl,et,T.HU,T.JF,rfl,rfl,?_];have z:=hg nb;rw[cj];have e:decide (hU x.1=3)=Bu x.1:=by cases x.1<;>rfl
 rw[e];exact z
theorem qX (T:aU K mg a) (XC:XT K a):T.Za.O P w mg base 5 (rN a lB):=by
 rw[007];refine fO T.Za.F aga [03] [02];rw[019];refine#[_,(ah (aJ (b9 b8 (ak [036] rfl) (aR (by rfl) T.OI) (aM _)))),?_];refine [060];obtain⟨dx,et⟩:=tp;refine#[p,_,dx,_,_,rfl,et,T.HU,T.JF,rfl,rfl,?_];have z:=hg nb;rw[cj];have e:decide (hU x.1=1)=lB x.1:=by cases x.1<;>rfl
 rw[e];exact z
theorem qB (T:aU K mg a) (XC:XT K a):T.d_t.O P w mg base 5 (AK a):=by
 rw[007];refine fO T.d_t.F agd [03] [02];rw[019];refine#[_,(ax (cG (i:=1) agd.nd rfl (Gx rfl) [036])
   (ax (gG (pv 0) aj nB)
   (ah (aJ [010])))),?_]
 refine [060];obtain⟨dx,et⟩:=tp;have ne:p≠r:=fun z=>by
  rw[z,er] at et;have:=FN NP (HO.ins.inj (E5 et)).2.2;cases this
 refine#[r,_,dr,_,_,rfl,er,T.Fy,T.JY,rfl,_,_,rfl,rfl,dr,_,er,(by show 6<1000;decide),?_];exact#[p,_,dx,_,_,rfl,(by rw[ac ne];exact et),T.HU,T.IP,rfl,hg nb _ #[dr,er,rfl]]
def aaw:EA V:=[.str "const", .str "fun", .str "desk", .str "let", .str "for", .str "in", .str "if", .str "then", .str "else", .str "sell", .str "buy", .str "zone", .str "quarter", .str "price", .str "to", .str "amount", .str "block", .str "under", .str "group", .str "sum"]
def cN:F5->FR
 | .word u=>!tZ (.str (sb u)) aaw
 |_=>false
inductive AR (a:bf) (vs:EA V) (H:Hp) (Q:VK) (E:XK):Prop
 |mk (r q kd fn ds bl:EJ) (n:E1) (x:F5×FT) (t:EG) (_:vs=[.ref r]) (_:mZ a H r q kd fn ds bl n (x::t)) (_:[026]) (_:(x.1≠ .bad->cN x.1=false->nF a.Hd E H 2 x.2)) (_:(x.1≠ .bad->cN x.1=true->Q .HZ H)):AR a vs H Q E
inductive vU (a:bf) (vs:EA V) (H:Hp) (Q:VK) (E:XK):Prop
 |mk (r q kd fn ds bl:EJ) (n:E1) (x y:F5×FT) (t:EG) (_:vs=[.ref r]) (_:mZ a H r q kd fn ds bl n (x::y::t)) (_:Q (.bl (lB y.1)) H):vU a vs H Q E
theorem yz (T:aU K mg a) (XC:XT K a):T.Zc.O P w mg base 6 (tX a):=by
 have G_p:=lY (P:=P) (w:=w) (base:=base) T XC;rw[012];refine fO T.Zc.F age [03] [02];obtain⟨r,q,kd,fn,ds,bl,n,x,t,v,rfl,R,hb,hf,hg⟩:=h;rw[08];refine#[_,(ax (cy (kU (df (cx (pv 0) T.Fy T.d_p.c G_p [07] aA [031]))) (ah (bi (cx (pv 0) T.Fy T.Vq.c Us [07] aA (aa (aR (by rfl) T.Oa) ag)))) br)
   (ah (gG (pv 0) aj nB))),?_]
 refine#[r,dr,_,rfl,er,rfl,r,q,kd,fn,ds,bl,n,x,t,v,rfl,R,hb,fun nb=>[022]];cases e:lQ v x.1 with
 |false=>
  refine cf ?_;exact#[r,dr,_,rfl,er,rfl,r,q,kd,fn,ds,bl,n,x,t,2,rfl,R,by rw[EI nb];exact hf nb e]
 |true=>
  refine bK ?_;exact#[r,_,dr,_,_,rfl,er,T.Fy,T.JY,rfl,_,_,rfl,rfl,dr,_,er,(by show 6<1000;decide),hg nb e _ #[dr,er,rfl]]
theorem nI (T:aU K mg a) (XC:XT K a):T.d_U.O P w mg base 5 (rN a cN):=by
 rw[007];refine fO T.d_U.F agb [03] [02];rw[019];refine#[_,(ax (cG (i:=1) agb.nd rfl (Gx rfl) [036])
   (ah (aJ (on (b9 b8 [010] (aR (by rfl) T.SY) (aM _)) (jx (b9 jR [010] (iK (by rfl) T.RQ) rfl)))))),?_]
 refine [060];obtain⟨dx,et⟩:=tp;have z:=hg nb;refine#[p,_,dx,_,_,rfl,et,T.HU,T.JF,rfl,rfl,_,rfl,?_];rw[cj];cases e:x.1 with
 |word u=>
  rw[e] at z et;refine cf ?_;refine#[p,_,dx,_,_,rfl,et,T.HU,T.IP,rfl,_,_,rfl, .inr T.RR.sq,rfl,rfl,z]
 |num m=>rw[e] at z;exact bK z
 |sign u=>rw[e] at z;exact bK z
 |eof=>rw[e] at z;exact bK z
 |bad=>exact E7 e nb
theorem gR (T:aU K mg a) (XC:XT K a):T.d_z.O P w mg base 6 (AR a):=by
 have G_U:=nI (P:=P) (w:=w) (base:=base) T XC;rw[012];refine fO T.d_z.F akz [03] [02];obtain⟨r,q,kd,fn,ds,bl,n,x,t,rfl,R,hb,hf,hg⟩:=h;rw[08];refine#[_,(ah (cy (kU (df (bQ (pv 0) T.Fy T.d_U.c G_U [07] aA))) (ah (bi (cx (pv 0) T.Fy T.Vq.c Us [07] aA (aa (aR (by rfl) T.Oa) ag)))) br)),?_];refine#[r,dr,_,rfl,er,rfl,r,q,kd,fn,ds,bl,n,x,t,rfl,R,hb,fun nb=>[022]]
 cases e:cN x.1 with
 |false=>
  refine cf ?_;exact#[r,dr,_,rfl,er,rfl,r,q,kd,fn,ds,bl,n,x,t,2,rfl,R,by rw[EI nb];exact hf nb e]
 |true=>exact bK (hg nb e)
theorem jL (T:aU K mg a):T.Zb.U P w mg base 1 (vU a):=by
 refine T.Zb.F.ok agc [03] [02];obtain⟨r,q,kd,fn,ds,bl,n,x,y,t,rfl,R,z⟩:=h;rw[08];obtain⟨as,all,h1,h2,h3⟩:=R.toks;have h4:all[n+1]?=some y:=by
  have:=FN (fun z:EG=>z[1]?) h3
  simpa [J7] using this
 obtain⟨p,e,dx,et⟩:=iX h2 h4;have ep:(as.map V.ref)[n+1]?=some (.ref p):=by rw[FQ,e];rfl
 refine#[_,(ah (aJ (b9 b8 (ak (cJ bA [001] (b7 dX [001] aj) [002]) rfl) (aR (by rfl) T.OI) (aM _)))),?_];refine#[r,_,dr,_,_,rfl,er,T.Fy,T.K4,rfl,r,_,dr,_,_,rfl,er,T.Fy,T.JY,rfl,_,_,rfl,rfl,q,_,((n+1:E1):Int), .ref p,rfl,rfl,cP.of h1,bo ep,p,_,dx,_,_,rfl,et,T.HU,T.JF,rfl,rfl,?_];rw[cj];have e:decide (hU y.1=1)=lB y.1:=by cases y.1<;>rfl
 rw[e];exact z
abbrev nk (u:EC):a0:=Hu (sb u)
def has (aC:EA (a0×V)) (u:EC):FR:=(bN aC (nk u)).isSome
inductive AT (a:bf) (vs:EA V) (H:Hp) (Q:VK) (E:XK):Prop
 |mk (r q kd fn ds bl:EJ) (n:E1) (x:F5×FT) (t:EG) (kk ff:EA (a0×V)) (_:vs=[.ref r]) (_:mZ a H r q kd fn ds bl n (x::t)) (_:H kd=some (.dK kk)) (_:H fn=some (.dK ff)) (_:[026]) (_:(x.1≠ .bad->cN x.1=false->nF a.Hd E H 2 x.2)) (_:(∀u,x.1= .word u->cN x.1=true->(has kk u||has ff u)=true->nF a.Hd E H 4 x.2)) (_:(∀u,x.1= .word u->cN x.1=true->(has kk u||has ff u)=false-> ∀H',past a H r q kd fn ds bl n H'->Q (.str (sb u)) H')):AT a vs H Q E
inductive vY (a:bf) (vs:EA V) (H:Hp) (Q:VK) (E:XK):Prop
 |mk (r q kd fn ds bl g:EJ) (n:E1) (x:F5×FT) (t:EG) (gg:EA (a0×V)) (_:vs=[.ref r, .ref g]) (_:mZ a H r q kd fn ds bl n (x::t)) (_:H g=some (.dK gg)) (_:[026]) (_:(x.1≠ .bad->cN x.1=false->nF a.Hd E H 2 x.2)) (_:(∀u,x.1= .word u->cN x.1=true->has gg u=true->nF a.Hd E H 4 x.2)) (_:(∀u,x.1= .word u->cN x.1=true->has gg u=false-> ∀H',past a H r q kd fn ds bl n H'->Q (.str (sb u)) H')):vY a vs H Q E
inductive wq (a:bf) (vs:EA V) (H:Hp) (Q:VK) (_E:XK):Prop
 |mk (r dr q kd fn ds bl:EJ) (n:E1) (u:EC) (kk:EA (a0×V)) (_:vs=[.ref r, .str (sb u)]) (_:H r=some (.ins a.FX dr (qJ q kd fn ds bl n))) (_:H kd=some (.dK kk)) (_:kk.length<FE) (_:Q .HZ (aF H kd (.dK (dy kk (nk u) (.bl true))))):wq a vs H Q _E
inductive rA (a:bf) (vs:EA V) (H:Hp) (Q:VK) (_E:XK):Prop
 |mk (r dr q kd fn ds bl:EJ) (n:E1) (u:EC) (kk:EA (a0×V)) (_:vs=[.ref r, .str (sb u)]) (_:H r=some (.ins a.FX dr (qJ q kd fn ds bl n))) (_:H kd=some (.dK kk)) (_:has kk u=true) (_:Q .HZ (aF H kd (.dK (fD kk (nk u))))):rA a vs H Q _E
theorem Cu (T:aU K mg a):T.Zh.U P w mg base 1 (wq a):=by
 refine T.Zh.F.ok agh [03] [02];obtain⟨r,dr,q,kd,fn,ds,bl,n,u,kk,rfl,er,ek,lk,hq⟩:=h;refine#[_,(ah (gW (dj hr) [001] (pv 1) rZ rfl)),?_];exact#[r,_,dr,_,_,rfl,er,T.Fy,T.JC,rfl,kd,_,rfl,rQ.k (k:=nk u) ek lk,hq]
theorem pE (T:aU K mg a):T.Wj.U P w mg base 1 (rA a):=by
 refine T.Wj.F.ok agi [03] [02];obtain⟨r,dr,q,kd,fn,ds,bl,n,u,kk,rfl,er,ek,hk,hq⟩:=h;obtain⟨v,ev⟩:=Ka.mp hk;refine#[_,(ah (bi (AX [001] (pv 1) #[rfl,rfl,rfl,rfl]))),?_];exact#[r,_,dr,_,_,rfl,er,T.Fy,T.JC,rfl,kd,rfl, .inl #[kk, .inl ek],kk,nk u,v,ek,rfl,ev,hq]
theorem ke (T:aU K mg a) (XC:XT K a):T.Ze.O P w mg base 7 (AT a):=by
 have G_z:=gR (P:=P) (w:=w) (base:=base) T XC;rw[007];rw[012]
 have G_t:=qB (P:=P) (w:=w) (base:=base) T XC;refine fO T.Ze.F Xx [03] [02];obtain⟨r,q,kd,fn,ds,bl,n,⟨x,xp⟩,t,kk,ff,rfl,R,ek,ef,hb,hn,h4,hg⟩:=h;rw[08];refine#[_,(ax (bi (bQ (pv 0) T.Fy T.d_z.c G_z [07] aA))
   (ax (cG (i:=1) Xx.nd rfl (Gx rfl) (ak [036] rfl))
   (ax (cy (wM (fB (mX (dj hr) (pv 1) [001])) (qi (fB (mX (dj hr) (pv 1) [001])))).pt (ah (bi (cx (pv 0) T.Fy T.Vq.c Us [07] aA (aa (aR (by rfl) T.Ob) ag)))) br)
   (ah (aJ (bQ (pv 0) T.Fy T.d_t.c G_t [07] aA)))))),?_]
 refine#[r,dr,_,rfl,er,rfl,r,q,kd,fn,ds,bl,n,(x,xp),t,rfl,R,hb,hn,fun nb e=>?_];cases x with
 |word u=>
  refine#[r,dr,_,rfl,er,rfl,r,q,kd,fn,ds,bl,n,(.word u,xp),t,rfl,R,hb,fun _ p ⟨dx,et⟩=>#[p,_,dx,_,_,rfl,et,T.HU,T.IP,rfl,?_]];have agM:(has kk u||has ff u)=true->nF a.Hd E H 4 xp:=h4 u rfl e
  have good:(has kk u||has ff u)=false-> ∀H',past a H r q kd fn ds bl n H'->Q (.str (sb u)) H':=hg u rfl e
  refine#[r,_,dr,_,_,rfl,er,T.Fy,T.JC,rfl,kd,_,rfl,gv.k (k:=nk u) ek,_,rfl,aP (fun e1=>?_) fun e1=>?_]
  ·refine cf ?_
   refine#[r,dr,_,rfl,er,rfl,r,q,kd,fn,ds,bl,n,(.word u,xp),t,4,rfl,R,?_];rw[EI nb];exact agM (by unfold has;rw[e1];rfl)
  ·refine#[r,_,dr,_,_,rfl,er,T.Fy,T.HV,rfl,fn,_,rfl,gv.k (k:=nk u) ef,_,rfl,aP (fun e2=>?_) fun e2=>?_]
   ·refine#[r,dr,_,rfl,er,rfl,r,q,kd,fn,ds,bl,n,(.word u,xp),t,4,rfl,R,?_]
    rw[EI nb];exact agM (by unfold has;rw[e1,e2];rfl)
   ·exact#[r,dr,_,rfl,er,rfl,r,q,kd,fn,ds,bl,n,(.word u,xp),t,rfl,R,hb,fun _=>good (by unfold has;rw[e1,e2];rfl)]
 |num m=>cases e
 |sign u=>cases e
 |eof=>cases e
 |bad=>exact E7 rfl nb
theorem uq:gN X (.type "dict") (fun xs H Q=> ∃a aC,xs=[.ref a]/\CV X.prog X.w X.K a aC/\ ∀p,H p=none->Q (.ref p) (aF H p (.dK aC))):=by
 intro pins s σ H xs us Q I rv h;obtain⟨a,aC,rfl,kd,q⟩:=h;obtain⟨u,rfl,ru⟩:=rv.one;obtain rfl:u=Fq a:=ru;obtain⟨vs,dd,rel⟩:=kd.at_;refine kt_call_dict kd.no (dd _ I.MI) (by rw[<-rel.length];exact kd.len) fun h' V1 hs=>?_;refine#[.ref s.heap.objs.size,_,I.laid (a:=s.heap.objs.size) (o:= .dK aC) (t':=s.toks) (fun b q hq=>?_) (E6 _) (t8 kd.len (beq_eq_false_iff_ne.mpr (HS (Gu I.big))) rel V1),rfl,q _ (I.HH.fresh (E6 _))];exact(hs.2 b (Gu (Fn hq))).trans (E2 _ hq)
structure aax (a:bf) (H H':Hp) (r dr q kd fn ds bl:EJ):Prop where
 ins:H' r=some (.ins a.FX dr (qJ q kd fn ds bl 0))
 kd0:H kd=none
 fn0:H fn=none
 ds0:H ds=none
 bl0:H bl=none
 kd1:H' kd=some (.dK [])
 fn1:H' fn=some (.dK dq)
 ds1:H' ds=some (.dK [])
 bl1:H' bl=some (.dK [])
 O8:kd≠fn/\kd≠ds/\kd≠bl/\fn≠ds/\fn≠bl/\ds≠bl
 kept: ∀b o,H b=some o->b≠r->H' b=some o
inductive sy (a:bf) (vs:EA V) (H:Hp) (Q:VK) (_E:XK):Prop
 |mk (r dr q:EJ) (_:vs=[.ref r, .ref q]) (_:H r=some (.ins a.FX dr [])) (_: ∀(H':Hp) (kd fn ds bl:EJ),aax a H H' r dr q kd fn ds bl->Q .HZ H'):sy a vs H Q _E
theorem bJ {H:Hp}{a p:EJ}(h:aF H a o p=none):p≠a/\H p=none:=by
 by_cases e:p=a
 ·rw[e,ae] at h;cases h
 ·rw[ac e] at h;exact#[e,h]
theorem mV (T:aU K mg a) (kF:CV P w K a.GC dq):T.Y8.U P w mg base 1 (sy a):=by
 refine T.Y8.F.ok af6 [03] [02];obtain⟨r,dr,q,rfl,er,hq⟩:=h;refine#[_,(ax (b5 (pv 0) (pv 1) rfl)
   (ax (b5 (pv 0) aj rfl)
   (ax [083]
   (ax (b5 (pv 0) (iY uq (by rfl) T.Vz boot_dict (aa (iK (by rfl) T.Mh) ag)) rfl)
   (ax [083]
   (ah [083])))))),?_]
 refine#[r,_,dr,_,rfl,er,T.Fy,T.K4,(by show 0<1000;decide),?_];refine#[r,_,dr,_,rfl,ae,T.Fy,T.JY,(by show 1<1000;decide),?_];intro kd hkd;obtain⟨n1,hkd⟩:=bJ hkd;obtain⟨_,hkd⟩:=bJ hkd;refine#[r,_,dr,_,rfl,(by rw[ac n1.symm,ae]),T.Fy,T.JC,(by show 2<1000;decide),?_];refine#[a.GC,dq,rfl,kF,fun fn TM=>?_];obtain⟨n2,TM⟩:=bJ TM;obtain⟨n2k,TM⟩:=bJ TM;obtain⟨_,TM⟩:=bJ TM;obtain⟨_,TM⟩:=bJ TM;refine#[r,_,dr,_,rfl,(by rw[ac n2.symm,ae]),T.Fy,T.HV,(by show 3<1000;decide),?_];intro ds TZ;obtain⟨n3,TZ⟩:=bJ TZ;obtain⟨n3f,TZ⟩:=bJ TZ;obtain⟨_,TZ⟩:=bJ TZ;obtain⟨n3k,TZ⟩:=bJ TZ;obtain⟨_,TZ⟩:=bJ TZ;obtain⟨_,TZ⟩:=bJ TZ;refine#[r,_,dr,_,rfl,(by rw[ac n3.symm,ae]),T.Fy,T.Lo,(by show 4<1000;decide),?_];intro bl RA;obtain⟨n4,RA⟩:=bJ RA;obtain⟨n4d,RA⟩:=bJ RA;obtain⟨_,RA⟩:=bJ RA;obtain⟨n4f,RA⟩:=bJ RA;obtain⟨_,RA⟩:=bJ RA;obtain⟨n4k,RA⟩:=bJ RA;obtain⟨_,RA⟩:=bJ RA;obtain⟨_,RA⟩:=bJ RA;refine#[r,_,dr,_,rfl,(by rw[ac n4.symm,ae]),T.Fy,T.Jl,(by show 5<1000;decide),?_];refine hq _ kd fn ds bl #[ae,hkd,TM,TZ,RA,?_,?_,?_,?_,#[n2k.symm,n3k.symm,n4k.symm,n3f.symm,n4f.symm,n4d.symm],fun b o e nb=>?_]
 ·rw[ac n1,ac n4k.symm,ac n1,ac n3k.symm,ac n1,ac n2k.symm,ac n1,ae]
 ·rw[ac n2,ac n4f.symm,ac n2,ac n3f.symm,ac n2,ae]
 ·rw[ac n3,ac n4d.symm,ac n3,ae]
 ·rw[ac n4,ae]
 ·rw[ac nb,ac (ai e RA),ac nb,ac (ai e TZ),ac nb,ac (ai e TM),ac nb,ac (ai e hkd),ac nb,ac nb]
  exact e
theorem cV {A:Type}{p:A->Prop} : ∀g∈([]:EA A),p g:=fun _ z=>nomatch z
theorem ay {A:Type}{p:A->Prop}{f:A}{fs:EA A}(h:p f) (r: ∀g∈fs,p g): ∀g∈f::fs,p g:=EA.forall_mem_cons.mpr #[h,r]
inductive NB (X:Cx) (c:Fh) (C:EJ) (fs:EA Fh):Prop
 |mk {f:EJ}{fd:FL}(M:Mk X.K C f) (F:bS X.prog X.w X.K X.mg X.base wX 1 f fd ("self"::fs) (lw C fs)) (b:gc X.K fd ("self"::fs) []) (hm:X.mg c=some (.ref C)):NB X c C fs
theorem xM (T:aU X.K X.mg a):NB X "Number" a.La ["worth"]:=#[T.Uj,c7 T.aeg.F afi T.O0 (ay T.MZ cV) (.cons .nil),T.aeg.c.b,T.QM]
theorem DP (T:aU X.K X.mg a):NB X "Name" a.Nh ["name"]:=#[T.Wz,c7 T.aeh.F afj T.Q3 (ay T.Ou cV) (.cons .nil),T.aeh.c.b,T.Tz]
theorem El (T:aU X.K X.mg a):NB X "Call" a.MS ["name","arguments"]:=#[T.WA,c7 T.aei.F afk T.PY (ay T.Ov (ay T.Md cV)) [016],T.aei.c.b,T.TB]
theorem zU (T:aU X.K X.mg a):NB X "Unary" a.Ke ["sign","operand"]:=#[T.Vr,c7 T.aej.F afl T.Ox (ay T.NV (ay T.MC cV)) [016],T.aej.c.b,T.RI]
theorem Bp (T:aU X.K X.mg a):NB X "Chain" a.Jj ["strength","operands","signs"]:=#[T.Vs,c7 T.aek.F afm T.ME (ay T.KC (ay T.Me (ay T.Nj cV))) [065],T.aek.c.b,T.RJ]
theorem yK (T:aU X.K X.mg a):NB X "Choice" a.JO ["condition","chosen","otherwise"]:=#[T.Uk,c7 T.ael.F afn T.O2 (ay T.LC (ay T.MF (ay T.LD cV))) [065],T.ael.c.b,T.QN]
theorem aay (T:aU X.K X.mg a):NB X "Sum" a.Ni ["name","first","last","body"]:=#[T.Zq,c7 T.aem.F afo T.O3 (ay T.Pq (ay T.Oy (ay T.Pu (ay T.Pw cV)))) (.cons [065]),T.aem.c.b,T.YL]
theorem aaz (T:aU X.K X.mg a):NB X "Let" a.Lb ["name","exp"]:=#[T.Zr,c7 T.aen.F afp T.Q4 (ay T.Nk (ay T.P8 cV)) [016],T.aen.c.b,T.SS]
theorem aaA (T:aU X.K X.mg a):NB X "For" a.Mz ["name","first","last","statements"]:=#[T.Zs,c7 T.aeo.F afq T.O4 (ay T.Px (ay T.Oz (ay T.Py (ay T.Mf cV)))) (.cons [065]),T.aeo.c.b,T.Vl]
theorem agN (T:aU X.K X.mg a):NB X "If" a.PN ["condition","statements","else_statements"]:=#[T.aeA,c7 T.aep.F afr T.RN (ay T.M0 (ay T.MG (ay T.KR cV))) [065],T.aep.c.b,T.Xa]
theorem DL (T:aU X.K X.mg a):NB X "Step" a.Km ["side","zone","quarter","price","to_price","amount"]:=#[T.WB,c7 T.aeq.F afs T.LJ (ay T.OA (ay T.OB (ay T.M3 (ay T.NW (ay T.K0 (ay T.Nl cV)))))) (.cons (.cons (.cons [065]))),T.aeq.c.b,T.TC]
theorem uF (T:aU X.K X.mg a):NB X "Amounts" a.Kq ["name","exp"]:=#[T.SV,c7 T.aer.F aft T.N6 (ay T.M4 (ay T.Nm cV)) [016],T.aer.c.b,T.SU]
theorem Aw (T:aU X.K X.mg a):NB X "Block" a.Jb ["name","side","zone","price","amounts","under","group"]:=#[T.Vt,c7 T.aes.F afu T.J9 (ay T.NX (ay T.NY (ay T.NZ (ay T.Np (ay T.MH (ay T.Nq (ay T.LS cV))))))) (.cons (.cons (.cons (.cons [065])))),T.aes.c.b,T.Vm]
theorem Cp (T:aU X.K X.mg a):NB X "Const" a.LI ["name","exp"]:=#[T.Vu,c7 T.aet.F afv T.P9 (ay T.N0 (ay T.OC cV)) [016],T.aet.c.b,T.RK]
theorem xC (T:aU X.K X.mg a):NB X "Market" a.JB ["zones","quarters","low","high"]:=#[T.Um,c7 T.aez.F afS T.QO (ay T.Lm (ay T.Kp (ay T.Mr (ay T.KD cV)))) (.cons [065]),T.aez.c.b,T.Uh]
theorem qM (T:aU X.K X.mg a):NB X "StepOrder" a.HI ["desk","zone","quarter","side","low","high","amount"]:=#[T.Q8,c7 T.aew.F afy T.Q7 (ay T.OD (ay T.OE (ay T.Nr (ay T.OF (ay T.O5 (ay T.OG (ay T.NJ cV))))))) (.cons (.cons (.cons (.cons [065])))),T.aew.c.b,T.Q1]
theorem oZ (T:aU X.K X.mg a):NB X "BlockOrder" a.Ho ["desk","zone","side","price","group","parent","amounts"]:=#[T.QA,c7 T.aex.F afz T.Qz (ay T.N7 (ay T.N8 (ay T.N9 (ay T.NK (ay T.NL (ay T.Nt (ay T.M6 cV))))))) (.cons (.cons (.cons (.cons [065])))),T.aex.c.b,T.Qy]
theorem aaB (T:aU X.K X.mg a):NB X "Fun" a.NS ["name","parameters","exp"]:=#[T.Zu,c7 T.aeu.F afw T.Qa (ay T.Pz (ay T.Mg (ay T.Qb cV))) [065],T.aeu.c.b,T.Vn]
theorem Di (T:aU X.K X.mg a):NB X "Desk" a.MT ["name","statements"]:=#[T.WC,c7 T.aev.F afx T.Q5 (ay T.Q6 (ay T.LU cV)) [016],T.aev.c.b,T.TF]
inductive bC (M:EJ->Prop) (H:Hp) (C:EJ) (fs:EA (Fh×V)) (v:V):Prop
 |mk (p dx:EJ) (_:v= .ref p) (_: ¬M p) (_:H p=some [053]):bC M H C fs v
inductive bZ (M:EJ->Prop) (H:Hp) (xs:EA V) (v:V):Prop
 |mk (p:EJ) (_:v= .ref p) (_: ¬M p) (_:H p=some [049]):bZ M H xs v
def db (M:EJ->Prop) (H H':Hp):Prop:= ∀b o,H b=some o-> ¬M b->H' b=some o
def fC (M M':EJ->Prop) (H H':Hp):Prop:= ∀b o,H b=some o-> ¬M b-> ¬M' b/\H' b=some o
theorem db.two {M:EJ->Prop}{H H':Hp}(k:db M H H'):fC M M H H':=fun b o e m=>#[m,k b o e m]
def Nd (o:HO):Prop:=(∃xs,o= .lst xs)\/ ∃C d fs,o= .ins C d fs/\fs.length≠5
def kX (M M':EJ->Prop) (H H':Hp):Prop:= ∀b o,H b=some o-> ¬M b->Nd o-> ¬M' b/\H' b=some o
theorem fC.three {M M':EJ->Prop}{H H':Hp}(k:fC M M' H H'):kX M M' H H':=fun b o e m _=>k b o e m
theorem bC.Hb {M M':EJ->Prop}{H H':Hp}(k:kX M M' H H') (h:bC M H C fs v) (hl:fs.length≠5:=by intro z;cases z):bC M' H' C fs v:=by
 obtain⟨p,dx,e,m,z⟩:=h;have:=k _ _ z m (.inr #[_,_,_,rfl,hl]);exact#[p,dx,e,this.1,this.2]
theorem bZ.Hb {M M':EJ->Prop}{H H':Hp}(k:kX M M' H H') (h:bZ M H xs v):bZ M' H' xs v:=by
 obtain⟨p,e,m,z⟩:=h;have:=k _ _ z m (.inl #[_,rfl]);exact#[p,e,this.1,this.2]
theorem bC.keep {M M':EJ->Prop}{H H':Hp}(k:fC M M' H H') (h:bC M H C fs v):bC M' H' C fs v:=by
 obtain⟨p,dx,e,m,z⟩:=h;exact#[p,dx,e,(k _ _ z m).1,(k _ _ z m).2]
theorem bZ.keep {M M':EJ->Prop}{H H':Hp}(k:fC M M' H H') (h:bZ M H xs v):bZ M' H' xs v:=by
 obtain⟨p,e,m,z⟩:=h;exact#[p,e,(k _ _ z m).1,(k _ _ z m).2]
mutual
def au (a:bf) (M:EJ->Prop) (H:Hp):ER->V->Prop
 | .num n,v=>bC M H a.La [("worth", .int (n:E1))] v
 | .name x,v=>bC M H a.Nh [("name", .str (sb x))] v
 | .call f l,v=> ∃q us,bC M H a.MS [("name", .str (sb f)),("arguments",q)] v/\bZ M H us q/\cv a M H l us
 | .neg e,v=> ∃u,bC M H a.Ke [("sign", .str "-"),("operand",u)] v/\au a M H e u
 | .not e,v=> ∃u,bC M H a.Ke [("sign", .str "!"),("operand",u)] v/\au a M H e u
 | .sums e r,v=> ∃q g u us ss,bC M H a.Jj [("strength", .int 3),("operands",q),("signs",g)] v/\bZ M H (u::us) q/\bZ M H ss g/\au a M H e u/\dz a M H r us ss
 | .prods e r,v=> ∃q g u us ss,bC M H a.Jj [("strength", .int 4),("operands",q),("signs",g)] v/\bZ M H (u::us) q/\bZ M H ss g/\au a M H e u/\dz a M H r us ss
 | .cmp op x y,v=> ∃q g u1 u2,bC M H a.Jj [("strength", .int 2),("operands",q),("signs",g)] v/\bZ M H [u1,u2] q/\bZ M H [.str (dG op)] g/\au a M H x u1/\au a M H y u2
 | .both e l,v=> ∃q g u us,bC M H a.Jj [("strength", .int 1),("operands",q),("signs",g)] v/\bZ M H (u::us) q/\bZ M H (us.map fun _=> .str "&&") g/\au a M H e u/\cv a M H l us
 | .either e l,v=> ∃q g u us,bC M H a.Jj [("strength", .int 0),("operands",q),("signs",g)] v/\bZ M H (u::us) q/\bZ M H (us.map fun _=> .str "||") g/\au a M H e u/\cv a M H l us
 | .pick c x y,v=> ∃u1 u2 u3,bC M H a.JO [("condition",u1),("chosen",u2),("otherwise",u3)] v/\au a M H c u1/\au a M H x u2/\au a M H y u3
 | .sum x lo hi e,v=> ∃u1 u2 u3,bC M H a.Ni [("name", .str (sb x)),("first",u1),("last",u2),("body",u3)] v/\au a M H lo u1/\au a M H hi u2/\au a M H e u3
def cv (a:bf) (M:EJ->Prop) (H:Hp):Jw->EA V->Prop
 | .nil,us=>us=[]
 | .cons e l,us=> ∃u vs,us=u::vs/\au a M H e u/\cv a M H l vs
def dz (a:bf) (M:EJ->Prop) (H:Hp):PM->EA V->EA V->Prop
 | .nil,us,ss=>us=[]/\ss=[]
 | .cons op e r,us,ss=> ∃u vs ts,us=u::vs/\ss= .str (dG op)::ts/\au a M H e u/\dz a M H r vs ts
end
section
variable {M M':EJ->Prop}{H H':Hp}
mutual
theorem au.Hb (k:kX M M' H H'): ∀(e:ER) {v:V},au a M H e v->au a M' H' e v
 | .num n,v,h=>by unfold au at h ⊢; exact h.Hb k
 | .name x,v,h=>by unfold au at h ⊢; exact h.Hb k
 | .call f l,v,h=>by
  rw[027];obtain⟨q,us,h1,h2,h3⟩:=h;exact#[q,us,h1.Hb k,h2.Hb k,cv.Hb k l h3]
 | .neg e,v,h=>by
  rw[027];obtain⟨u,h1,h2⟩:=h;exact#[u,h1.Hb k,au.Hb k e h2]
 | .not e,v,h=>by
  rw[027];obtain⟨u,h1,h2⟩:=h;exact#[u,h1.Hb k,au.Hb k e h2]
 | .sums e r,v,h=>by
  rw[027];obtain⟨q,g,u,us,ss,h1,h2,h3,h4,h5⟩:=h;exact#[q,g,u,us,ss,h1.Hb k,h2.Hb k,h3.Hb k,au.Hb k e h4,dz.Hb k r h5]
 | .prods e r,v,h=>by
  rw[027];obtain⟨q,g,u,us,ss,h1,h2,h3,h4,h5⟩:=h;exact#[q,g,u,us,ss,h1.Hb k,h2.Hb k,h3.Hb k,au.Hb k e h4,dz.Hb k r h5]
 | .cmp op x y,v,h=>by
  rw[027];obtain⟨q,g,u1,u2,h1,h2,h3,h4,h5⟩:=h;exact#[q,g,u1,u2,h1.Hb k,h2.Hb k,h3.Hb k,au.Hb k x h4,au.Hb k y h5]
 | .both e l,v,h=>by
  rw[027];obtain⟨q,g,u,us,h1,h2,h3,h4,h5⟩:=h;exact#[q,g,u,us,h1.Hb k,h2.Hb k,h3.Hb k,au.Hb k e h4,cv.Hb k l h5]
 | .either e l,v,h=>by
  rw[027];obtain⟨q,g,u,us,h1,h2,h3,h4,h5⟩:=h;exact#[q,g,u,us,h1.Hb k,h2.Hb k,h3.Hb k,au.Hb k e h4,cv.Hb k l h5]
 | .pick c x y,v,h=>by
  rw[027];obtain⟨u1,u2,u3,h1,h2,h3,h4⟩:=h;exact#[u1,u2,u3,h1.Hb k,au.Hb k c h2,au.Hb k x h3,au.Hb k y h4]
 | .sum x lo hi e,v,h=>by
  rw[027];obtain⟨u1,u2,u3,h1,h2,h3,h4⟩:=h;exact#[u1,u2,u3,h1.Hb k,au.Hb k lo h2,au.Hb k hi h3,au.Hb k e h4]
theorem cv.Hb (k:kX M M' H H'): ∀(l:Jw) {us:EA V},cv a M H l us->cv a M' H' l us
 | .nil,us,h=>by unfold cv at h ⊢; exact h
 | .cons e l,us,h=>by
  unfold cv at h ⊢;obtain⟨u,vs,h1,h2,h3⟩:=h;exact#[u,vs,h1,au.Hb k e h2,cv.Hb k l h3]
theorem dz.Hb (k:kX M M' H H'): ∀(r:PM) {us ss:EA V},dz a M H r us ss->dz a M' H' r us ss
 | .nil,us,ss,h=>by unfold dz at h ⊢; exact h
 | .cons op e r,us,ss,h=>by
  unfold dz at h ⊢;obtain⟨u,vs,ts,h1,h2,h3,h4⟩:=h;exact#[u,vs,ts,h1,h2,au.Hb k e h3,dz.Hb k r h4]
end
theorem au.Hj (k:fC M M' H H') (e:ER) (h:au a M H e v):au a M' H' e v:=au.Hb k.three e h
end
inductive rq (a:bf) (vs:EA V) (H:Hp) (Q:VK) (E:XK):Prop
 |mk (r q kd fn ds bl:EJ) (n:E1) (x:F5×FT) (t:EG) (d:E1) (_:vs=[.ref r, .int d]) (_:mZ a H r q kd fn ds bl n (x::t)) (_:(d=12->nF a.Hd E H (if x.1= .bad then 1 else 6) x.2)) (_:(d≠12->Q [059] H)):rq a vs H Q E
inductive tD (a:bf) (vs:EA V) (H:Hp) (Q:VK) (E:XK):Prop
 |mk (r q kd fn ds bl:EJ) (n:E1) (x:F5×FT) (t:EG) (v:Fh) (_:vs=[.ref r, .str v]) (_:mZ a H r q kd fn ds bl n (x::t)) (_:[026]) (_:(x.1≠ .bad->lQ v x.1=true->nF a.Hd E H 5 x.2)) (_:(x.1≠ .bad->lQ v x.1=false->Q .HZ H)):tD a vs H Q E
theorem akU (T:aU K mg a) (XC:XT K a):T.d_f.O P w base 6 (rq a):=by
 rw[012];refine fO T.d_f.F akA [03] [02];obtain⟨r,q,kd,fn,ds,bl,n,x,t,d,rfl,R,hf,hg⟩:=h;rw[08];refine#[_,(ax (cy (a8 b8 (pv 1) (aR (by rfl) T.QF) (aM _)) (ah (bi (cx (pv 0) T.Fy T.Vq.c Us [07] aA (aa (aR (by rfl) T.Qg) ag)))) br)
   (ah (aJ (b7 dX (pv 1) aj)))),?_]
 refine [013];rw[cj];rw[03]
 ·have:=Ft e
  exact#[r,dr,_,rfl,er,rfl,r,q,kd,fn,ds,bl,n,x,t,6,rfl,R,hf (by lia)]
 ·have:=Fw e
  exact#[_,_,rfl,rfl,hg (by lia)]
theorem agO (T:aU K mg a) (XC:XT K a):T.Zi.O P w base 6 (tD a):=by
 have G_p:=lY (P:=P) (w:=w) (base:=base) T XC;rw[012];refine fO T.Zi.F agp [03] [02];obtain⟨r,q,kd,fn,ds,bl,n,x,t,v,rfl,R,hb,hf,hg⟩:=h;rw[08];refine#[_,(ah (cy (df (cx (pv 0) T.Fy T.d_p.c G_p [07] aA [031])) (ah (bi (cx (pv 0) T.Fy T.Vq.c Us [07] aA (aa (aR (by rfl) T.RP) ag)))) br)),?_];refine#[r,dr,_,rfl,er,rfl,r,q,kd,fn,ds,bl,n,x,t,v,rfl,R,hb,fun nb=>#[_,rfl,aP [015] fun e=>?_]]
 ·exact#[r,dr,_,rfl,er,rfl,r,q,kd,fn,ds,bl,n,x,t,5,rfl,R,by rw[EI nb];exact hf nb e]
 ·exact hg nb e
def jn (a:bf) (M:EJ->Prop) (H:Hp):ET ER->V->Prop
 |none,v=>v= .HZ
 |some e,v=>au a M H e v
def kg (b:FR):V:= .str (if b=true then "buy" else "sell")
inductive rT (a:bf) (M:EJ->Prop) (H:Hp) (x:EC×ER) (v:V):Prop
 |mk (u:V) (_:bC M H a.Kq [("name", .str (sb x.1)),("exp",u)] v) (_:au a M H x.2 u):rT a M H x v
def h9:ET EC->V
 |none=> .HZ
 |some u=> .str (sb u)
mutual
def aZ (a:bf) (M:EJ->Prop) (H:Hp):Gv->V->Prop
 | .bind x e,v=> ∃u,bC M H a.Lb [("name", .str (sb x)),("exp",u)] v/\au a M H e u
 | .loop x lo hi l,v=> ∃u1 u2 q us,bC M H a.Mz [("name", .str (sb x)),("first",u1),("last",u2),("statements",q)] v/\au a M H lo u1/\au a M H hi u2/\bZ M H us q/\bB a M H l us
 | .cond c x y,v=> ∃u q us g ws,bC M H a.PN [("condition",u),("statements",q),("else_statements",g)] v/\au a M H c u/\bZ M H us q/\bB a M H x us/\bZ M H ws g/\bB a M H y ws
 | .step b z qu p top am,v=> ∃u1 u2 u3 u4 u5,bC M H a.Km [("side",kg b),("zone",u1),("quarter",u2),("price",u3),("to_price",u4),("amount",u5)] v/\au a M H z u1/\au a M H qu u2/\au a M H p u3/\jn a M H top u4/\au a M H am u5
 | .block nm b z p x am un g,v=> ∃u1 u2 u3 u4,bC M H a.Jb [("name",h9 nm),("side",kg b),("zone",u1),("price",u2),("amounts",u3),("under",h9 un),("group",u4)] v/\au a M H z u1/\au a M H p u2/\rT a M H (x,am) u3/\jn a M H g u4
def bB (a:bf) (M:EJ->Prop) (H:Hp):Ip->EA V->Prop
 | .nil,us=>us=[]
 | .cons s l,us=> ∃u vs,us=u::vs/\aZ a M H s u/\bB a M H l vs
end
section
variable {M M':EJ->Prop}{H H':Hp}
theorem jn.Hj (k:fC M M' H H'): ∀(e:ET ER) {v:V},jn a M H e v->jn a M' H' e v
 |none,v,h=>h
 |some e,v,h=>au.Hj k e h
theorem rT.Hj (k:fC M M' H H') (h:rT a M H x v):rT a M' H' x v:=by
 obtain⟨u,h1,h2⟩:=h;exact#[u,h1.keep k,au.Hj k _ h2]
mutual
theorem aZ.Hj (k:fC M M' H H'): ∀(s:Gv) {v:V},aZ a M H s v->aZ a M' H' s v
 | .bind x e,v,h=>by
  unfold aZ at h ⊢;obtain⟨u,h1,h2⟩:=h;exact#[u,h1.keep k,au.Hj k e h2]
 | .loop x lo hi l,v,h=>by
  unfold aZ at h ⊢;obtain⟨u1,u2,q,us,h1,h2,h3,h4,h5⟩:=h;exact#[u1,u2,q,us,h1.keep k,au.Hj k lo h2,au.Hj k hi h3,h4.keep k,bB.Hj k l h5]
 | .cond c x y,v,h=>by
  unfold aZ at h ⊢;obtain⟨u,q,us,g,ws,h1,h2,h3,h4,h5,h6⟩:=h;exact#[u,q,us,g,ws,h1.keep k,au.Hj k c h2,h3.keep k,bB.Hj k x h4,h5.keep k,bB.Hj k y h6]
 | .step b z qu p top am,v,h=>by
  unfold aZ at h ⊢;obtain⟨u1,u2,u3,u4,u5,h1,h2,h3,h4,h5,h6⟩:=h;exact#[u1,u2,u3,u4,u5,h1.keep k,au.Hj k z h2,au.Hj k qu h3,au.Hj k p h4,jn.Hj k top h5,au.Hj k am h6]
 | .block nm b z p x am un g,v,h=>by
  unfold aZ at h ⊢;obtain⟨u1,u2,u3,u4,h1,h2,h3,h4,h5⟩:=h;exact#[u1,u2,u3,u4,h1.keep k,au.Hj k z h2,au.Hj k p h3,h4.Hj k,jn.Hj k g h5]
theorem bB.Hj (k:fC M M' H H'): ∀(l:Ip) {us:EA V},bB a M H l us->bB a M' H' l us
 | .nil,us,h=>by unfold bB at h ⊢; exact h
 | .cons s l,us,h=>by
  unfold bB at h ⊢;obtain⟨u,vs,h1,h2,h3⟩:=h;exact#[u,vs,h1,aZ.Hj k s h2,bB.Hj k l h3]
end
end
def gE (ps:EA EC):EA V:=ps.map fun p=>V.str (sb p)
def fi (a:bf) (M:EJ->Prop) (H:Hp):GK->V->Prop
 | .const x e,v=> ∃u,bC M H a.LI [("name", .str (sb x)),("exp",u)] v/\au a M H e u
 | .func x ps e,v=> ∃q u,bC M H a.NS [("name", .str (sb x)),("parameters",q),("exp",u)] v/\bZ M H (gE ps) q/\au a M H e u
 | .desk x l,v=> ∃q us,bC M H a.MT [("name", .str (sb x)),("statements",q)] v/\bZ M H us q/\bB a M H l us
theorem fi.Hj {a:bf}{M M':EJ->Prop}{H H':Hp}(k:fC M M' H H'): ∀(x:GK) {v:V},fi a M H x v->fi a M' H' x v
 | .const x e,v,⟨u,h1,h2⟩=>#[u,h1.keep k,au.Hj k e h2]
 | .func x ps e,v,⟨q,u,h1,h2,h3⟩=>#[q,u,h1.keep k,h2.keep k,au.Hj k e h3]
 | .desk x l,v,⟨q,us,h1,h2,h3⟩=>#[q,us,h1.keep k,h2.keep k,bB.Hj k l h3]
inductive Fk where
 |e (x:ER)
 |o (x:ET ER)
 |am (x:EC×ER)
 |st (x:Gv)
 |sts (x:Ip)
 |ps (x:EA EC)
 |top (x:GK)
inductive nJ (a:bf) (M:EJ->Prop) (H:Hp) (l:Ip) (v:V):Prop
 |mk (us:EA V) (_:bZ M H us v) (_:bB a M H l us):nJ a M H l v
def jd (a:bf) (M:EJ->Prop) (H:Hp) (x:Fk×V):Prop:=match x.1 with
 | .e e=>au a M H e x.2
 | .o e=>jn a M H e x.2
 | .am e=>rT a M H e x.2
 | .st e=>aZ a M H e x.2
 | .sts e=>nJ a M H e x.2
 | .ps e=>bZ M H (gE e) x.2
 | .top e=>fi a M H e x.2
theorem jd.Hj {a:bf}{M M':EJ->Prop}{H H':Hp}(k:fC M M' H H'): ∀ {x:Fk×V},jd a M H x->jd a M' H' x
 | (.e e,v),h=>au.Hj k e h
 | (.o e,v),h=>jn.Hj k e h
 | (.am e,v),h=>rT.Hj k h
 | (.st e,v),h=>aZ.Hj k e h
 | (.sts e,v),⟨us,h1,h2⟩=>#[us,h1.keep k,bB.Hj k e h2]
 | (.ps e,v),h=>bZ.keep k h
 | (.top e,v),h=>fi.Hj k e h
end OS
namespace OS
open Vbemac
abbrev fo:=FJ->ET Int
abbrev dS:=Exp×EA Int
inductive Mc where
 |go (ts:EA dS) (sc:EA fo) (n:E1)
 |done (a:Int) (sc:EA fo) (n:E1)
 |err (c:Int)
def eN (ts:EA dS) (sc:EA fo) (n:E1) (a:Int):Mc:=match ts with
 |[]=> .done a sc n
 | (e,ps)::r=> .go ((e,ps++[a])::r) sc n
def jQ (e:Exp) (ts:EA dS) (sc:EA fo):E1->Mc
 |0=> .err (-13)
 |n+1=> .go ((e,[])::ts) sc n
def lc:Exps->EA Exp
 | .nil=>[]
 | .cons e l=>e::lc l
def CY:Rest->EA Exp
 | .nil=>[]
 | .cons _ e r=>e::CY r
def zo:Rest->EA FJ
 | .nil=>[]
 | .cons op _ r=>op::zo r
def fV (sc:EA fo):fo:=sc.getLastD fun _=>none
def look (sc:EA fo) (x:FJ):ET Int:=match sc.headD (fun _=>none) x with
 |some a=>some a
 |none=>fV sc x
def oW (sc:EA fo) (y:FJ) (a:Int):EA fo:=match sc with
 |[]=>[]
 |s::r=>(fun x=>if x=y then some a else s x)::r
def vp (ps:EA FJ) (l:EA Int):fo:=fun x=>((ps.zip l).find? fun a=>a.1 == x).map fun a=>a.2
def fR (s:E1) (op:FJ) (a b:Int):Except Int Int:=if s=2 then .ok (truth (compare op a b)) else match arith op a b 0 with
 | .error c=> .error c
 | .ok (v,_)=> .ok v
def jb (s:E1) (a:Int):FR:=if s=1 then a == 0 else a !=0
def nv (s:E1):Int:=if s=1 then 0 else 1
def oQ (s:E1) (ops:EA Exp) (e:Exp) (ps:EA Int) (r:EA dS) (sc:EA fo) (n:E1):ET Mc:=
 if ps.getLast?.any (jb s)=true then some (eN r sc n (nv s)) else match ops[ps.length]? with
 |some o=>some (jQ o ((e,ps)::r) sc n)
 |none=>some (eN r sc n (1-nv s))
def kH (s:E1) (ops:EA Exp) (sgs:EA FJ) (e:Exp) (ps:EA Int) (r:EA dS) (sc:EA fo) (n:E1):ET Mc:=
 let k:=ps.length
 let ps':ET (Except Int (EA Int)):=if 1<k then(match sgs[k-2]?,ps[k-2]?,ps[k-1]? with
  |some op,some a,some b=>some (match fR s op a b with
   | .error c=> .error c
   | .ok v=> .ok (ps.take (k-1)++[v]))
  |_,_,_=>none) else some (.ok ps)
 match ps' with
 |none=>none
 |some (.error c)=>some (.err c)
 |some (.ok ps)=>match ops[ps.length]? with
  |some o=>some (jQ o ((e,ps)::r) sc n)
  |none=>ps.getLast?.map fun a=>eN r sc n a
def gD (e:Exp) (y:FJ) (b:Exp) (p q:Int) (acc:EA Int) (r:EA dS) (sc:EA fo) (n:E1):ET Mc:=
 let t:=acc.length
 let akV:Except Int (EA Int):=if 1<t then(match checked (acc.getD (t-2) 0+acc.getD (t-1) 0) 0 with
  | .error c=> .error c
  | .ok (v,_)=> .ok (acc.take (t-1)++[v])) else .ok acc
 match akV with
 | .error c=>some (.err c)
 | .ok acc=>if p+(t:Int)<=q then(match n with
   |0=>some (.err (-13))
   |n+1=>(match sc with
    |[]=>none
    |h::tl=>some (jQ b ((e,p::q::acc)::r) (oW (h::tl) y (p+(t:Int))) n)))
  else some (eN r sc n (acc.getLast?.getD 0))
def d8 (F:Funs):Mc->ET Mc
 | .go ((e,ps)::r) sc n=>(match e with
  | .num a=>some (eN r sc n (a:E1))
  | .name x=>(look sc x).map (eN r sc n)
  | .call f l=>(match (lc l)[ps.length]? with
   |some o=>some (jQ o ((e,ps)::r) sc n)
   |none=>match F.find? fun g=>g.1 == f with
    |none=>if ps.length=(lc l).length then some (eN r sc n (builtIn f ps)) else none
    |some g=>if ps.length=(lc l).length then some (jQ g.2.2 ((e,ps)::r) (vp g.2.1 ps::sc) n) else(match sc with
     |[]=>none
     |_::tl=>(ps[(lc l).length]?).map fun a=>eN r tl n a))
  | .neg a=>(match ps with
   |[]=>some (jQ a ((e,ps)::r) sc n)
   |b::_=>some (eN r sc n (-b)))
  | .not a=>(match ps with
   |[]=>some (jQ a ((e,ps)::r) sc n)
   |b::_=>some (eN r sc n (truth (b == 0))))
  | .sums a l=>kH 3 (a::CY l) (zo l) e ps r sc n
  | .prods a l=>kH 4 (a::CY l) (zo l) e ps r sc n
  | .cmp op a b=>kH 2 [a,b] [op] e ps r sc n
  | .both a l=>oQ 1 (a::lc l) e ps r sc n
  | .either a l=>oQ 0 (a::lc l) e ps r sc n
  | .pick c a b=>(match ps with
   |[]=>some (jQ c ((e,ps)::r) sc n)
   |[p]=>some (jQ (if p≠0 then a else b) ((e,ps)::r) sc n)
   |[_,v]=>some (eN r sc n v)
   |_=>none)
  | .sum y lo hi b=>(match ps with
   |[]=>some (jQ lo ((e,ps)::r) sc n)
   |[_]=>some (jQ hi ((e,ps)::r) sc n)
   |p::q::acc=>gD e y b p q acc r sc n))
 |_=>none
inductive lD (F:Funs) (f:Mc->Prop):Mc->E1->Prop
 |here {m:Mc} :f m->lD F f m 0
 |step {m m':Mc}{j:E1} :d8 F m=some m'->lD F f m' j->lD F f m (j+1)
def HE (F:Funs) (f:Mc->Prop) (m:Mc):Prop:= ∃j,lD F f m j
theorem HE.step {f:Mc->Prop}(h:d8 F m=some m') (k:HE F f m'):HE F f m:=let ⟨j,k⟩:=k;#[j+1, .step h k]
mutual
def WS:EA FJ->EA (FJ×E1)->Exp->Prop
 |_,_, .num n=>n<1000000000000000000
 |V,_, .name x=>x∈V
 |V,F, .call f l=>(∃p,(F.find? fun g=>g.1 == f)=some p/\(lc l).length=p.2)/\mL V F l
 |V,F, .neg e=>WS V F e
 |V,F, .not e=>WS V F e
 |V,F, .sums e r=>WS V F e/\(∃op a s,r= .cons op a s)/\vr ["+","-"] V F r
 |V,F, .prods e r=>WS V F e/\(∃op a s,r= .cons op a s)/\vr ["*","/","%"] V F r
 |V,F, .cmp op a b=>op∈(["==","!=","<=",">=","<",">"].map text)/\WS V F a/\WS V F b
 |V,F, .both e l=>WS V F e/\(∃a s,l= .cons a s)/\mL V F l
 |V,F, .either e l=>WS V F e/\(∃a s,l= .cons a s)/\mL V F l
 |V,F, .pick c a b=>WS V F c/\WS V F a/\WS V F b
 |V,F, .sum y lo hi e=>y∉V/\WS V F lo/\WS V F hi/\WS (y::V) F e
def mL:EA FJ->EA (FJ×E1)->Exps->Prop
 |_,_, .nil=>True
 |V,F, .cons e l=>WS V F e/\mL V F l
def vr:EA String->EA FJ->EA (FJ×E1)->Rest->Prop
 |_,_,_, .nil=>True
 |L,V,F, .cons op e r=>op∈L.map text/\WS V F e/\vr L V F r
end
abbrev dC (a:Int):Prop:= -BIG<=a/\a<=BIG
structure Ag (S:Scope) (V:EA FJ) (v:Env) (sc:EA fo):Prop where
 val: ∀x∈V,look sc x=some (valueIn v x)
 bot: ∀x∈S.consts.map (·.1),fV sc x=some (valueIn S.consts x)
 low:sc.length=1-> ∀x∈S.consts.map (·.1),x∈V
 big: ∀x,dC (valueIn v x)
structure agP (S:Scope) (F:EA (FJ×E1)) (g:FJ×EA FJ×Exp):Prop where
 ws: ∃Kg Fg,WS (g.2.1++Kg) Fg g.2.2/\(∀x∈Kg,x∈S.consts.map (·.1))/\ ∀f p,(Fg.find? fun h=>h.1 == f)=some p->(F.find? fun h=>h.1 == f)=some p
 nd:g.2.1.Nodup
 le:g.2.1.length<=6
structure gm (S:Scope) (F:EA (FJ×E1)):Prop where
 all: ∀f p,(F.find? fun h=>h.1 == f)=some p->(∃g,(S.funs.find? fun h=>h.1 == f)=some g/\g.2.1.length=p.2/\agP S F g)\/((S.funs.find? fun h=>h.1 == f)=none/\(BUILT.find? fun h=>h.1 == f)=some p)
 agQ: ∀x,dC (valueIn S.consts x)
def Sub (G F:EA (FJ×E1)):Prop:= ∀f p,(G.find? fun h=>h.1 == f)=some p->(F.find? fun h=>h.1 == f)=some p
section
variable {h:fo}
theorem g8 {a:Int} :valueIn ((y,a)::v) x=if x=y then a else valueIn v x:=by
 unfold valueIn;rw[GF];by_cases e:x=y
 ·rw[EL e,e,show(y == y)=true from Gr y]
  rfl
 ·rw[EI e,show(y == x)=false from beq_eq_false_iff_ne.mpr fun z=>e z.symm]
theorem nN {a:Int} :fV ((fun z=>if z=y then some a else h z)::tl) x=if x=y/\tl=[] then some a else fV (h::tl) x:=by
 cases tl with
 |nil=>
  unfold fV;by_cases e:x=y
  ·rw[EL #[e,rfl]];exact EL e
  ·rw[EI fun z=>e z.1];exact EI e
 |cons t r=>rw[EI fun z=>by cases z.2];rfl
theorem Ag.set (A:Ag S V v (h::tl)) {a:Int}(ny:y∉V) (ba:dC a):Ag S (y::V) ((y,a)::v) (oW (h::tl) y a):=by
 refine#[fun x hx=>?_,fun x hx=>?_,fun l x hx=>EN _ (A.low l x hx),fun x=>?_]
 ·rw[g8]
  unfold oW look;by_cases e:x=y
  ·rw[EL e]
   show(match (if x=y then some a else h x) with|some a=>some a|none=>_)=_
   rw[EL e]
  ·rw[EI e]
   have hv:x∈V:=by
    rcases EW.mp hx with z|z
    ·exact E7 z e
    ·exact z
   have:=A.val x hv;unfold look at this
   show(match (if x=y then some a else h x) with|some a=>some a|none=>_)=_
   rw[EI e,nN,EI fun z=>e z.1];exact this
 ·unfold oW
  rw[nN];by_cases e:x=y/\tl=[]
  ·exact E7 (A.low (by rw[e.2];rfl) x hx) (by rw[e.1];exact ny)
  ·rw[EI e]
   exact A.bot x hx
 ·rw[g8]
  split
  ·exact ba
  ·exact A.big x
theorem Ag.unset {a:Int}(A:Ag S (y::V) ((y,a)::v) (h::tl)) (ny:y∉V) (bg: ∀x,dC (valueIn v x)) (lo:tl=[]-> ∀x∈S.consts.map (·.1),x∈V):Ag S V v (h::tl):=by
 refine#[fun x hx=>?_,A.bot,fun l=>lo (P1 (QK l)),bg];rw[A.val x (EN _ hx),g8,EI fun z=>ny (by rw[<-z];exact hx)]
end
end OS
namespace OS
open Vbemac
theorem bP {a:Int}(h:checked x n= .ok (a,m)):dC a/\m=n/\a=x:=by
 unfold checked at h;split at h
 ·rename_i z
  cases h;exact#[z,rfl,rfl]
 ·cases h
theorem gO (b:FR):dC (truth b):=by cases b<;>decide
theorem pk {x y a:Int}(h:arith op x y n= .ok (a,m)):dC a/\m=n:=by
 unfold arith at h;split at h
 ·exact#[(bP h).1,(bP h).2.1]
 split at h
 ·exact#[(bP h).1,(bP h).2.1]
 split at h
 ·exact#[(bP h).1,(bP h).2.1]
 split at h
 ·cases h
 split at h
 ·exact#[(bP h).1,(bP h).2.1]
 ·exact#[(bP h).1,(bP h).2.1]
theorem wo {a:Int}(h:dC a):dC (-a):=by unfold dC BIG at *; lia
theorem pB {f:FJ}(h: ∀a∈l,dC a):dC (builtIn f l):=by
 have z:dC 0:=by decide
 have g: ∀i,dC (l.getD i 0):=fun i=>by
  rw[HX];cases e:l[i]? with
  |none=>exact z
  |some a=>exact h a (Gs e)
 have g0:=g 0
 have g1:=g 1;unfold builtIn;dsimp only;unfold dC BIG at*;split
 ·lia
 split
 ·lia
 split<;>lia
theorem lJ {u v:Env} :valueIn (u++v) x=match u.find? (fun a=>a.1 == x) with
  |some a=>a.2
  |none=>valueIn v x:=by
 unfold valueIn;rw[U5];cases u.find? (fun a=>a.1 == x)<;>rfl
section
variable {f:Mc->Prop}
def aaC (S:Scope) (f:Mc->Prop) (V:EA FJ) (v:Env) (tl:EA fo) (n:E1) (r:Res Int) (k:Int->EA fo->E1->Mc):Prop:=match r with
 | .error c=>f (.err c)
 | .ok (a,m)=>dC a->m<n-> ∀h,Ag S V v (h::tl)->HE S.funs f (k a (h::tl) m)
def EvP (S:Scope) (F0:EA (FJ×E1)) (f:Mc->Prop) (k:E1):Prop:= ∀V v G e ts h tl n,Ag S V v (h::tl)->WS V G e->Sub G F0->3*n+1<=k->aaC S f V v tl n (ev k S v e n) (fun a sc m=>eN ts sc m a)->HE S.funs f (jQ e ts (h::tl) n)
theorem qf (h:f (.err c)):HE F f (.err c):=#[0, .here h]
variable {h:fo}
theorem jK {α:Type}{l:EA α}{x:α}{r:EA α}(h:l.drop k=x::r):l[k]?=some x/\l.drop (k+1)=r:=by
 constructor
 ·have:=FN (fun z:EA α=>z[0]?) h
  simpa using this
 ·have:=FN (EA.drop 1) h
  simpa [NO,J7] using this
theorem pf {α:Type}{l:EA α}(h:l.drop k=[]):l[k]?=none:=Ig (by simpa using h)
theorem vS (sb:Sub G F0): ∀(r:Exps) (k n:E1) (ps:EA Int) (h:fo),(∀j,j<k->EvP S F0 f j)->Ag S V v (h::tl)->mL V G r->3*n+2<=k->(lc l).drop ps.length=lc r->(∀a∈ps,dC a)->
  (match evAll k S v r n with
   | .error c=>f (.err c)
   | .ok (as,m)=>(∀a∈ps++as,dC a)->as.length=(lc r).length->m<=n-> ∀h,Ag S V v (h::tl)->HE S.funs f (.go ((.call g l,ps++as)::ts) (h::tl) m))->HE S.funs f (.go ((.call g l,ps)::ts) (h::tl) n)
 |r,0,n,ps,h,_,_,_,hk,_,_,_=>by lia
 | .nil,k+1,n,ps,h,IH,A,w,hk,hd,bp,q=>by
  unfold evAll at q;have:=q (by rw[Gw];exact bp) rfl (E6 _) h A;rw[Gw] at this;exact this
 | .cons e r,k+1,n,ps,h,IH,A,w,hk,hd,bp,q=>by
  unfold mL at w;unfold evAll at q;rw[001];obtain⟨d1,d2⟩:=jK hd;refine HE.step (m':=jQ e ((.call g l,ps)::ts) (h::tl) n) (by unfold d8;dsimp only;rw[d1]) (IH k (G6 _) V v G e _ h tl n A w.1 sb (by lia) ?_);cases h1:ev k S v e n with
  |error c=>rw[h1] at q;exact q
  |ok z=>
   obtain⟨a,m1⟩:=z;rw[003];refine vS sb r k m1 (ps++[a]) h' (fun j hj=>IH j (IC hj)) A' w.2 (by lia) (by rw[Fc];exact d2) (fun x hx=>?_) ?_
   ·rcases Fp.mp hx with z|z
    ·exact bp x z
    ·rw[Fd.mp z];exact b1
   ·dsimp only at q
    cases h2:evAll k S v r m1 with
    |error c=>rw[h2] at q;exact q
    |ok z=>
     obtain⟨bs,m2⟩:=z;rw[h2] at q;dsimp only at q ⊢;intro b2 q2 l2 h2 A2;rw[F4] at b2 ⊢;exact q b2 (by show bs.length+1=(lc r).length+1;rw[q2]) (by lia) h2 A2
def qp (ops:EA Exp) (e:Exp) (ps:EA Int) (r:EA dS) (sc:EA fo) (n:E1):ET Mc:=match ops[ps.length]? with
 |some o=>some (jQ o ((e,ps)::r) sc n)
 |none=>ps.getLast?.map fun a=>eN r sc n a
theorem mM (h:ps.length<=1):kH s ops sgs e ps ts sc n=qp ops e ps ts sc n:=by
 unfold kH;dsimp only;rw[EI (by lia)]
 rfl
theorem sj {a b:Int}(h:sgs[qs.length]?=some op):kH s ops sgs e (qs++[a,b]) ts sc n=match fR s op a b with
  | .error c=>some (.err c)
  | .ok v=>qp ops e (qs++[a,v]) ts sc n:=by
 have l:(qs++[a,b]).length=qs.length+2:=by simp
 unfold kH;dsimp only;rw[l,EL (by lia),Ml,h,show(qs++[a,b])[qs.length]?=some a by simp,show qs.length+2-1=qs.length+1 from rfl,show(qs++[a,b])[qs.length+1]?=some b by simp];dsimp only;rw[show(qs++[a,b]).take (qs.length+1)=qs++[a] by rw[PV,II (KH _)];simp];cases fR s op a b with
 |error c=>rfl
 |ok v=>dsimp only;rw[F4];rfl
theorem m7 (hs:s≠2) {a b:Int} :arith op a b n=match fR s op a b with
  | .error c=> .error c
  | .ok d=> .ok (d,n):=by
 have ck: ∀x:Int,checked x n=match checked x 0 with
   | .error c=> .error c
   | .ok (d,_)=> .ok (d,n):=fun x=>by unfold checked;split<;>rfl
 have go:arith op a b n=match arith op a b 0 with
   | .error c=> .error c
   | .ok (d,_)=> .ok (d,n):=by
  unfold arith;split
  ·exact ck _
  split
  ·exact ck _
  split
  ·exact ck _
  split
  ·rfl
  split
  ·exact ck _
  ·exact ck _
 rw[go];unfold fR;rw[EI hs];cases arith op a b 0<;>rfl
theorem mS (hs:s≠2) (hm: ∀ps ts sc n,d8 S.funs (.go ((e,ps)::ts) sc n)=kH s ops sgs e ps ts sc n) (sb:Sub G F0): ∀(r:Rest) (k n:E1) (qs:EA Int) (x:Int) (h:fo),(∀j,j<k->EvP S F0 f j)->Ag S V v (h::tl)->vr L V G r->3*n+2<=k->dC x->
  ops.drop (qs.length+1)=CY r->sgs.drop qs.length=zo r->(match Vh k S v x r n with
   | .error c=>f (.err c)
   | .ok (a,m)=>dC a->m<=n-> ∀h,Ag S V v (h::tl)->HE S.funs f (eN ts (h::tl) m a))-> ∃m,qp ops e (qs++[x]) ts (h::tl) n=some m/\HE S.funs f m
 |r,0,n,qs,x,h,_,_,_,hk,_,_,_,_=>by lia
 | .nil,k+1,n,qs,x,h,IH,A,w,hk,bx,hd,hg,q=>by
  unfold Vh at q;refine#[_,?_,q bx (E6 _) h A];unfold qp;rw[Fc,show qs.length+[x].length=qs.length+1 from rfl,pf hd];simp
 | .cons op o r,k+1,n,qs,x,h,IH,A,w,hk,bx,hd,hg,q=>by
  unfold vr at w;unfold Vh at q;rw[001];obtain⟨d1,d2⟩:=jK hd;obtain⟨g1,g2⟩:=jK hg;refine#[jQ o ((e,qs++[x])::ts) (h::tl) n,by unfold qp;rw[Fc,show qs.length+[x].length=qs.length+1 from rfl,d1],IH k (G6 _) V v G o _ h tl n A w.2.1 sb (by lia) ?_];cases h1:ev k S v o n with
  |error c=>rw[h1] at q;exact q
  |ok z=>
   obtain⟨b,m1⟩:=z;rw[003];rw[001];rw[m7 hs] at q;have st: ∀m,(match fR s op x b with
     | .error c=>some (.err c)
     | .ok d=>qp ops e (qs++[x,d]) ts (h'::tl) m1)=some m->HE S.funs f m->HE S.funs f (eN ((e,qs++[x])::ts) (h'::tl) m1 b):=fun m O9 hq=>by
    refine HE.step (m':=m) ?_ hq;show d8 S.funs (.go ((e,(qs++[x])++[b])::ts) (h'::tl) m1)=some m;rw[hm,F4];exact(sj g1).trans O9
   cases h2:fR s op x b with
   |error c=>
    rw[h2] at q st;exact st _ rfl (qf q)
   |ok d=>
    rw[h2] at q st;dsimp only at q st;have bd:dC d:=by
     have z:=m7 hs (op:=op) (a:=x) (b:=b) (n:=0);rw[h2] at z;exact(pk z).1
    obtain⟨m,e1,e2⟩:=mS hs hm sb r k m1 (qs++[x]) d h' (fun j hj=>IH j (IC hj)) A' w.2.2 (by lia) bd (by rw[Fc];exact d2) (by rw[Fc];exact g2) (by
     cases h3:Vh k S v d r m1 with
     |error c=>rw[h3] at q;exact q
     |ok z=>
      rw[h3] at q;intro y1 y2;exact q y1 (by lia))
    rw[F4] at e1;exact st m e1 e2
def evD (s:E1) (k:E1) (S:Scope) (v:Env) (l:Exps) (n:E1):Res Int:=if s=1 then Ys k S v l n else SN k S v l n
theorem DX:evD s (k+1) S v .nil n= .ok (1-nv s,n):=by
 unfold evD nv;split
 ·unfold Ys;rfl
 ·unfold SN;rfl
theorem mz:evD s (k+1) S v (.cons e r) n=match ev k S v e n with
  | .error c=> .error c
  | .ok (a,m)=>if jb s a=true then .ok (nv s,m) else evD s k S v r m:=by
 unfold evD nv jb;split
 ·rw[Ys]
  cases ev k S v e n with
  |error c=>rfl
  |ok z=>dsimp only;simp only[beq_iff_eq]
 ·rw[SN]
  cases ev k S v e n with
  |error c=>rfl
  |ok z=>dsimp only;simp only[bne_iff_ne]
theorem mj (s:E1):dC (nv s)/\dC (1-nv s):=by unfold nv;split<;>decide
theorem qU (hm: ∀ps ts sc n,d8 S.funs (.go ((e,ps)::ts) sc n)=oQ s ops e ps ts sc n) (sb:Sub G F0): ∀(l:Exps) (k n:E1) (ps:EA Int) (h:fo),(∀j,j<k->EvP S F0 f j)->Ag S V v (h::tl)->mL V G l->3*n+2<=k->
  ops.drop ps.length=lc l-> ¬ps.getLast?.any (jb s)=true->(match evD s k S v l n with
   | .error c=>f (.err c)
   | .ok (a,m)=>dC a->m<=n-> ∀h,Ag S V v (h::tl)->HE S.funs f (eN ts (h::tl) m a))->HE S.funs f (.go ((e,ps)::ts) (h::tl) n)
 |l,0,n,ps,h,_,_,_,hk,_,_,_=>by lia
 | .nil,k+1,n,ps,h,IH,A,w,hk,hd,hp,q=>by
  rw[DX] at q;exact HE.step (by rw[hm];unfold oQ;rw[EI hp,pf hd]) (q (mj s).2 (E6 _) h A)
 | .cons o r,k+1,n,ps,h,IH,A,w,hk,hd,hp,q=>by
  unfold mL at w;rw[mz] at q;obtain⟨d1,d2⟩:=jK hd;refine HE.step (by rw[hm];unfold oQ;rw[EI hp,d1]) (IH k (G6 _) V v G o _ h tl n A w.1 sb (by lia) ?_);cases h1:ev k S v o n with
  |error c=>rw[h1] at q;exact q
  |ok z=>
   obtain⟨a,m1⟩:=z;rw[003];rw[001];by_cases ha:jb s a=true
   ·rw[EL ha] at q
    exact HE.step (by show d8 S.funs (.go ((e,ps++[a])::ts) _ _)=_;rw[hm];unfold oQ;rw[EL (by simp [ha])]) (q (mj s).1 (by lia) h' A')
   ·rw[EI ha] at q
    refine qU hm sb r k m1 (ps++[a]) h' (fun j hj=>IH j (IC hj)) A' w.2 (by lia) (by rw[Fc];exact d2) (by simp [ha]) ?_;cases h3:evD s k S v r m1 with
    |error c=>rw[h3] at q;exact q
    |ok z=>
     rw[h3] at q;intro y1 y2;exact q y1 (by lia)
def Dc (e:Exp) (y:FJ) (b:Exp) (p q:Int) (acc:EA Int) (r:EA dS) (sc:EA fo) (n:E1):Mc:=if p+(acc.length:Int)<=q then(match n with
   |0=> .err (-13)
   |n+1=>jQ b ((e,p::q::acc)::r) (oW sc y (p+(acc.length:Int))) n)
  else eN r sc n (acc.getLast?.getD 0)
theorem pS (h':acc.length<=1):gD e y b p q acc ts (h::tl) n=some (Dc e y b p q acc ts (h::tl) n):=by
 unfold gD Dc;dsimp only;rw[EI (by lia)];dsimp only;split
 ·cases n<;>rfl
 ·rfl
theorem xN:gD e y b p q (acc++[x,z]) ts (h::tl) n=some (match checked (x+z) 0 with
  | .error c=> .err c
  | .ok (d,_)=>Dc e y b p q (acc++[x,d]) ts (h::tl) n):=by
 have l: ∀d,(acc++[x,d]).length=acc.length+2:=fun d=>by simp
 unfold gD Dc;dsimp only;rw[l,EL (by lia),Ml,show(acc++[x,z]).getD acc.length 0=x by simp [HX],show acc.length+2-1=acc.length+1 from rfl,show(acc++[x,z]).getD (acc.length+1) 0=z by simp [HX],
  show(acc++[x,z]).take (acc.length+1)=acc++[x] by rw[PV,II (KH _)];simp]
 cases checked (x+z) 0 with
 |error c=>rfl
 |ok d=>
  obtain⟨d,_⟩:=d;dsimp only;rw[l,F4];split
  ·cases n<;>rfl
  ·rfl
theorem uR:checked x n=match checked x 0 with
  | .error c=> .error c
  | .ok (d,_)=> .ok (d,n):=by unfold checked;split<;>rfl
theorem xi (sb:Sub G F0) (ny:y∉V) (bp:dC p) (bq:dC q) (w:WS (y::V) G b): ∀(k n:E1) (acc:EA Int) (x:Int) (h:fo),(∀j,j<k->EvP S F0 f j)->Ag S V v (h::tl)->3*n+2<=k->dC x->(acc=[]/\x=0\/ ∃qs,acc=qs++[x])->
  (match evSum k S v y (p+(acc.length:Int)) q b x n with
   | .error c=>f (.err c)
   | .ok (a,m)=>dC a->m<=n-> ∀h,Ag S V v (h::tl)->HE S.funs f (eN ts (h::tl) m a))->HE S.funs f (Dc (.sum y lo hi b) y b p q acc ts (h::tl) n)
 |0,n,acc,x,h,_,_,hk,_,_,_=>by lia
 |k+1,n,acc,x,h,IH,A,hk,bx,ha,r=>by
  unfold evSum at r;unfold Dc;have lx:acc.getLast?.getD 0=x:=by
   rcases ha with⟨e1,e2⟩|⟨qs,e⟩
   ·rw[e1,e2];rfl
   ·rw[e];simp
  by_cases hq:p+(acc.length:Int)<=q
  ·rw[EL hq]
   rw[EI (by lia)] at r;cases n with
   |zero=>exact qf r
   |succ n=>
    dsimp only at r ⊢;have bpt:dC (p+(acc.length:Int)):=by unfold dC at *; lia
    refine IH k (G6 _) (y::V) _ G b _ _ tl n (A.set ny bpt) w sb (by lia) ?_;cases h1:ev k S ((y,p+(acc.length:Int))::v) b n with
    |error c=>rw[h1] at r;exact r
    |ok z=>
     obtain⟨z,m1⟩:=z;rw[h1] at r;intro b1 l1 h' A0;have A':Ag S V v (h'::tl):=A0.unset ny A.big fun e=>A.low (by rw[e];rfl);dsimp only at r;rw[uR] at r;have go: ∀(as:EA Int) (d:Int) (hd:dC d) (hl: ∃qs,as=qs++[d]) (hn:as.length=acc.length+1),(match evSum k S v y (p+(acc.length:Int)+1) q b d m1 with
       | .error c=>f (.err c)
       | .ok (a,m)=>dC a->m<=n+1-> ∀h,Ag S V v (h::tl)->HE S.funs f (eN ts (h::tl) m a))->HE S.funs f (Dc (.sum y lo hi b) y b p q as ts (h'::tl) m1):=fun as d hd hl hn r=>by
      refine xi sb ny bp bq w k m1 as d h' (fun j hj=>IH j (IC hj)) A' (by lia) hd (.inr hl) ?_;rw[show p+(as.length:Int)=p+(acc.length:Int)+1 by rw[hn];lia];cases h3:evSum k S v y (p+(acc.length:Int)+1) q b d m1 with
      |error c=>rw[h3] at r;exact r
      |ok z=>
       rw[h3] at r;intro y1 y2;exact r y1 (by lia)
     show HE S.funs f (.go ((.sum y lo hi b,p::q::(acc++[z]))::ts) (h'::tl) m1)
     rcases ha with⟨e1,e2⟩|⟨qs,e⟩
     ·subst e1 e2
      have cz:checked (0+z) 0= .ok (z,0):=by unfold checked;rw[Int.zero_add];exact EL b1
      rw[cz] at r;exact HE.step (m':=Dc (.sum y lo hi b) y b p q [z] ts (h'::tl) m1) (pS (acc:=[z]) (E6 1)) (go [z] z b1 #[[],rfl] rfl r)
     ·subst e
      have st: ∀m,gD (.sum y lo hi b) y b p q (qs++[x,z]) ts (h'::tl) m1=some m->HE S.funs f m->HE S.funs f (.go ((.sum y lo hi b,p::q::((qs++[x])++[z]))::ts) (h'::tl) m1):=fun m e hm=>HE.step (m':=m) (by rw[F4];exact e) hm
      refine st _ xN ?_;cases h2:checked (x+z) 0 with
      |error c=>rw[h2] at r;exact qf r
      |ok d=>
       obtain⟨d,o⟩:=d;rw[h2] at r;exact go _ d (bP h2).1 #[qs++[x],by rw[F4];rfl] [024] r
  ·rw[EI hq,lx]
   rw[EL (by lia)] at r;exact r bx (E6 _) h A
theorem aaD (FO:gm S F0): ∀k,EvP S F0 f k:=by
 intro k
 induction k using E1.strongRecOn with
 |_ k IH=>
  intro V v G e ts h tl n A w sb hk q;cases k with
  |zero=>lia
  |succ k=>
   cases n with
   |zero=>unfold ev at q;exact qf q
   |succ n=>
    have IH': ∀j,j<k->EvP S F0 f j:=fun j hj=>IH j (IC hj)
    have Ik:EvP S F0 f k:=IH k (G6 _)
    show HE S.funs f (.go ((e,[])::ts) (h::tl) n)
    unfold ev at q;unfold aaC at q;cases e with
    |num x=>
     rw[002];exact HE.step rfl (q (by unfold dC BIG;lia) (G6 _) h A)
    |name x=>
     exact HE.step (by unfold d8;dsimp only;rw[A.val x w];rfl) (q (A.big x) (G6 _) h A)
    |call g l=>
     rw[000];obtain⟨⟨p,hp,hl⟩,wl⟩:=w;refine vS sb l k n [] h IH' A wl (by lia) rfl [038] ?_;cases h1:evAll k S v l n with
     |error c=>rw[h1] at q;exact q
     |ok z=>
      obtain⟨as,m1⟩:=z;rw[h1] at q;dsimp only at q ⊢;intro b1 q1 l1 h' A';rw[EA.nil_append] at b1 ⊢;have no:(lc l)[as.length]?=none:=Ig (JG q1.symm);rcases FO.all g p (sb g p hp) with⟨fu,hg,hn,⟨Kg,Fg,wg,sg,sf⟩,_,_⟩|⟨hg,hb⟩
      ·rw[hg] at q
       rw[001];have la:fu.2.1.length=as.length:=by rw[hn,<-hl,q1]
       refine HE.step (by unfold d8;dsimp only;rw[no,hg];dsimp only;rw[EL q1]) (Ik (fu.2.1++Kg) (fu.2.1.zip as++S.consts) Fg fu.2.2 _ _ (h'::tl) m1 ?_ wg sf (by lia) ?_)
       ·have zf: ∀x,vp fu.2.1 as x=((fu.2.1.zip as).find? fun a=>a.1 == x).map (·.2):=fun _=>rfl
        refine#[fun x hx=>?_,fun x hx=>A'.bot x hx,fun z=>?_,fun x=>?_]
        ·show(match vp fu.2.1 as x with|some a=>some a|none=>fV (h'::tl) x)=_
         rw[zf,lJ];cases z:(fu.2.1.zip as).find? fun a=>a.1 == x with
         |some a=>rfl
         |none=>
          refine A'.bot x ?_;rcases Fp.mp hx with hx|hx
          ·exfalso
           obtain⟨i,hi,ei⟩:=EA.getElem_of_mem hx;have hz:=OO.mp z (fu.2.1[i],as[i]'(by lia)) (EA.mem_iff_getElem.mpr #[i,by rw[V8];lia,by simp]);exact hz (by simp [ei])
          ·exact sg x hx
        ·have:(h'::tl).length+1=1:=z
         rw[EZ] at this;lia
        ·rw[lJ]
         split
         ·rename_i a ha
          exact b1 _ (Kt (J3 ha)).2
         ·exact FO.agQ x
       ·cases h2:ev k S (fu.2.1.zip as++S.consts) fu.2.2 m1 with
        |error c=>rw[h2] at q;exact q
        |ok z=>
         obtain⟨b,m2⟩:=z;rw[020];have no2:(lc l)[(as++[b]).length]?=none:=Ig (by rw[Fc,q1];exact Ju _ _);refine HE.step (m':=eN ts (h'::tl) m2 b) ?_ (q b2 (by lia) h' A');show d8 S.funs (.go ((.call g l,as++[b])::ts) _ _)=_;unfold d8;dsimp only;rw[no2,hg];dsimp only;rw[EI (by rw[Fc,q1];exact E1.succ_ne_self _),<-q1,EA.getElem?_concat_length]
         rfl
      ·rw[hg] at q
       exact HE.step (by unfold d8;dsimp only;rw[no,hg];dsimp only;rw[EL q1]) (q (pB b1) (by lia) h' A')
    |neg e=>
     rw[000];refine HE.step rfl (Ik V v G e _ h tl n A w sb (by lia) ?_);cases h1:ev k S v e n with
     |error c=>rw[h1] at q;exact q
     |ok z=>
      rw[003];exact HE.step rfl (q (wo b1) (by lia) h' A')
    |not e=>
     rw[000];refine HE.step rfl (Ik V v G e _ h tl n A w sb (by lia) ?_);cases h1:ev k S v e n with
     |error c=>rw[h1] at q;exact q
     |ok z=>
      rw[003];exact HE.step rfl (q (gO _) (by lia) h' A')
    |sums e r=>
     rw[000];refine HE.step rfl (Ik V v G e _ h tl n A w.1 sb (by lia) ?_);cases h1:ev k S v e n with
     |error c=>rw[h1] at q;exact q
     |ok z=>
      obtain⟨x,m1⟩:=z;rw[003];obtain⟨m,e1,e2⟩:=mS (s:=3) (e:= .sums e r) (ops:=e::CY r) (sgs:=zo r) [01] (fun _ _ _ _=>rfl) sb r k m1 [] x h' IH' A' w.2.2 (by lia) b1 rfl rfl (by
       rw[001];cases h3:Vh k S v x r m1 with
       |error c=>rw[h3] at q;exact q
       |ok z=>rw[h3] at q;intro y1 y2;exact q y1 (by lia))
      exact HE.step ((mM (s:=3) (sgs:=zo r) (ps:=[x]) (E6 1)).trans e1) e2
    |prods e r=>
     rw[000];refine HE.step rfl (Ik V v G e _ h tl n A w.1 sb (by lia) ?_);cases h1:ev k S v e n with
     |error c=>rw[h1] at q;exact q
     |ok z=>
      obtain⟨x,m1⟩:=z;rw[003];obtain⟨m,e1,e2⟩:=mS (s:=4) (e:= .prods e r) (ops:=e::CY r) (sgs:=zo r) [01] (fun _ _ _ _=>rfl) sb r k m1 [] x h' IH' A' w.2.2 (by lia) b1 rfl rfl (by
       rw[001];cases h3:Vh k S v x r m1 with
       |error c=>rw[h3] at q;exact q
       |ok z=>rw[h3] at q;intro y1 y2;exact q y1 (by lia))
      exact HE.step ((mM (s:=4) (sgs:=zo r) (ps:=[x]) (E6 1)).trans e1) e2
    |cmp op x y=>
     rw[000];refine HE.step rfl (Ik V v G x _ h tl n A w.2.1 sb (by lia) ?_);cases h1:ev k S v x n with
     |error c=>rw[h1] at q;exact q
     |ok z=>
      obtain⟨p,m1⟩:=z;rw[003];refine HE.step rfl (Ik V v G y _ h' tl m1 A' w.2.2 sb (by lia) ?_);rw[001];cases h2:ev k S v y m1 with
      |error c=>rw[h2] at q;exact q
      |ok z=>
       rw[020];exact HE.step rfl (q (gO _) (by lia) h2 A2)
    |both e l=>
     rw[000];refine qU (s:=1) (fun _ _ _ _=>rfl) sb (.cons e l) (k+1) n [] h (fun j hj=>IH j hj) A (by unfold mL;exact#[w.1,w.2.2]) (by lia) rfl [024] ?_;rw[mz];cases h1:ev k S v e n with
     |error c=>rw[h1] at q;exact q
     |ok z=>
      obtain⟨x,m1⟩:=z;rw[h1] at q;dsimp only at q ⊢;by_cases hx:x=0
      ·rw[EL hx] at q
       rw[EL (show jb 1 x=true by simp [jb,hx])];intro y1 y2;exact q y1 (by lia)
      ·rw[EI hx] at q
       rw[EI (show¬jb 1 x=true by simp [jb,hx])];show match Ys k S v l m1 with| .error c=>_| .ok (a,m)=>_
       cases h3:Ys k S v l m1 with
       |error c=>rw[h3] at q;exact q
       |ok z=>rw[h3] at q;intro y1 y2;exact q y1 (by lia)
    |either e l=>
     rw[000];refine qU (s:=0) (fun _ _ _ _=>rfl) sb (.cons e l) (k+1) n [] h (fun j hj=>IH j hj) A (by unfold mL;exact#[w.1,w.2.2]) (by lia) rfl [024] ?_;rw[mz];cases h1:ev k S v e n with
     |error c=>rw[h1] at q;exact q
     |ok z=>
      obtain⟨x,m1⟩:=z;rw[h1] at q;dsimp only at q ⊢;by_cases hx:x≠0
      ·rw[EL hx] at q
       rw[EL (show jb 0 x=true by simp [jb,hx])];intro y1 y2;exact q y1 (by lia)
      ·rw[EI hx] at q
       rw[EI (show¬jb 0 x=true by simp [jb,hx])];show match SN k S v l m1 with| .error c=>_| .ok (a,m)=>_
       cases h3:SN k S v l m1 with
       |error c=>rw[h3] at q;exact q
       |ok z=>rw[h3] at q;intro y1 y2;exact q y1 (by lia)
    |pick c x y=>
     rw[000];refine HE.step rfl (Ik V v G c _ h tl n A w.1 sb (by lia) ?_);cases h1:ev k S v c n with
     |error c=>rw[h1] at q;exact q
     |ok z=>
      obtain⟨p,m1⟩:=z;rw[003];rw[001];by_cases hp:p≠0
      ·rw[EL hp] at q
       refine HE.step (m':=jQ x ((.pick c x y,[p])::ts) (h'::tl) m1) (by show some (jQ (if p≠0 then x else y) _ _ _)=_;rw[EL hp];rfl) (Ik V v G x _ h' tl m1 A' w.2.1 sb (by lia) ?_)
       cases h2:ev k S v x m1 with
       |error c=>rw[h2] at q;exact q
       |ok z=>
        rw[020];exact HE.step rfl (q b2 (by lia) h2 A2)
      ·rw[EI hp] at q
       refine HE.step (m':=jQ y ((.pick c x y,[p])::ts) (h'::tl) m1) (by show some (jQ (if p≠0 then x else y) _ _ _)=_;rw[EI hp];rfl) (Ik V v G y _ h' tl m1 A' w.2.2 sb (by lia) ?_)
       cases h2:ev k S v y m1 with
       |error c=>rw[h2] at q;exact q
       |ok z=>
        rw[020];exact HE.step rfl (q b2 (by lia) h2 A2)
    |sum y lo hi b=>
     rw[000];refine HE.step rfl (Ik V v G lo _ h tl n A w.2.1 sb (by lia) ?_);cases h1:ev k S v lo n with
     |error c=>rw[h1] at q;exact q
     |ok z=>
      obtain⟨p,m1⟩:=z;rw[003];refine HE.step rfl (Ik V v G hi _ h' tl m1 A' w.2.2.1 sb (by lia) ?_);rw[001];cases h2:ev k S v hi m1 with
      |error c=>rw[h2] at q;exact q
      |ok z=>
       obtain⟨r,m2⟩:=z;rw[020];rw[001];refine HE.step (m':=Dc (.sum y lo hi b) y b p r [] ts (h2::tl) m2) (pS (acc:=[]) (Fs 1)) (xi sb w.1 b1 b2 w.2.2.2 k m2 [] 0 h2 IH' A2 (by lia) [01] (.inl #[rfl,rfl]) ?_);show match evSum k S v y (p+0) r b 0 m2 with| .error c=>_| .ok (a,m)=>_
       rw[Int.add_zero];cases h3:evSum k S v y p r b 0 m2 with
       |error c=>rw[h3] at q;exact q
       |ok z=>rw[h3] at q;intro y1 y2;exact q y1 (by lia)
end
end OS
namespace OS
open Vbemac
def WSx (F0:EA (FJ×E1)) (e:Exp):Prop:= ∃V G,WS V G e/\Sub G F0
structure CT (F0:EA (FJ×E1)) (t:dS):Prop where
 ws:WSx F0 t.1
 ps: ∀x∈t.2,dC x
def yG (sc:EA fo):Prop:= ∀s∈sc,∀y x,s y=some x->dC x
def Gd (F0:EA (FJ×E1)):Mc->Prop
 | .go ts sc n=>(∀t∈ts,CT F0 t)/\yG sc/\sc.length+n<=10001
 | .done x sc n=>dC x/\yG sc/\sc.length+n<=10001
 | .err _=>True
theorem fU (h: ∀t∈ts,CT F0 t) (g:yG sc) (b:dC x) (sn:sc.length+n<=10001):Gd F0 (eN ts sc n x):=by
 cases ts with
 |nil=>exact#[b,g,sn]
 |cons t r=>
  refine#[fun u hu=>?_,g,sn];rcases EW.mp hu with z|z
  ·have:=h t (EO ..)
   rw[z];refine#[this.ws,fun y hy=>?_];rcases Fp.mp hy with hy|hy
   ·exact this.ps y hy
   ·rw[Fd.mp hy];exact b
  ·exact h u (EN _ z)
theorem fA (h: ∀t∈ts,CT F0 t) (g:yG sc) (w:WSx F0 e) (sn:sc.length+n<=10002):Gd F0 (jQ e ts sc n):=by
 cases n with
 |zero=>trivial
 |succ n=>
  refine#[fun u hu=>?_,g,by lia];rcases EW.mp hu with z|z
  ·rw[z];exact#[w,fun y hy=>nomatch hy]
  ·exact h u z
theorem mi {V:EA FJ}{G:EA (FJ×E1)} : ∀ {l:Exps}{e:Exp},mL V G l->e∈lc l->WS V G e
 | .nil,_,_,h=>nomatch h
 | .cons a l,e,w,h=>by
  unfold mL at w;rcases EW.mp h with z|z
  ·rw[z];exact w.1
  ·exact mi w.2 z
theorem re {L:EA String}{V:EA FJ}{G:EA (FJ×E1)} : ∀ {r:Rest}{e:Exp},vr L V G r->e∈CY r->WS V G e
 | .nil,_,_,h=>nomatch h
 | .cons op a l,e,w,h=>by
  unfold vr at w;rcases EW.mp h with z|z
  ·rw[z];exact w.2.1
  ·exact re w.2.2 z
theorem A8 (h: ∀t∈(e,ps)::ts,CT F0 t) (g:yG sc) (sn:sc.length+n<=10001) (w: ∀o∈ops,WSx F0 o) (hm:oQ s ops e ps ts sc n=some m):Gd F0 m:=by
 have h': ∀t∈ts,CT F0 t:=fun t ht=>h t (EN _ ht)
 unfold oQ at hm;split at hm
 ·cases hm;exact fU h' g (mj s).1 sn
 ·split at hm
  ·rename_i o ho
   cases hm;exact fA h g (w o (Gs ho)) (by lia)
  ·cases hm;exact fU h' g (mj s).2 sn
theorem sY {a b v:Int}(h:fR s op a b= .ok v):dC v:=by
 unfold fR at h;split at h
 ·cases h;exact gO _
 ·split at h
  ·cases h
  ·rename_i e
   cases h;exact(pk e).1
theorem uh (h: ∀t∈(e,ps)::ts,CT F0 t) (g:yG sc) (sn:sc.length+n<=10001) (w: ∀o∈ops,WSx F0 o) (hm:kH s ops sgs e ps ts sc n=some m):Gd F0 m:=by
 have h': ∀t∈ts,CT F0 t:=fun t ht=>h t (EN _ ht)
 have h0:=h (e,ps) (EO ..)
 have go: ∀qs:EA Int,(∀x∈qs,dC x)->(match ops[qs.length]? with
   |some o=>some (jQ o ((e,qs)::ts) sc n)
   |none=>qs.getLast?.map fun a=>eN ts sc n a)=some m->Gd F0 m:=fun qs hq hm=>by
  split at hm
  ·rename_i o ho
   cases hm;refine fA (fun t ht=>?_) g (w o (Gs ho)) (by lia);rcases EW.mp ht with z|z
   ·rw[z];exact#[h0.ws,hq]
   ·exact h' t z
  ·obtain⟨x,hx,rfl⟩:=FG.mp hm
   exact fU h' g (hq x (Lw hx)) sn
 unfold kH at hm;dsimp only at hm;split at hm
 ·cases hm
 ·cases hm;trivial
 ·rename_i qs he
  refine go qs (fun x hx=>?_) hm;split at he
  ·split at he
   ·rename_i op a b _ ha hb
    have he:=E5 he;split at he
    ·cases he
    ·rename_i v hv
     cases he;rcases Fp.mp hx with hx|hx
     ·exact h0.ps x (Tj hx)
     ·rw[Fd.mp hx];exact sY hv
   ·cases he
  ·cases he;exact h0.ps x hx
theorem Af (g:yG sc) (b:dC x):yG (oW sc y x):=by
 cases sc with
 |nil=>exact g
 |cons s r=>
  intro t ht z v hv;unfold oW at ht;rcases EW.mp ht with e|e
  ·rw[e] at hv
   dsimp only at hv;split at hv
   ·cases hv;exact b
   ·exact g s (EO ..) z v hv
  ·exact g t (EN _ e) z v hv
theorem DA (h: ∀t∈(e,p::q::acc)::ts,CT F0 t) (g:yG sc) (sn:sc.length+n<=10001) (w:WSx F0 b) (hm:gD e y b p q acc ts sc n=some m):Gd F0 m:=by
 have h': ∀t∈ts,CT F0 t:=fun t ht=>h t (EN _ ht)
 have h0:=h (e,p::q::acc) (EO ..)
 have hp:dC p:=h0.ps p (EO ..)
 have hq:dC q:=h0.ps q (EN _ (EO ..))
 have ha: ∀x∈acc,dC x:=fun x hx=>h0.ps x (EN _ (EN _ hx))
 unfold gD at hm;dsimp only at hm;split at hm
 ·cases hm;trivial
 ·rename_i as he
  have hs: ∀x∈as,dC x:=fun x hx=>by
   split at he
   ·split at he
    ·cases he
    ·rename_i v _ hv
     cases he;rcases Fp.mp hx with hx|hx
     ·exact ha x (Tj hx)
     ·rw[Fd.mp hx];exact(bP hv).1
   ·cases he;exact ha x hx
  split at hm
  ·rename_i hle
   cases n with
   |zero=>cases hm;trivial
   |succ n=>
    cases sc with
    |nil=>cases hm
    |cons s0 sc=>
    cases hm;refine fA (fun t ht=>?_) (Af g (by unfold dC at *; lia)) w (by show(s0::sc).length+n<=10002;lia);rcases EW.mp ht with z|z
    ·rw[z]
     refine#[h0.ws,fun x hx=>?_];rcases EW.mp hx with z|hx
     ·rw[z];exact hp
     ·rcases EW.mp hx with z|hx
      ·rw[z];exact hq
      ·exact hs x hx
    ·exact h' t z
  ·cases hm
   refine fU h' g ?_ sn;cases z:as.getLast? with
   |none=>show dC 0;decide
   |some x=>exact hs x (Lw z)
theorem Dh (FO:gm S F0) {m m':Mc}(h:Gd F0 m) (hm:d8 S.funs m=some m'):Gd F0 m':=by
 cases m with
 |done x sc n=>cases hm
 |err c=>cases hm
 |go ts sc n=>
  cases ts with
  |nil=>cases hm
  |cons t ts=>
   obtain⟨e,ps⟩:=t;obtain⟨h,g,sn⟩:=h;have h': ∀t∈ts,CT F0 t:=fun t ht=>h t (EN _ ht)
   have h0:=h (e,ps) (EO ..);obtain⟨V,G,w,sb⟩:=h0.ws;unfold d8 at hm;cases e with
   |num x=>cases hm;unfold WS at w;exact fU h' g (by unfold dC BIG;lia) sn
   |name x=>
    obtain⟨v,hv,rfl⟩:=FG.mp hm;refine fU h' g ?_ sn;unfold look at hv;cases sc with
    |nil=>cases hv
    |cons s r=>
     split at hv
     ·rename_i a ha
      cases hv;exact g s (EO ..) x v ha
     ·unfold fV at hv
      rw[QS] at hv;cases z:(s::r).getLast? with
      |none=>rw[z] at hv;cases hv
      |some t=>rw[z] at hv;exact g t (Lw z) x v hv
   |call f l=>
    dsimp only at hm;rw[002];split at hm
    ·rename_i o ho
     cases hm;exact fA h g #[V,G,mi w.2 (Gs ho),sb] (by lia)
    ·split at hm
     ·split at hm
      ·cases hm;exact fU h' g (pB h0.ps) sn
      ·cases hm
     ·rename_i fu hf
      obtain⟨⟨p,hp,hl⟩,wl⟩:=w;split at hm
      ·cases hm
       rcases FO.all f p (sb f p hp) with⟨g',hg,hn,⟨Kg,Fg,wg,sg,sf⟩,_,_⟩|⟨hg,_⟩
       ·rw[hf] at hg
        cases hg;refine fA h (fun s hs y x hx=>?_) #[_,Fg,wg,sf] (by rw[EZ];lia);rcases EW.mp hs with z|z
        ·rw[z] at hx
         obtain⟨a,ha,rfl⟩:=FG.mp hx;exact h0.ps _ (Kt (J3 ha)).2
        ·exact g s z y x hx
       ·rw[hf] at hg;cases hg
      ·cases sc with
       |nil=>cases hm
       |cons s0 sc=>
       obtain⟨v,hv,rfl⟩:=FG.mp hm;exact fU h' (fun s hs=>g s (EN _ hs)) (h0.ps v (Gs hv)) (by rw[EZ] at sn;lia)
   |neg e=>
    rw[002];cases ps with
    |nil=>cases hm;exact fA h g #[V,G,w,sb] (by lia)
    |cons b r=>cases hm;exact fU h' g (wo (h0.ps b (EO ..))) sn
   |not e=>
    rw[002];cases ps with
    |nil=>cases hm;exact fA h g #[V,G,w,sb] (by lia)
    |cons b r=>cases hm;exact fU h' g (gO _) sn
   |sums e r=>
    rw[002];refine uh h g sn (fun o ho=>?_) hm;rcases EW.mp ho with z|z
    ·rw[z];exact#[V,G,w.1,sb]
    ·exact#[V,G,re w.2.2 z,sb]
   |prods e r=>
    rw[002];refine uh h g sn (fun o ho=>?_) hm;rcases EW.mp ho with z|z
    ·rw[z];exact#[V,G,w.1,sb]
    ·exact#[V,G,re w.2.2 z,sb]
   |cmp op x y=>
    rw[002];refine uh h g sn (fun o ho=>?_) hm;rcases EW.mp ho with z|z
    ·rw[z];exact#[V,G,w.2.1,sb]
    ·rw[Fd.mp z];exact#[V,G,w.2.2,sb]
   |both e l=>
    rw[002];refine A8 h g sn (fun o ho=>?_) hm;rcases EW.mp ho with z|z
    ·rw[z];exact#[V,G,w.1,sb]
    ·exact#[V,G,mi w.2.2 z,sb]
   |either e l=>
    rw[002];refine A8 h g sn (fun o ho=>?_) hm;rcases EW.mp ho with z|z
    ·rw[z];exact#[V,G,w.1,sb]
    ·exact#[V,G,mi w.2.2 z,sb]
   |pick c x y=>
    rw[002];dsimp only at hm;split at hm
    ·cases hm;exact fA h g #[V,G,w.1,sb] (by lia)
    ·rename_i p
     cases hm;refine fA h g ?_ (by lia);split
     ·exact#[V,G,w.2.1,sb]
     ·exact#[V,G,w.2.2,sb]
    ·rename_i v
     cases hm;exact fU h' g (h0.ps _ (EN _ (EO ..))) sn
    ·cases hm
   |sum y lo hi b=>
    rw[002];dsimp only at hm;split at hm
    ·cases hm;exact fA h g #[V,G,w.2.1,sb] (by lia)
    ·cases hm;exact fA h g #[V,G,w.2.2.1,sb] (by lia)
    ·exact DA h g sn #[y::V,G,w.2.2.2,sb] hm
end OS
namespace OS
open PySem PySem.Spec L2
open PyProof.Rows hiding St
variable {P:Fz}{w:Ga}{K:EF}{mg:Fh->ET EH}{base:Gn}{a:bf}
abbrev IsZ (h:Gn) (z TI TO T:EJ) (b:FR):Prop:=
 h.get? z=some { cls:= .type "zip",dict:=none,data:= .fields [Nf T, .bool b, .bool false, .ref TI, .ref TO].toArray,slots:= [].toArray }
section
variable {prog:Fz}{A:Gk}{E:EH->EM->Prop}{s:EM}{z TI TO T i1 i2 l1 l2:EJ}{b:FR}{k1 k2:E1}{xs ys:IQ EH}{x y:EH}{oT:Ih}
theorem Bc {a:EJ}{Q:ET Ih->EM->Prop}(h:Q (s.heap.get? a) s):Fl (model prog w) A (loadIfAlive a) Q E s:=fun Γ p _=>by
 unfold loadIfAlive;rw[PySem.Sem.wp_loadIfAlive];exact h
theorem Bo {Q:FR->EM->Prop}(hz:IsZ s.heap z TI TO T b) (hT:s.heap.get? T=some oT) (hQ: ∀h',IsZ h' z TI TO T true->LZ z s.heap h'->Q false { s with heap:=h' }):Fl (model prog w) A (Mi (.ref z)) Q E s:=by
 unfold Mi;refine E3 (wpAny_field hz rfl (x:=Nf T) rfl ?_);refine E3 (Bc ?_);rw[show((T:Int)).toNat=T from rfl,hT];refine E3 (wpAny_field hz rfl (x:= .bool b) rfl ?_);cases b with
 |true=>exact E3 (Fx (Fx (hQ _ hz #[rfl,fun _ _=>rfl])))
 |false=>exact E3 (wpAny_setField_rec hz (by simp) fun h' hz' hs=>Fx (hQ h' hz' hs))
theorem By (hh:A.handled=none) (D:Wb z TI TO i1 i2 l1 l2) (hz:IsZ s.heap z TI TO T b) (hT:s.heap.get? T=some oT) (Td:QZ s.heap TI (.ref i1) (.ref i2))
  (h1:s.heap.IsListIter i1 l1 k1) (h2:s.heap.IsListIter i2 l2 k1) (T1:s.heap.IsList l1 xs) (Ut:s.heap.IsList l2 ys) {Q:ET EH->EM->Prop}
  (hE:xs[k1]?=none-> ∀h',(∀c o,c≠z->c≠i1->s.heap.get? c=some o->h'.get? c=some o)->Q none { s with heap:=h' })
  (hQ: ∀x,xs[k1]?=some x-> ∃y,ys[k1]?=some y/\ ∀h',IsZ h' z TI TO T true->h'.IsListIter i1 l1 (k1+1)->h'.IsListIter i2 l2 (k1+1)->QZ h' s.heap.objs.size x y->h'.objs.size=s.heap.objs.size+1->
   (∀c o,c≠z->c≠i1->c≠i2->s.heap.get? c=some o->h'.get? c=some o)->Q (some [081]) { s with heap:=h' }):
  Fl (model prog w) A (QY (.ref z)) Q E s:=by
 have hTy:s.TypeIs (.ref z) "zip":=#[_,hz,rfl];unfold QY;refine E3 (wpAny_attempt (wpAny_callSpecial?_slot (name:=Fh.ofString "__next__") hTy F.slot_zip_next (wpAny_call_entry F.slot_zip_next hTy F.entry_zip_next ?_ (F.args_zip_next_1 _))))
 show Fl _ _ (field (.ref z) 2>>=_) _ _ _
 refine E3 (wpAny_field hz rfl (x:= .bool false) rfl ?_);show Fl _ _ (field (.ref z) 3>>=_) _ _ _;refine E3 (wpAny_field hz rfl (x:= .ref TI) rfl ?_);refine E3 (wpAny_seqItems Td rfl ?_);refine E3 (Bo hz hT fun h₁ hz₁ WM=>?_);refine E3 ?_;simp only[<-IQ.forIn_toList,V7,QI];refine E3 (E3 (Nc ?_));show Fl _ _ (NH (.ref i1)>>=_) _ _ _;cases hx:xs[k1]? with
 |none=>
  refine E3 (wpAny_nextOf_list_end hh (h1.extBut WM.extBut D.i1z) (T1.extBut WM.extBut D.l1z) hx fun h₂ e hs₂ he=>?_);obtain⟨o,ho,hc⟩:=he;exact E3 (wpAny_isInstance (T:="StopIteration") (b:=true) #[o,ho,hc] isSubtype_stop (Fx (hE hx _ fun c o n1 n2 e=>hs₂ _ _ n2 (WM.extBut _ _ n1 e))))
 |some x=>
  obtain⟨y,hy,hQ⟩:=hQ x hx;refine E3 (UY (h1.extBut WM.extBut D.i1z) (T1.extBut WM.extBut D.l1z) hx fun h₂ h1₂ hs₂=>Fx (Fx (E3 (E3 (Nc ?_)))));show Fl _ _ (NH (.ref i2)>>=_) _ _ _;refine E3 (UY ((h2.extBut WM.extBut D.i2z).extBut hs₂.extBut D.i12.symm) ((Ut.extBut WM.extBut D.l2z).extBut hs₂.extBut D.l2i1) hy fun h₃ h2₃ hs₃=>Fx (Fx (Fx (E3 (wpAny_newTuple (hsz:=by show 2<=FE;decide) (Fx #[_,rfl,Fx ?_]))))));have hsz:h₃.objs.size=s.heap.objs.size:=by rw[hs₃.1,hs₂.1,WM.1]
  have up: ∀ {c:EJ}{o:Ih}{q:Ih},h₃.get? c=some o->(h₃.push q).get? c=some o:=fun e=>E2 _ e
  rw[hsz];exact hQ _ (up (hs₃.extBut _ _ D.i2z.symm (hs₂.extBut _ _ D.i1z.symm hz₁))) ((h1₂.extBut hs₃.extBut D.i12).at fun o e=>up e) (h2₃.at fun o e=>up e) (by show Gn.get? _ _=_;rw[<-hsz];exact Gy _ rfl) (by rw[Hf,hsz]) fun c o n1 n2 n3 e=>up (hs₃.extBut _ _ n3 (hs₂.extBut _ _ n2 (WM.extBut _ _ n1 e)))
theorem oP:Hg (.type "zip") "keys"=pure none:=am_miss_of_fast [00]
theorem ld:Hg (.type "zip") "__getattr__"=pure none:=am_miss_of_fast [00]
theorem qF:entryFor table "zip.__getattribute__"=some Builtin.«object.__getattribute__»:=
 entryFor_alias (id':="object.__getattribute__") (by kernel_rfl) [00] [00] (by kernel_rfl)
theorem aaE (a:EJ) (vs:IQ EH) (u:Tok):
  Meets (Builtin.«object.__getattribute__» #[[.ref a, .str "keys" u],[]]) (fun A R s=>s.heap.get? a=some { cls:= .type "zip",dict:=none,data:= .fields vs,slots:= [].toArray } /\raisesAttr (.ref a) "keys" A R s):=
 Meets.of_wp fun prog w A R s hs=>by
  obtain⟨hp,g,d,tk,os⟩:=s;obtain⟨hx,hs⟩:=hs;have hT:(⟨hp,g,d,tk,os⟩:EM).TypeIs (.ref a) "zip":=#[_,hx,rfl];have alJ:=oP;unfold Builtin.«object.__getattribute__»
  repeat (any_goals (first|assumption|wp_step))
  exact wpAny_raiseAttrError hs.1 hs.2 (attrMsg_fits [00] [00])
theorem AU {a:EJ}{vs:IQ EH}{Q:ET EH->EM->Prop}(hx:s.heap.get? a=some { cls:= .type "zip",dict:=none,data:= .fields vs,slots:= [].toArray }) (hA:A.handled=none)
  (h: ∀h' tk,(∀b ob,s.heap.get? b=some ob->h'.get? b=some ob)->Q none { s with heap:=h',toks:=tk }):Fl (model prog w) A (getAttr? (.ref a) "keys") Q E s:=by
 obtain⟨hp,g,d,tk,os⟩:=s;have hT: ∀Ta,(⟨hp,g,d,Ta,os⟩:EM).TypeIs (.ref a) "zip":=fun _=>#[_,hx,rfl]
 have f1:=sub_AttributeError
 have f3:=K8.lookup
 have f4:=K8.bind (.ref a)
 have f5:=ld;unfold getAttr? getAttrBy? getAttrBy
 repeat (any_goals (first|assumption|exact hT _|((with_reducible show Fl _ _ (call (Li "zip.__getattribute__") _ _) _ _ _);refine call_meets K8 (hT _) qF (PySem.F.args_zip_getattribute_2 _ _) (aaE a vs _) #[hx,hA,fun h' Ta e hx'=>?_])|wp_step))
 obtain⟨t',u',he⟩:=hx'.there;show Fl _ _ (Yl _ _ _ _ _ _ _) _ _ _;unfold Yl
 repeat (any_goals (first|assumption|wp_step))
 all_goals first|exact h _ _ hx'.keeps|(dsimp only;repeat (any_goals (first|assumption|exact h _ _ hx'.keeps|wp_step)))
end
section
variable {prog:Fz}{A:Gk}{E:EH->EM->Prop}{s:EM}{z TI TO T i1 i2 l1 l2:EJ}{b:FR}{k1 k2:E1}{xs ys:IQ EH}{x y:EH}{oT:Ih}
def ZS (S z TI TO i1 i2:EJ) (h:Gn):Prop:=(IsZip h z TI TO .none/\ ∃x y,QZ h TO x y)\/ ∃T oT b,IsZ h z TI TO T b/\h.get? T=some oT/\T≠S/\T≠z/\T≠i1/\T≠i2
abbrev Fr (s:Gn) (l:EA EJ) (h':Gn):Prop:= ∀c o,c∉l->s.get? c=some o->h'.get? c=some o
theorem wG (hh:A.handled=none) (D:Wb z TI TO i1 i2 l1 l2) (hz:ZS S z TI TO i1 i2 s.heap) (Td:QZ s.heap TI (.ref i1) (.ref i2)) (hS:S<s.heap.objs.size)
  (h1:s.heap.IsListIter i1 l1 k1) (h2:s.heap.IsListIter i2 l2 k1) (T1:s.heap.IsList l1 xs) (Ut:s.heap.IsList l2 ys) {Q:ET EH->EM->Prop}
  (hE:xs[k1]?=none-> ∀h',Fr s.heap [z,TO,i1,i2] h'->Q none { s with heap:=h' })
  (hQ: ∀x,xs[k1]?=some x-> ∃y,ys[k1]?=some y/\ ∀h',ZS S z TI TO i1 i2 h'->h'.IsListIter i1 l1 (k1+1)->h'.IsListIter i2 l2 (k1+1)->QZ h' s.heap.objs.size x y->Fr s.heap [z,TO,i1,i2] h'->Q (some [081]) { s with heap:=h' }):
  Fl (model prog w) A (QY (.ref z)) Q E s:=by
 have lt: ∀ {c:EJ}{o:Ih},s.heap.get? c=some o->s.heap.objs.size≠c:=fun e=>KU (Fn e)
 have fr: ∀ {h':Gn},(∀c o,c≠z->c≠TO->c≠i1->c≠i2->s.heap.get? c=some o->h'.get? c=some o)->Fr s.heap [z,TO,i1,i2] h':=fun k c o n e=>by
  simp only[EW,GZ,or_false,Vg] at n;exact k c o n.1 n.2.1 n.2.2.1 n.2.2.2 e
 have j1:s.heap.objs.size≠i1:=by obtain⟨_,e,_⟩:=h1;exact lt e
 have j2:s.heap.objs.size≠i2:=by obtain⟨_,e,_⟩:=h2;exact lt e
 rcases hz with⟨hz,x0,y0,hTO⟩|⟨T,oT,b,hz,hT,n1,n2,n3,n4⟩
 ·cases hx:xs[k1]? with
  |none=>exact wpAny_pyNext_zip_end hh D hz Td hTO h1 h2 T1 Ut (.inl hx) fun h' k=>hE hx h' (fr k)
  |some x=>
   obtain⟨y,hy,hQ⟩:=hQ x hx;exact wpAny_pyNext_zip_item D hz Td hTO h1 h2 T1 Ut hx hy fun h' a1 a2 a3 a4 a5 a6 k=>hQ h' (.inr #[_,_,false,a1,a5,KU hS,lt hz,j1,j2]) a3 a4 a5 (fr k)
 ·refine By hh D hz hT Td h1 h2 T1 Ut (fun e h' k=>hE e h' (fr fun c o m1 _ m3 _=>k c o m1 m3)) fun x hx=>?_
  obtain⟨y,hy,hQ⟩:=hQ x hx;exact#[y,hy,fun h' a1 a3 a4 a5 a6 k=>hQ h' (.inr #[T,oT,true,a1,k _ _ n2 n3 n4 hT,n1,n2,n3,n4]) a3 a4 a5 (fr fun c o m1 _ m3 m4=>k c o m1 m3 m4)]
theorem AE {R:Result->EM->Prop}(hh:A.handled=none) (D:Wb z TI TO i1 i2 l1 l2) (nS:S∉[z,TO,i1,i2,TI,l1,l2]):
  ∀(rest:EA (a0×EH)) (k:E1) (acc:EA (a0×EH)) (ix:Int) (t:Tok) (s:EM),xs.size=k+rest.length->acc.length+rest.length<=FE->
   (∀(j:E1) (q:a0×EH),rest[j]?=some q-> ∃u,xs[k+j]?=some u/\ys[k+j]?=some q.2/\jk q.1 u=true)->
   ZS S z TI TO i1 i2 s.heap->QZ s.heap TI (.ref i1) (.ref i2)->s.heap.IsListIter i1 l1 k->s.heap.IsListIter i2 l2 k->s.heap.IsList l1 xs->s.heap.IsList l2 ys->s.heap.DictOf (aT prog w) S acc->
   (∀h' tk,h'.DictOf (aT prog w) S (merged acc rest)->Fr s.heap [S,z,TO,i1,i2] h'->R (.ok (.ret res)) { s with heap:=h',toks:=tk })->
   KP (model prog w) A (.builtin "dict.update.loop" #[[.ref S, .ref z, .int ix t,res],[]]) R s:=by
 simp only[EW,GZ,or_false,Vg] at nS;obtain⟨Sz,STO,Si1,Si2,STI,Sl1,Sl2⟩:=nS;intro rest
 induction rest with
 |nil=>
  intro k acc ix t s hsz hln ht hz Td h1 h2 T1 Ut hm hR;refine codeAny_builtin tN ?_;rw[Sd iF _];show Fl _ A.in1 (QY (.ref z)>>=_) _ _ s;refine E3 (wG (A:=A.in1) hh D hz Td (by obtain⟨_,_,_,e,_⟩:=hm;exact Fn e) h1 h2 T1 Ut (fun _ h' f=>?_) fun x hx=>?_)
  ·show Fl _ A.in1 (Builtin.Dict.addKeywords S []>>=_) _ _ _
   refine E3 (Fx (Fx ?_));exact hR h' s.toks (hm.at fun o e=>f _ o (by simp [Sz,STO,Si1,Si2]) e) fun c o n e=>f c o (fun z=>n (EN _ z)) e
  ·rw[IQ.getElem?_eq_none (show xs.size<=k from JG hsz)] at hx
   cases hx
 |cons q rest ih=>
  intro k acc ix t s hsz hln ht hz Td h1 h2 T1 Ut hm hR;obtain⟨u,hb,hb2,hk⟩:=ht 0 q rfl;rw[EZ] at hsz hln;have hS:S<s.heap.objs.size:=by obtain⟨_,_,_,e,_⟩:=hm;exact Fn e
  refine codeAny_builtin tN ?_;rw[Sd iF _];show Fl _ A.in1 (QY (.ref z)>>=_) _ _ s;refine E3 (wG (A:=A.in1) hh D hz Td hS h1 h2 T1 Ut [015] fun x hx=>#[_,hb2,fun h' z' i1' i2' pr f=>?_])
  ·rw[show xs[k]?=some u from hb] at e;cases e
  cases (show xs[k]?=some u from hb).symm.trans hx;have gs: ∀ {c:EJ}{o:Ih},c∉[z,TO,i1,i2]->s.heap.get? c=some o->h'.get? c=some o:=fun n e=>f _ _ n e
  have hm1:h'.DictOf (aT prog w) S acc:=hm.at fun o e=>gs (by simp [Sz,STO,Si1,Si2]) e
  show Fl _ A.in1 (holding [Fq s.heap.objs.size] _>>=_) _ _ _
  refine E3 (Nc ?_);refine E3 (wpAny_tryCatch ?_);unfold Builtin.Dict.pairItems;refine E3 (U4 (T:="tuple") #[_,pr,rfl] ?_);rw[EL (by first|decide|rfl|simp)]
  refine E3 (wpAny_seqItems pr rfl (Fx ?_));show Fl _ A.in1 (holding [u,q.2] (dictSet S u q.2)) _ _ _;refine Nc (wpAny_dictSet_pairs (knd:=aT prog w) (k:=q.1) hk hm1 (fun h2' hm2 US=>?_) (by lia));have up: ∀ {c:EJ}{o:Ih},c≠S->h'.get? c=some o->h2'.get? c=some o:=fun n e=>US.extBut _ _ n e
  refine Fx #[plainId_quiet iF _,ih (k+1) (stored acc q.1 q.2) (ix+1) 0 _ (show xs.size=k+1+rest.length by lia) ?_ (fun j q' e=>?_) ?_ ?_ ?_ ?_ ?_ ?_ hm2 fun h3 tk WH k3=>?_]
  ·have z:=stored_length_le acc q.1 q.2
   lia
  ·rw[show k+1+j=k+(j+1) by lia]
   exact ht (j+1) q' e
  ·rcases z' with⟨a1,x0,y0,a2⟩|⟨T,oT,b,a1,a2,n1,n2,n3,n4⟩
   ·exact .inl #[up (HS Sz) a1,x0,y0,up (HS STO) a2]
   ·exact .inr #[T,oT,b,up (HS Sz) a1,up n1 a2,n1,n2,n3,n4]
  ·exact up (HS STI) (gs (by simp [D.TIz,D.TITO,D.TIi1,D.TIi2]) Td)
  ·exact i1'.at fun o e=>up (HS Si1) e
  ·exact i2'.at fun o e=>up (HS Si2) e
  ·exact T1.at fun o e=>up (HS Sl1) (gs (by simp [D.l1z,D.l1TO,D.l1i1,D.l1i2]) e)
  ·exact Ut.at fun o e=>up (HS Sl2) (gs (by simp [D.l2z,D.l2TO,D.l2i1,D.l2i2]) e)
  ·exact hR h3 tk WH fun c o n e=>k3 c o n (up (fun z=>n (by rw[z];exact EO)) (gs (fun z=>n (EN _ z)) e))
theorem oR {Q:EH->EM->Prop}(hh:A.handled=none) (D:Wb z TI TO i1 i2 l1 l2) (hz:IsZip s.heap z TI TO .none) (hTO:QZ s.heap TO x y) (Td:QZ s.heap TI (.ref i1) (.ref i2))
  (h1:s.heap.IsListIter i1 l1 0) (h2:s.heap.IsListIter i2 l2 0) (T1:s.heap.IsList l1 xs) (Ut:s.heap.IsList l2 ys) (hsz:xs.size=oG.length) (hln:oG.length<=FE)
  (ht: ∀(j:E1) (q:a0×EH),oG[j]?=some q-> ∃u,xs[j]?=some u/\ys[j]?=some q.2/\jk q.1 u=true)
  (h: ∀h' tk,h'.DictOf (aT prog w) s.heap.objs.size (merged [] oG)->Fr s.heap [z,TO,i1,i2] h'->Q [081] { s with heap:=h',toks:=tk }):
  Fl (model prog w) A (call (.type "dict") [.ref z]) Q E s:=by
 refine callType_codes (Q₁:=fun obj s₁=>obj= .ref s.heap.objs.size/\s₁= { s with heap:=s.heap.push { cls:= .type "dict",data:= .dict [].toArray } }) PySem.F.kt_called_dict (PySem.F.kt_typeCall_dict_1 _) PySem.F.entry_dict_init (kt_code_dict_new _ #[rfl,rfl]) ?_;rintro obj s₁ ⟨rfl,rfl⟩;have aaF:(s.heap.push { cls:= .type "dict",data:= .dict [].toArray }).DictOf (aT prog w) s.heap.objs.size []:=Sv s.heap;have k0: ∀ {b:EJ}{o:Ih},s.heap.get? b=some o->(s.heap.push { cls:= .type "dict",data:= .dict [].toArray }).get? b=some o:=fun e=>E2 _ e
 refine#[aaF.typeIs,PySem.F.args_dict_init_2 _ _,?_];unfold Builtin.«dict.__init__»;refine E3 ?_;unfold Builtin.Dict.selfAndRest;refine E3 (wpAny_notOrdered_dict aaF.typeIs ?_);show Fl _ _ (pure (s.heap.objs.size,[Fq z])) _ _ _;refine Fx ?_;show Fl _ _ (PJ "dict.__init__" s.heap.objs.size (.ref z) [] .none) _ _ _;unfold PJ;refine E3 (U4 (T:="zip") #[_,k0 hz,rfl] ?_);rw[EL (by first|decide|rfl|simp)]
 refine E3 (AU (k0 hz) hh fun h1' tk1 hk1=>?_);rw[EL (show(none:ET EH).isNone=true from rfl)];refine E3 (wpAny_rule ?_);have up: ∀ {b:EJ}{o:Ih},s.heap.get? b=some o->h1'.get? b=some o:=fun e=>hk1 _ _ (k0 e)
 refine E3 (wpAny_pyIter_zip (up hz) ?_);have ne: ∀ {b:EJ}{o:Ih},s.heap.get? b=some o->s.heap.objs.size≠b:=fun e=>KU (Fn e)
 have key:=AE (prog:=prog) (w:=w) (A:=A.in1) (R:=wants (fun r s₂=>r= .none/\Q [081] s₂) E) (S:=s.heap.objs.size) (res:=Hn) (xs:=xs) (ys:=ys) hh D
  (by
   obtain⟨_,e1,_⟩:=h1;obtain⟨_,e2,_⟩:=h2;obtain⟨_,e3,_⟩:=T1;obtain⟨_,e4,_⟩:=Ut;simp only[EW,GZ,or_false,Vg];exact#[ne hz,ne hTO,ne e1,ne e2,ne Td,ne e3,ne e4]) oG 0 [] 0 0 { s with heap:=h1',toks:=tk1 } (by rw[hsz,J8]) (by rw[JK,J8];exact hln)
  (fun j q e=>by rw[J8];exact ht j q e) (.inl #[up hz,_,_,up hTO]) (up Td) (h1.at fun o e=>up e) (h2.at fun o e=>up e) (T1.at fun o e=>up e) (Ut.at fun o e=>up e) (aaF.at fun o e=>hk1 _ _ e)
  (fun h' tk WH k=>#[rfl,h h' tk WH fun b o n e=>k b o (fun z=>(EW.mp z).elim (fun z=>ne e z.symm) n) (up e)])
 first
  |exact Fx #[plainId_quiet iF _,key]
  |exact E3 (Fx (Fx #[plainId_quiet iF _,key]))
end
section
variable {X:Cx}
theorem zE {P:Fz}{w:Ga} : ∀ {aC:EA (a0×V)}{Hc WN:EA EH},aX (aC.map fun q=>kV q.1) Hc->aX (aC.map (·.2)) WN-> ∃oG:EA (a0×EH),KV aC oG/\ ∀(j:E1) (q:a0×EH),oG[j]?=some q-> ∃u,Hc[j]?=some u/\WN[j]?=some q.2/\jk q.1 u=true
 |[],_,_,h1,h2=>by cases h1;cases h2;exact#[[], .nil,fun j q e=>by simp at e]
 |kv::aC,_,_, .cons (b:=u) a1 r1, .cons (b:=y) a2 r2=>by
  obtain⟨oG,r,hp⟩:=zE (P:=P) (w:=w) r1 r2;refine#[(kv.1,y)::oG, .cons #[rfl,a2] r,fun j q e=>?_];cases j with
  |zero=>cases e;exact#[u,rfl,rfl,oB (P:=P) (w:=w) a1]
  |succ j=>exact hp j q e
theorem uw {e e2:G8}{ta:TA}{p p' pos MK:Pos}(hc:X.calm=true) (hg:Gl X "zip") (hm:X.mg "zip"=none) (hg':Gl X "dict") (O9:X.mg "dict"=none) (ha:PA X [e,e2] ta)
  (hs:Fb [e,e2] X.env=[000]::Fb [e2] X.env) (Ma:(Ie pos (Fb [e2] X.env)).any (·.1)=false):
  PE X (.Call (.Name "dict" p') [.Call (.Name "zip" p) [e,e2] [] pos] [] MK) (fun σ H Q=>ta σ H fun vs H1=> ∃(a b:EJ) (aC:EA (a0×V)),vs=[.ref a, .ref b]/\cP X.K H1 a (aC.map fun q=>kV q.1)/\cP X.K H1 b (aC.map (·.2))/\ ∀d,H1 d=none->Q (.ref d) (aF H1 d (.dK (fL [] aC)))):=by
 rw[01];refine Call_ (lj I hg' O9 (show Kr "dict"=some (.type "dict") by decide+kernel) (Jt ?_ rfl rfl));show Fl _ _ (spliced [(false,_)]) _ _ s;refine Ks (Call_ (lj I hg hm yb (Jt (ca [070] fun us s1 ⟨vs,H1,I1,r1,q1⟩=>?_) hs Ma)));obtain⟨a,b,aC,ex,hqx,hqy,q⟩:=q1;subst ex;cases r1 with
 |cons r rr=>
  cases rr with
  |cons r' rr=>
   cases rr;cases r;cases r';obtain⟨Hc,rv,p1,hz⟩:=I1.list hqx;obtain⟨WN,rv2,p2,_⟩:=I1.list hqy;have hi:Hc.length=aC.length:=by rw[<-rv.length,EY]
   refine call_zip_2 p1.isList p2.isList fun h' hz' Td hTO h1 h2 hsz hk=>KL ?_;obtain⟨oG,rel,hp⟩: ∃oG:EA (a0×EH),KV aC oG/\ ∀(j:E1) (q:a0×EH),oG[j]?=some q-> ∃u,Hc[j]?=some u/\WN[j]?=some q.2/\jk q.1 u=true:=zE (P:=X.prog) (w:=X.w) rv rv2;have pl:oG.length=aC.length:=rel.length.symm;refine oR (oG:=oG) (I1.ok.hd hc) (PySem.W.ktu_apart s1.heap.objs.size a b p1.lt p2.lt) hz' hTO Td h1 h2 (p1.isList.at fun o e=>hk _ _ e) (p2.isList.at fun o e=>hk _ _ e) (by simp [hi,pl]) (by rw[pl,<-hi,<-rv.length];exact hz) (fun j q' e=>by simpa using hp j q' e) fun h2' tk WH k=>?_;have le:s1.heap.objs.size<=h'.objs.size:=by rw[hsz];exact Ju _ _
   have hm:(h'.objs.size == HN)=false:=beq_eq_false_iff_ne.mpr (KU (Fv I1.big le))
   have MJ:(fL [] aC).length<=FE:=by
    refine Fj (gt aC []) ?_;rw[JK,J8,<-hi,<-rv.length];exact hz
   refine#[.ref h'.objs.size,aF H1 h'.objs.size (.dK (fL [] aC)),I1.laid (t':=tk) (fun c o e=>k c o [030] (hk c o e)) le (show cw X.prog X.w _ _ _ (.dK (fL [] aC)) from#[MJ,hm,merged [] oG,KV.merge rel .nil,WH]),rfl,q _ (I1.HH.fresh le)];have:=Fn e;simp only[EW,GZ,or_false] at z;lia
end
def Rfs (C:EJ) (E:XK) (H:Hp) (c:Int):Prop:= ∀d,H d=none->E (.ref C) (some d) (aF H d (ci d (DO c)))
def xcl (a:bf):EA (Int×EJ):=[(-11,a.IW),(-12,a.Ko),(-13,a.JW),(-14,a.JX),(-15,a.IX),(-16,a.KZ)]
def oM (a:bf) (E:XK) (H:Hp) (c:Int):Prop:= ∀C,(c,C)∈xcl a->Rfs C E H c
def gC (c:Int):EA V->EA (Fh×V)->Prop:=fun us fs=>us=[]/\fs=DO c
theorem okI {x Gz:Fh}{st:Stmt}{f C:EJ}{fd:FL}{c:Int}(F:oJ K x Gz st f fd) (S:az ["self"] ["self"] (af st))
  (h: ∀(Gp:EH) (A:Gk) (outer:EA Env) (s:EM) (H:Hp) (p:EJ) (Q:VK),bW 1 (A.deeper [011])->dP C agL [.ref p, .int c] H Q E0->Bd (fg wX P w K mg base ["self"] Gz (af st) f Gp A outer s H E0).nox (a7 st) { nx:=fun _ H'=>Q .HZ H',rt:=Q } [some (.ref p)] H):
  bS P w K mg base wX 2 f fd ["self"] (dP C (gC c)):=by
 refine F.ok S [061] (fun Gp A outer s H vs Q E hr z=>?_)
 ·obtain⟨p,us,fs,rfl,⟨rfl,rfl⟩,_⟩:=h
  rfl
 ·obtain⟨p,us,fs,rfl,⟨rfl,rfl⟩,hp,q⟩:=z
  exact h Gp A outer s H p Q hr #[p,_,_,rfl,#[c,rfl,rfl],hp,q]
theorem ic (T:aU K mg a) (XC:XW K a):T.d_L.U P w mg base 2 (dP a.IW (gC (-11))):=
 okI T.d_L.F akd fun Gp A outer s H p Q hr q=>#[_,ah (bi (e8 (by rfl) T.Hi XC.rm (bO T XC.Lq) hr T.VW.c.b .nil aY [040])),_,rfl,q]
theorem lh (T:aU K mg a) (XC:XW K a):T.d_M.U P w mg base 2 (dP a.Ko (gC (-12))):=
 okI T.d_M.F ake fun Gp A outer s H p Q hr q=>#[_,ah (bi (e8 (by rfl) T.Hi XC.rm (bO T XC.Oc) hr T.VW.c.b .nil aY [040])),_,rfl,q]
theorem jt (T:aU K mg a) (XC:XW K a):T.YN.U P w mg base 2 (dP a.JW (gC (-13))):=
 okI T.YN.F afB fun Gp A outer s H p Q hr q=>#[_,ah (bi (e8 (by rfl) T.Hi XC.rm (bO T XC.MU) hr T.VW.c.b .nil aY [040])),_,rfl,q]
theorem jA (T:aU K mg a) (XC:XW K a):T.YO.U P w mg base 2 (dP a.JX (gC (-14))):=
 okI T.YO.F afC fun Gp A outer s H p Q hr q=>#[_,ah (bi (e8 (by rfl) T.Hi XC.rm (bO T XC.MV) hr T.VW.c.b .nil aY [040])),_,rfl,q]
theorem ie (T:aU K mg a) (XC:XW K a):T.YQ.U P w mg base 2 (dP a.IX (gC (-15))):=
 okI T.YQ.F afD fun Gp A outer s H p Q hr q=>#[_,ah (bi (e8 (by rfl) T.Hi XC.rm (bO T XC.Lr) hr T.VW.c.b .nil aY [040])),_,rfl,q]
theorem kI (T:aU K mg a) (XC:XW K a):T.YR.U P w mg base 2 (dP a.KZ (gC (-16))):=
 okI T.YR.F afE fun Gp A outer s H p Q hr q=>#[_,ah (bi (e8 (by rfl) T.Hi XC.rm (bO T XC.Od) hr T.VW.c.b .nil aY [040])),_,rfl,q]
def wkF (t:Int) (fa sl tl:EJ) (r:V):EA (Fh×V):=[("taken", .int t),("functions", .ref fa),("scopes", .ref sl),("tasks", .ref tl),("result",r)]
def xw (v:V) (p:EJ):EA (Fh×V):=[("exp",v),("parts", .ref p)]
structure pi where
 wk:EJ
 dw:EJ
 fa:EJ
 sl:EJ
 tl:EJ
 z:E1
structure rY where
 M:EJ->Prop
 H:Hp
structure oF where
 t:EJ
 p:EJ
 d:EJ
 v:V
 ps:EA Int
abbrev rl:=EJ×EA (a0×V)
def tkC (a:bf):EA oF->EA k9
 |[]=>[]
 |u::us=>(u.t, .ins a.LR u.d (xw u.v u.p))::(u.p, .lst (u.ps.map V.int))::tkC a us
def scC (ds:EA rl):EA k9:=ds.map fun d=>(d.1, .dK d.2)
abbrev wkL (a:bf) (c:pi) (n:E1) (r:V) (ff:EA (a0×V)) (ds:EA rl) (us:EA oF):EA k9:=
 (c.wk, .ins a.GY c.dw (wkF (10000-(n:Int)) c.fa c.sl c.tl r))::(c.tl, .lst [072].reverse)::(c.sl, .lst (ds.map fun d=>V.ref d.1).reverse)::(c.fa, .dK ff)::(tkC a us++scC ds)
def D6 (a:bf) (B:rY) (F:Jd) (ff:EA (a0×V)):Prop:=ff.length<=F.length/\ ∀f,(match F.find? fun g=>g.1 == f with
  |some g=> ∃v,bN ff (nk f)=some v/\fi a B.M B.H (.func g.1 g.2.1 g.2.2) v
  |none=>bN ff (nk f)=none)
def aaG (b:E1) (d:rl) (s:fo):Prop:=(∀u,bN d.2 (nk u)=(s u).map V.int)/\d.2.length<=b
def akW (a:bf) (B:rY) (u:oF) (t:dS):Prop:=au a B.M B.H t.1 u.v/\u.ps=t.2
structure Bn (z b:E1) (ts:EA dS) (sc:EA fo) (n:E1):Prop where
 UU:n<=10000
 tl: ∀i t,ts[i]?=some t->t.2.length+i+n<=10000
 sl:sc.length+n<=10002
 b6:6<=b
 bn:b+5*n<=z
 zl:z<=60000
structure eX (a:bf) (B:rY) (H:Hp) (c:pi) (F:Jd) (r:V) (b:E1) (ff:EA (a0×V)) (ds:EA rl) (us:EA oF) (ts:EA dS) (sc:EA fo) (n:E1):Prop where
 O:Ow B.H (wkL a c n r ff ds us) H
 fn:D6 a B F ff
 sq:Paired (aaG b) ds sc
 tk:Paired (akW a B) us ts
 bn:Bn c.z b ts sc n
inductive Wk (a:bf) (B:rY) (H:Hp) (c:pi) (F:Jd) (r:V) (b:E1) (ts:EA dS) (sc:EA fo) (n:E1):Prop
 |mk {ff:EA (a0×V)}{ds:EA rl}{us:EA oF}(_:eX a B H c F r b ff ds us ts sc n):Wk a B H c F r b ts sc n
def nX (a:bf) (B:rY) (c:pi) (F:Jd) (N:Hp->Prop) (E:XK):Mc->Prop
 | .err k=> ∀H',a9 B.H H'->oM a E H' k
 | .go ts sc n=> ∀H' r b,Wk a B H' c F r b ts sc n->N H'
 | .done x sc n=> ∀H' b,Wk a B H' c F (.int x) b [] sc n->N H'
theorem Bn.mono {z b m n:E1}{ts:EA dS}{sc:EA fo}(h:Bn z b ts sc n) (hm:m<=n):Bn z b ts sc m:=#[by have:=h.UU;lia,fun i t e=>by have:=h.tl i t e;lia,by have:=h.sl;lia,h.b6,by have:=h.bn;lia,h.zl]
theorem Bn.len {z b n:E1}{ts:EA dS}{sc:EA fo}(h:Bn z b ts sc n):ts.length+n<=10001:=by
 cases e:ts[ts.length-1]? with
 |none=>have:=EA.getElem?_eq_none_iff.mp e;have:=h.UU;lia
 |some t=>have:=h.tl _ t e;lia
theorem bC.fld {M:EJ->Prop}{B H:Hp}{K:EF}{Q:VK}(i:bC M B C fs v) (s:a9 B H) (cl:gA K C) (no:ao K C f) (hl:fs.lookup f=some u) (q:Q u H):dL K f Q v H:=by
 obtain⟨p,dx,rfl,_,h⟩:=i;exact#[p,C,dx,_,u,rfl,s _ _ h,cl,no,hl,q]
section
variable {H H':Hp}{Q:VK}
theorem eX.fld (W:eX a B H c F r b ff ds us ts sc n) (T:aU K mg a) (no:ao K a.GY f) (hl:(wkF (10000-(n:Int)) c.fa c.sl c.tl r).lookup f=some u) (q:Q u H):dL K f Q (.ref c.wk) H:=#[c.wk,_,c.dw,_,u,rfl,W.O.get 0 rfl,T.Hw,no,hl,q]
theorem eX.own (W:eX a B H c F r b ff ds us ts sc n) (hm:m<=n) (h:H' c.wk=some (.ins a.GY c.dw (wkF (10000-(m:Int)) c.fa c.sl c.tl r'))) (k: ∀b u,H b=some u->b≠c.wk->H' b=some u):eX a B H' c F r' b ff ds us ts sc m:=#[W.O.set (L1:=[]) h k,W.fn,W.sq,W.tk,W.bn.mono hm]
theorem eX.tl (W:eX a B H c F r b ff ds us ts sc n):H c.tl=some (.lst [072].reverse):=W.O.get 1 rfl
theorem eX.tl1 (W:eX a B H c F r b ff ds (u::us) ts sc n):H c.tl=some (.lst ([072].reverse++[V.ref u.t])):=by
 rw[<-Gf];exact W.tl
theorem eX.ins (W:eX a B H c F r b ff ds us ts sc n):H c.wk=some (.ins a.GY c.dw (wkF (10000-(n:Int)) c.fa c.sl c.tl r)):=W.O.get 0 rfl
end
inductive mD (a:bf) (vs:EA V) (H:Hp) (Q:VK) (E:XK):Prop
 |mk {B:rY}{c:pi}{F:Jd}{r:V}{b:E1}{ff:EA (a0×V)}{ds:EA rl}{us:EA oF}{ts:EA dS}{sc:EA fo}{n:E1}(_:vs=[.ref c.wk]) (_:eX a B H c F r b ff ds us ts sc n) (_:n=0->oM a E H (-13)) (_: ∀m,n=m+1-> ∀H',eX a B H' c F r b ff ds us ts sc m->Q .HZ H'):mD a vs H Q E
theorem gV (T:aU K mg a) (XC:XW K a):T.Vo.O P w mg base 4 (mD a):=by
 refine fO T.Vo.F afK [03] [02];obtain @⟨B,c,F,r,b,ff,ds,us,ts,sc,n,rfl,W,h0,h1⟩:=h;refine bF (jg (cn (bv 0 (W.fld T T.Kh rfl #[_,aR (by rfl) T.Rc,_,_,rfl,rfl,dD [015] fun e=>?_])) rfl))
 ·exact aQ (eT eu XC.MU (jt T XC) hr (by rfl) T.NT T.YN.c.b) #[Fs _,_,#[rfl,rfl],h0 (by lia) _ [041]]
 ·obtain⟨m,rfl⟩: ∃m,n=m+1:=#[n-1,by have:=W.bn.UU;lia]
  refine eF (gG (pv 0) aj nB) #[c.wk,_,c.dw,_,_,rfl,W.ins,T.Hw,T.Kh,rfl,_,_,rfl,rfl,c.dw,_,W.ins,(by show 5<1000;decide),h1 m rfl _ (W.own (KH m) ?_ mx)];rw[ae,show(10000:Int)-(m:Int)=10000-((m+1:E1):Int)+1 by lia]
  rfl
section
variable {H H':Hp}
theorem eX.push (W:eX a B H c F r b ff ds us ts sc n) (ev:au a B.M B.H e v) (hx:H x=none) (hp:H p=none) (ne:p≠x) (k:a9 H H') (h1:H' x=some (.ins a.LR dx (xw v p))) (h2:H' p=some (.lst [])) (b1:Bn c.z b ts sc (n+1)):
  eX a B (aF H' c.tl (.lst ([072].reverse++[.ref x]))) c F r b ff ds (#[x,p,dx,v,[]]::us) ((e,[])::ts) sc n:=by
 have O:=W.O.adds (N:=[(x, .ins a.LR dx (xw v p)),(p, .lst [])]) k (fun y hy=>by
  rcases EW.mp hy with z|hy
  ·rw[z];exact#[hx,h1]
  ·rw[Fd.mp hy];exact#[hp,h2]) (FI.mpr #[fun z=>ne (Fd.mp z).symm,FI.mpr #[nofun, .nil]])
 have O:=(O.perm ((EA.perm_append_comm (l₁:=[_,_]) (l₂:=[_,_,_,_])).append_right _)).put (L1:=[_]) (o':= .lst ([072].reverse++[.ref x]));rw[<-Gf] at O ⊢;refine#[O,W.fn,W.sq, .cons #[ev,rfl] W.tk,W.bn.UU,fun i t e=>?_,W.bn.sl,W.bn.b6,W.bn.bn,W.bn.zl]
 cases i with
 |zero=>cases e;have:=b1.UU;show 0+0+n<=10000;lia
 |succ i=>have:=b1.tl i t e;lia
theorem eX.pop (W:eX a B H c F r b ff ds (u::us) (t::ts) sc n):eX a B (aF H c.tl (.lst [072].reverse)) c F r b ff ds us ts sc n:=by
 cases W.tk with
 |cons _ tk=>exact#[(W.O.put (L1:=[_])).sub (.cons₂ _ (.cons₂ _ (.cons₂ _ (.cons₂ _ (.cons _ (.cons _ (.refl _))))))),W.fn,W.sq,tk,W.bn.UU,fun i t e=>by have:=W.bn.tl (i+1) t e;lia,W.bn.sl,W.bn.b6,W.bn.bn,W.bn.zl]
theorem eX.parts (W:eX a B H c F r b ff ds (u::us) ((e,u.ps)::ts) sc n) (h:H' u.p=some (.lst (ps.map V.int))) (k: ∀b o,H b=some o->b≠u.p->H' b=some o) (hl:ps.length+n<=10000):eX a B H' c F r b ff ds ({ u with ps:=ps } ::us) ((e,ps)::ts) sc n:=by
 cases W.tk with
 |cons h1 tk=>
  refine#[W.O.set (L1:=[_,_,_,_,_]) h k,W.fn,W.sq, .cons #[h1.1,rfl] tk,W.bn.UU,fun i t e=>?_,W.bn.sl,W.bn.b6,W.bn.bn,W.bn.zl];cases i with
  |zero=>cases e;exact hl
  |succ i=>exact W.bn.tl (i+1) t e
theorem eX.grow (W:eX a B H c F r b ff ds us ts sc n) (k:a9 H H'):eX a B H' c F r b ff ds us ts sc n:=#[W.O.grow k,W.fn,W.sq,W.tk,W.bn]
theorem eX.scs (W:eX a B H c F r b ff ds us ts sc n) (h:d∈ds):H d.1=some (.dK d.2):=(W.O.at_ (d.1, .dK d.2) (.tail _ (.tail _ (.tail _ (.tail _ (GI _ (KQ.mpr #[d,h,rfl]))))))).1
theorem lF {α β:Type}{F:α->β->Prop} : ∀ {l:EA α}{m:EA β}{y:β},Paired F l m->m.getLast?=some y-> ∃x,l.getLast?=some x/\F x y
 |_,_,_, .nil,h=>by cases h
 |[x],[y],_, .cons r .nil,h=>by cases h;exact#[x,rfl,r]
 |_::x::l,_::y::m,z, .cons r (.cons s t),h=>by
  rw[RC] at h;rw[RC];exact lF (.cons s t) h
theorem dZ {α β:Type}{F G:α->β->Prop} : ∀ {l:EA α}{m:EA β},Paired F l m->(∀x y,F x y->G x y)->Paired G l m
 |_,_, .nil,_=> .nil
 |_,_, .cons h t,g=> .cons (g _ _ h) (dZ t g)
end
inductive Cm (a:bf) (vs:EA V) (H:Hp) (Q:VK) (_E:XK):Prop
 |mk (t dt:EJ) (v:V) (_:vs=[.ref t,v]) (_:H t=some (.ins a.LR dt [])) (_: ∀(p:EJ) (H':Hp),H p=none->p≠t->H' t=some (.ins a.LR dt (xw v p))->H' p=some (.lst [])->(∀b o,H b=some o->b≠t->H' b=some o)->Q .HZ H'):Cm a vs H Q _E
theorem qZ (T:aU K mg a):T.YV.U P w mg base 1 (Cm a):=by
 refine T.YV.F.ok afI [03] [02];obtain⟨t,dt,v,rfl,ht,q⟩:=h;refine aQ (b5 (pv 0) (pv 1) rfl) #[t,_,dt,_,rfl,ht,T.OH,T.PB,E1.zero_lt_succ _,eF (b5 (pv 0) (iA ag) rfl) #[Fs _,fun p hp=>?_]];have np:p≠t:=fun z=>by rw[z,ae] at hp;cases hp
 rw[ac np] at hp;exact#[t,_,dt,_,rfl,(by rw[ac np.symm,ae]),T.OH,T.Mq,(by show 1<1000;decide),q p _ hp np ae (by rw[ac np,ae]) fun b o e nb=>by rw[ac nb,ac (ai e hp),ac nb];exact e]
inductive w9 (a:bf) (vs:EA V) (H:Hp) (Q:VK) (E:XK):Prop
 |mk {B:rY}{c:pi}{F:Jd}{r:V}{b:E1}{ff:EA (a0×V)}{ds:EA rl}{us:EA oF}{ts:EA dS}{sc:EA fo}{n:E1}{e:ER}{v:V}(_:vs=[.ref c.wk,v]) (_:eX a B H c F r b ff ds us ts sc n) (_:au a B.M B.H e v) (_:nX a B c F (Q .HZ) E (jQ e ts sc n)):w9 a vs H Q E
theorem rp (T:aU K mg a) (XC:XW K a):T.Wh.O P w mg base 5 (w9 a):=by
 refine fO T.Wh.F afN [03] [02];obtain @⟨B,c,F,r,b,ff,ds,us,ts,sc,n,e,v,rfl,W,ev,g⟩:=h;refine aQ (bi (bQ (pv 0) T.Hw T.Vo.c (gV T XC) hr aA)) #[c.wk,c.dw,_,rfl,W.ins,rfl, .mk rfl W [030] fun m z H1 W1=>?_]
 ·rw[z] at g
  exact g H W.O.same
 ·subst z
  refine iM [001] (fun _ q=>W1.fld T T.Ia rfl q) W1.tl #[_,g7 T.WD (qZ T) [07] (by rfl) T.Wf T.YV.c.b .nil aY [031],fun x dx hx Ur ne=>#[x,dx,v,rfl,ae,fun p H2 hp np h1 h2 k=>#[rfl,?_]]];have hp:=hp;rw[ac np] at hp;have pd:p≠dx:=fun z=>by rw[z,ae] at hp;cases hp
  rw[ac pd] at hp;have sm:a9 H1 H2:=fun b o e=>k b o (by rw[ac (ai e hx),ac (ai e Ur)];exact e) (ai e hx);exact#[_,sm _ _ W1.tl,by rw[F7,EY,bM W1.tk,Ht];have:=W1.bn.len;lia,cc (g _ r b #[W1.push ev hx hp np sm h1 h2 W.bn])]
inductive tj (a:bf) (vs:EA V) (H:Hp) (Q:VK) (E:XK):Prop
 |mk {B:rY}{c:pi}{F:Jd}{r:V}{b:E1}{ff:EA (a0×V)}{ds:EA rl}{u:oF}{us:EA oF}{t:dS}{ts:EA dS}{sc:EA fo}{n:E1}{x:Int}(_:vs=[.ref c.wk, .int x]) (_:eX a B H c F r b ff ds (u::us) (t::ts) sc n) (_:nX a B c F (Q .HZ) E (eN ts sc n x)):tj a vs H Q E
theorem xy (T:aU K mg a):T.YY.U P w mg base 1 (tj a):=by
 refine T.YY.F.ok afO [03] [02];obtain @⟨B,c,F,r,b,ff,ds,u,us,t,ts,sc,n,x,rfl,W,g⟩:=h;have tl:=W.tl1;refine bw #[_,B4 Iw Rp Rq Bg [001],W.fld T T.Ia rfl #[.inl #[rfl,_,cP.of tl],c.tl,_, .ref u.t,rfl,rfl,tl,by simp,?_]];rw[Tn];have W1:=W.pop;have tk:=W1.tk;have ul:=bM tk;refine cr (cR ga (ij T.JP W1.tl [001] (fun _ q=>W1.fld T T.Ia rfl q) (cM [029])));rw[F7,EY];cases tk with
 |nil=>exact bK (eF (b5 (pv 0) (pv 1) rfl) #[c.wk,_,c.dw,_,rfl,W1.ins,T.Hw,T.K3,(by show 5<1000;decide),g _ b #[W1.own (E6 n) ae mx]])
 | @cons v t1 us ts h tk=>
  obtain⟨e1,ps⟩:=t1;obtain rfl:v.ps=ps:=h.2;refine dD (fun _=>?_) fun z=>E7 z (by rw[EZ];lia);have hp:=W1.O.get 5 rfl;have b1:=W.bn.tl 1 _ rfl;refine eF (bi (wm Iw J4 J5 iT (ak (cJ bA [001] (dJ cH aj) [002]) rfl) [031])) (W1.fld T T.Ia rfl #[_,rfl,c.tl,_,_,V.ref v.t,rfl,rfl,cP.of W1.tl1,eA _ _,v.t,_,v.d,_,V.ref v.p,rfl,W1.O.get 4 rfl,T.OH,T.Mq,rfl, .inl #[rfl,_,cP.of hp],v.p,_,_,rfl,rfl,hp,by rw[EY,Ht];lia,g _ r b #[W1.parts (ps:=v.ps++[x]) ?_ mx (by rw[Fc];show v.ps.length+1+n<=10000;lia)]]);rw[ae,GG]
  rfl
section
variable {H H':Hp}
theorem eX.sl1 (W:eX a B H c F r b ff (d::ds) us ts sc n):H c.sl=some (.lst ((ds.map fun d=>V.ref d.1).reverse++[V.ref d.1])):=by
 rw[<-Gf];exact W.O.get 2 rfl
theorem eX.akX {s:fo}(W:eX a B H c F r b ff (d::ds) us ts (s::sc) n) (hb:b+1+5*n<=c.z):eX a B (aF H d.1 (.dK (dy d.2 (nk y) (.int x)))) c F r (b+1) ff ((d.1,dy d.2 (nk y) (.int x))::ds) us ts (oW (s::sc) y x) n:=by
 have O:Ow B.H ((_::_::_::_::tkC a us)++(d.1, .dK d.2)::scC ds) H:=W.O;cases W.sq with
 |cons h sq=>
  refine#[O.put,W.fn, .cons #[fun u=>?_,Fj (cB _ _ _) (G7 h.2)] (dZ sq fun _ _ z=>#[z.1,ML z.2]),W.tk,W.bn.UU,W.bn.tl,W.bn.sl,ML W.bn.b6,hb,W.bn.zl];rw[gK];show _=ET.map V.int (if u=y then some x else s u)
  by_cases hu:u=y
  ·rw[EL (by rw[hu]),EL hu];rfl
  ·rw[EI fun z=>hu (eI (Ja z)),EI hu];exact h.1 u
theorem eX.pushS {s:fo}(W:eX a B H c F r b ff ds us ts sc n) (hq:H q=none) (k:a9 H H') (h:H' q=some (.dK kk)) (hs:aaG b (q,kk) s) (hl:sc.length+1+n<=10002):eX a B (aF H' c.sl (.lst ((ds.map fun d=>V.ref d.1).reverse++[.ref q]))) c F r b ff ((q,kk)::ds) us ts (s::sc) n:=by
 have O:=W.O.adds (N:=[(q, .dK kk)]) k (fun y hy=>by rw[Fd.mp hy];exact#[hq,h]) (FI.mpr #[nofun, .nil])
 have O:Ow B.H (_::_::_::_::(tkC a us++(q, .dK kk)::scC ds)) H':=O.perm (VL (l₁:=_::_::_::_::tkC a us)).symm
 have O:=O.put (L1:=[_,_]) (o':= .lst ((ds.map fun d=>V.ref d.1).reverse++[.ref q]))
 rw[<-Gf] at O ⊢;exact#[O,W.fn, .cons hs W.sq,W.tk,W.bn.UU,W.bn.tl,hl,W.bn.b6,W.bn.bn,W.bn.zl]
theorem eX.akY {s:fo}(W:eX a B H c F r b ff (d::ds) us ts (s::sc) n):eX a B (aF H c.sl (.lst (ds.map fun d=>V.ref d.1).reverse)) c F r b ff ds us ts sc n:=by
 cases W.sq with
 |cons _ sq=>exact#[(W.O.put (L1:=[_,_])).sub (.cons₂ _ (.cons₂ _ (.cons₂ _ (.cons₂ _ ((EA.sublist_cons_self _ _).append_left _))))),W.fn,sq,W.tk,W.bn.UU,W.bn.tl,by have:sc.length+1+n<=10002:=W.bn.sl;lia,W.bn.b6,W.bn.bn,W.bn.zl]
end
inductive pD (a:bf) (vs:EA V) (H:Hp) (Q:VK) (_E:XK):Prop
 |mk {B:rY}{c:pi}{F:Jd}{r:V}{b:E1}{ff:EA (a0×V)}{ds:EA rl}{us:EA oF}{ts:EA dS}{sc:EA fo}{n:E1}{y:EC}{x:Int}(_:vs=[.ref c.wk, .str (sb y)]) (_:eX a B H c F r b ff ds us ts sc n) (_:look sc y=some x) (_:Q (.int x) H):pD a vs H Q _E
theorem tu (T:aU K mg a):T.YX.U P w mg base 1 (pD a):=by
 refine T.YX.F.ok afM [03] [02];obtain @⟨B,c,F,r,b,ff,ds,us,ts,sc,n,y,x,rfl,W,hl,q⟩:=h;have sq:=W.sq;cases sq with
 |nil=>cases hl
 | @cons d s ds sc hd sq=>
 have k1:=W.scs (d:=d) (.head _)
 have fl: ∀ {Q:VK},Q (.ref c.sl) H->dL K "scopes" Q (.ref c.wk) H:=fun q=>W.fld T T.Jk rfl q
 have at1: ∀ {Q:VK},Q (.ref d.1) H->dL K "scopes" (fun x H1=>tUn (rU fun i=> .int (-i)) (tC (.int 1)) [some (.ref c.wk),some (.str (sb y))] H1 fun u H2=>Ay K x u H2 Q) (.ref c.wk) H:=fun q=>fl #[_,rfl,c.sl,_,_,V.ref d.1,rfl,rfl,cP.of W.sl1,eA _ _,q]
 have lk:look (s::sc) y=(match s y with|some a=>some a|none=>fV (s::sc) y):=rfl
 refine bF #[_,fB (mX (dj hr) (pv 1) (cJ bA [001] (dJ cH aj) [002])),at1 #[d.1,_,rfl,gv.k (k:=nk y) k1,_,rfl,?_]];rw[hd.1,Hv];have g:=gv.k (k:=nk y) k1;rw[hd.1] at g;cases hs:s y with
 |some z=>
  rw[lk,hs] at hl;cases hl;rw[hs] at g;exact cf (aK #[_,jO (dj hr) (cJ bA [001] (dJ cH aj) [002]) (pv 1) [002],at1 #[d.1, .int x,rfl,g,q]])
 |none=>
  rw[lk,hs] at hl;have hl:fV (s::sc) y=some x:=hl;cases z:(s::sc).getLast? with
  |none=>simp at z
  |some z'=>
  obtain⟨e,h1,h2⟩:=lF (.cons hd sq) z;have:fV (s::sc)=z':=by unfold fV;rw[QS,z];rfl
  rw[this] at hl;have j1:=W.scs (Lw h1);have g:=gv.k (k:=nk y) j1;rw[h2.1,hl] at g;have h0:((d::ds).map fun d=>V.ref d.1).reverse[0]?=some (V.ref e.1):=by
   rw[<-EA.head?_eq_getElem?,EA.head?_reverse,EA.getLast?_map,h1]
   rfl
  exact bK (aK #[_,jO (dj hr) (cJ bA [001] aj [002]) (pv 1) [002],fl #[c.sl,_,_,V.ref e.1,rfl,rfl,cP.of (W.O.get 2 rfl),bo (j:=0) h0,e.1, .int x,rfl,g,q]])
inductive zB (a:bf) (vs:EA V) (H:Hp) (Q:VK) (_E:XK):Prop
 |mk {B:rY}{c:pi}{F:Jd}{r:V}{b:E1}{ff:EA (a0×V)}{d:rl}{ds:EA rl}{us:EA oF}{ts:EA dS}{s:fo}{sc:EA fo}{n:E1}{y:EC}{x:Int}(_:vs=[.ref c.wk, .str (sb y), .int x]) (_:eX a B H c F r b ff (d::ds) us ts (s::sc) n) (_:b+1+5*n<=c.z) (_: ∀H',eX a B H' c F r (b+1) ff ((d.1,dy d.2 (nk y) (.int x))::ds) us ts (oW (s::sc) y x) n->Q .HZ H'):zB a vs H Q _E
theorem kz (T:aU K mg a):T.Wg.U P w mg base 1 (zB a):=by
 refine T.Wg.F.ok afL [03] [02];obtain @⟨B,c,F,r,b,ff,d,ds,us,ts,s0,sc,n,y,x,rfl,W,hb,q⟩:=h;cases W.sq with
 |cons hd _=>exact eF (gW (dj hr) (cJ bA (ak (pv 0) rfl) (dJ cH aj) (fun _ _=>rfl)) (pv 1) (pv 2) rfl) (W.fld T T.Jk rfl #[_,rfl,c.sl,_,_,V.ref d.1,rfl,rfl,cP.of W.sl1,eA _ _,d.1,_,rfl,rQ.k (k:=nk y) (W.scs (.head _)) (by rw[Ht];have:=hd.2;have:=W.bn.zl;lia),q _ (W.akX hb)])
theorem At:kZ X (OW .FloorDiv) (rI (fun _ j=>j≠0/\j.natAbs.log2<9000) fun i j=> .int (i.fdiv j)):=opI fun _ _ _ _ _ _ _ hc q=>floordiv_int hc.1 q (.inl (PyProof.noPylong_of_log2 hc.2))
theorem xQ {l:EA Int} : ∀ {us:EA EH},aX (l.map V.int) us-> ∃xs:IQ (Int×Tok),us.toArray=Kk xs/\xs.toList.map (·.1)=l:=by
 induction l with
 |nil=>intro us h;cases h;exact#[[].toArray,by simp [Kk],rfl]
 |cons i l ih=>
  intro us h;cases h with
  |cons h1 h2=>
   obtain⟨t,rfl⟩:=h1;obtain⟨xs,e1,e2⟩:=ih h2;refine#[#[(i,t)::xs.toList],?_,by rw[<-e2];rfl];unfold Kk at e1 ⊢;have e1:=FN RE e1;rw[Vb] at e1;apply IQ.ext';rw[Vb];simp only[Fe];rw[<-e1]
theorem sM {pins:EA (EJ×Ih)}{σ:L2.St}{H:Hp}{s:EM}{p:EJ}{l:EA Int}(I:aE X pins σ H s) (h:H p=some (.lst (l.map V.int))): ∃xs:IQ (Int×Tok),s.heap.IsList p (Kk xs)/\xs.toList.map (·.1)=l:=by
 obtain⟨z,Hc,n,r,hl,e⟩:=I.ZZ h;obtain⟨xs,e1,e2⟩:=xQ r;exact#[xs,#[_,e,rfl,n,by rw[<-e1]],e2]
theorem yh (hc:X.calm=true):gN X (.builtin "min") (fun xs H Q=> ∃p i j,xs=[.ref p]/\H p=some (.lst [.int i, .int j])/\Q (.int (min i j)) H):=by
 rw[013];obtain⟨p,i,j,rfl,hp,q⟩:=h;obtain⟨u,rfl,r1⟩:=mQ r;cases r1;obtain⟨as,l,e⟩:=sM (l:=[i,j]) I hp;obtain⟨as⟩:=as;obtain⟨⟨i',t⟩,⟨j',t'⟩,rfl⟩: ∃x y,as=[x,y]:=by
  match as,e with
  |[x,y],_=>exact#[x,y,rfl]
 obtain⟨rfl,rfl⟩:i=i'/\j=j':=by simpa [eq_comm] using e
 refine min_intList (I.ok.hd hc) l (by show 0<2;decide) fun v h' tk hv k=>#[.int (min i j),H,I.kept k,?_,q];by_cases hij:j<i
 ·have e:L0 (fun x y=>decide (LM [(i,t),(j,t')].toArray x<LM [(i,t),(j,t')].toArray y)) 1=1:=by simp [L0,LM,hij]
  have hv:(Kk [(i,t),(j,t')].toArray)[L0 (fun x y=>decide (LM [(i,t),(j,t')].toArray x<LM [(i,t),(j,t')].toArray y)) 1]?=some v:=hv
  rw[e] at hv;have hv:JL j t'=v:=by simpa [Kk] using hv
  exact#[t',by rw[<-hv,Int.min_def,EI (by lia)]]
 ·have e:L0 (fun x y=>decide (LM [(i,t),(j,t')].toArray x<LM [(i,t),(j,t')].toArray y)) 1=0:=by simp [L0,LM,hij]
  have hv:(Kk [(i,t),(j,t')].toArray)[L0 (fun x y=>decide (LM [(i,t),(j,t')].toArray x<LM [(i,t),(j,t')].toArray y)) 1]?=some v:=hv
  rw[e] at hv;have hv:JL i t=v:=by simpa [Kk] using hv
  exact#[t,by rw[<-hv,Int.min_def,EL (by lia)]]
theorem yB (hc:X.calm=true):gN X (.builtin "max") (fun xs H Q=> ∃p i j,xs=[.ref p]/\H p=some (.lst [.int i, .int j])/\Q (.int (max i j)) H):=by
 rw[013];obtain⟨p,i,j,rfl,hp,q⟩:=h;obtain⟨u,rfl,r1⟩:=mQ r;cases r1;obtain⟨as,l,e⟩:=sM (l:=[i,j]) I hp;obtain⟨as⟩:=as;obtain⟨⟨i',t⟩,⟨j',t'⟩,rfl⟩: ∃x y,as=[x,y]:=by
  match as,e with
  |[x,y],_=>exact#[x,y,rfl]
 obtain⟨rfl,rfl⟩:i=i'/\j=j':=by simpa [eq_comm] using e
 refine max_intList (I.ok.hd hc) l (by show 0<2;decide) fun v h' tk hv k=>#[.int (max i j),H,I.kept k,?_,q];by_cases hij:j>i
 ·have e:L0 (fun x y=>decide (LM [(i,t),(j,t')].toArray x>LM [(i,t),(j,t')].toArray y)) 1=1:=by simp [L0,LM,hij]
  have hv:(Kk [(i,t),(j,t')].toArray)[L0 (fun x y=>decide (LM [(i,t),(j,t')].toArray x>LM [(i,t),(j,t')].toArray y)) 1]?=some v:=hv
  rw[e] at hv;have hv:JL j t'=v:=by simpa [Kk] using hv
  exact#[t',by rw[<-hv,Int.max_def,EL (by lia)]]
 ·have e:L0 (fun x y=>decide (LM [(i,t),(j,t')].toArray x>LM [(i,t),(j,t')].toArray y)) 1=0:=by simp [L0,LM,hij]
  have hv:(Kk [(i,t),(j,t')].toArray)[L0 (fun x y=>decide (LM [(i,t),(j,t')].toArray x>LM [(i,t),(j,t')].toArray y)) 1]?=some v:=hv
  rw[e] at hv;have hv:JL i t=v:=by simpa [Kk] using hv
  refine#[t,?_];rw[<-hv,Int.max_def];by_cases z:i<=j
  ·rw[EL z,show j=i by lia]
  ·rw[EI z]
theorem CI (ho:op∈F6) (h:d7 x s):decide (V.str (dG op)=V.str x)=decide (op=s):=by
 obtain⟨rfl,hs⟩:=h;exact decide_eq_decide.mpr #[fun z=>wD op ho s hs (V.str.inj z),fun z=>by rw[z]]
theorem jl {X:Cx}{H:Hp}(ho:op∈F6) (l:d7 v s) (yes:op=s->Pe X e (some (.str (dG op))::σ) H D.rt) (no:op≠s->Bd X ss D (some (.str (dG op))::σ) H) (n0:X.N[0]?=some ("sign":Fh):=by rfl) (v0:oH X.env.scope "sign":=by exact Gx rfl):
  Bd X (.If (.Compare (.Name "sign" p1) [.Eq] [.Constant (.str v) j p2] p3) [.Return (some e) p4] [] p5::ss) D (some (.str (dG op))::σ) H:=
 bF (cR b8 (bv 0 (Xu #[rfl,_,rfl,by rw[CI ho l];exact dD (fun z=>aK (yes z)) no]) n0 v0))
theorem CW {α:Type}{Q:α->Prop}{c:Prop} [Decidable c] {x y:α}(q:Q (if c then x else y)):(c->Q x)/\(¬c->Q y):=#[fun h=>by rw[EL h] at q;exact q,fun h=>by rw[EI h] at q;exact q]
def zg (op:EC) (b:Int):FR:=b !=0||!(decide (op=ED "/")||decide (op=ED "%"))
def mW (op:EC) (a b:Int):Int:=if op=ED "+" then a+b else if op=ED "-" then a-b else if op=ED "*" then a*b else if op=ED "/" then a.fdiv b else if op=ED "%" then a.fmod b else MY (L3 op a b)
def sC (a:Int):Prop:= -(2 ^ 64)<a/\a<2 ^ 64
theorem wZ:d7 "+" (ED "+")/\d7 "-" (ED "-")/\d7 "*" (ED "*")/\d7 "/" (ED "/")/\d7 "/rest" (ED "%")/\d7 "==" (ED "==")/\d7 "!=" (ED "!=")/\d7 "<=" (ED "<=")/\d7 ">=" (ED ">=")/\d7 "<" (ED "<"):=#[[008],[008],[008],[008],[008],[008],[008],[008],[008],[008]]
inductive A6 (vs:EA V) (H:Hp) (Q:VK) (_E:XK):Prop
 |mk (op:EC) (b:Int) (_:vs=[.str (dG op), .int b]) (_:op∈F6) (_: ∀H',a9 H H'->Q (.bl (zg op b)) H'):A6 vs H Q _E
theorem akZ (T:aU K mg a):T.d_N.U P w base 1 A6:=by
 refine T.d_N.F.ok akf [03] [02];obtain⟨op,b,rfl,ho,q⟩:=h;refine#[_,(ah (aJ (Cc (b9 o8 (pv 1) aj (aM _)) (jx (b9 jR (pv 0) (CM (aa dH (aa dH ag))) rfl))))),?_];refine [013];rw[cj];unfold zg at q;by_cases hb:b=0
 ·subst hb
  refine bK ?_;refine#[by show 2<=FE;decide,fun p hp=>#[p,_,rfl, .inr (rh.of ae),rfl,rfl,?_]];have e:tZ (.str (dG op)) [.str "/", .str "/rest"]=(decide (op=ED "/")||decide (op=ED "%")):=by
   rw[<-CI ho wZ.2.2.2.1,<-CI ho wZ.2.2.2.2.1];show(("/":Fh) == dG op||(("/rest":Fh) == dG op||false))=_
   have b: ∀x:Fh,(x == dG op)=decide (V.str (dG op)=V.str x):=fun x=>by
    rw[GD,beq_iff_eq,FH];exact#[fun z=>by rw[z],fun z=>(V.str.inj z).symm]
   rw[Oo,b,b]
  show Q (.bl (!tZ (.str (dG op)) [.str "/", .str "/rest"])) _
  rw[e];exact q _ (b3 hp)
 ·rw[FA hb]
  refine cf ?_;have z:=q H fun _ _ e=>e
  rw[show(b !=0)=true from bne_iff_ne.mpr hb] at z;exact z
inductive zV (vs:EA V) (H:Hp) (Q:VK) (_E:XK):Prop
 |mk (op:EC) (x y:Int) (_:vs=[.str (dG op), .int x, .int y]) (_:op∈F6) (_:Q (.bl (L3 op x y)) H):zV vs H Q _E
theorem ak0 (T:aU K mg a):T.d_P.U P w base 1 zV:=by
 refine T.d_P.F.ok akh [03] [02];obtain⟨op,x,y,rfl,ho,q⟩:=h;obtain⟨_,_,_,_,_,l1,l2,l3,l4,l5⟩:=wZ;unfold L3 at q;have q:=CW (Q:=fun z=>Q (.bl z) H) q
 refine jl ho l1 (fun e=>#[_,b9 b8 (pv 1) (pv 2) (aM _),rfl,by rw[cj];exact q.1 e]) fun e=>?_;have q:=CW (Q:=fun z=>Q (.bl z) H) (q.2 e)
 refine jl ho l2 (fun e=>#[_,b9 o8 (pv 1) (pv 2) (aM _),rfl,by rw[cj,<-decide_not];exact q.1 e]) fun e=>?_;have q:=CW (Q:=fun z=>Q (.bl z) H) (q.2 e)
 refine jl ho l3 (fun e=>#[_,b9 eP (pv 1) (pv 2) (aM _),_,_,rfl,rfl,q.1 e]) fun e=>?_;have q:=CW (Q:=fun z=>Q (.bl z) H) (q.2 e)
 refine jl ho l4 (fun e=>#[_,b9 aeR (pv 1) (pv 2) (aM _),_,_,rfl,rfl,q.1 e]) fun e=>?_;have q:=CW (Q:=fun z=>Q (.bl z) H) (q.2 e)
 exact jl ho l5 (fun e=>#[_,b9 jY (pv 1) (pv 2) (aM _),_,_,rfl,rfl,q.1 e]) fun e=>aK #[_,b9 ga (pv 1) (pv 2) (aM _),_,_,rfl,rfl,q.2 e]
theorem uj (h:sC j):j.natAbs.log2<9000:=by
 by_cases z:j.natAbs=0
 ·rw[z];decide
 ·refine E1.lt_trans ((E1.log2_lt z).mpr (show j.natAbs<2 ^ 65 by unfold sC at h;lia)) [01]
inductive XH (vs:EA V) (H:Hp) (Q:VK) (_E:XK):Prop
 |mk (op:EC) (x y:Int) (_:vs=[.str (dG op), .int x, .int y]) (_:op∈F6) (_:sC x) (_:sC y) (_:zg op y=true) (_:Q (.int (mW op x y)) H):XH vs H Q _E
theorem ak1 (T:aU K mg a):T.d_O.U P w base 2 XH:=by
 have G_P:=ak0 (P:=P) (w:=w) (base:=base) T;refine T.d_O.F.ok akg [03] [02];obtain⟨op,x,y,rfl,ho,bx,b_y,hh,q⟩:=h;obtain⟨l1,l2,l3,l4,l5,_⟩:=wZ
 have y0:op=ED "/"\/op=ED "%"->y≠0:=fun o z=>by
  rw[z] at hh;rcases o with o|o
  ·rw[o] at hh;exact E7 hh [00]
  ·rw[o] at hh;exact E7 hh [00]
 unfold mW at q;have q:=CW (Q:=fun z=>Q (.int z) H) q
 refine jl ho l1 (fun e=>#[_,b7 dX (pv 1) (pv 2),_,_,rfl,rfl,q.1 e]) fun e=>?_;have q:=CW (Q:=fun z=>Q (.int z) H) (q.2 e)
 refine jl ho l2 (fun e=>#[_,b7 cW (pv 1) (pv 2),_,_,rfl,rfl,q.1 e]) fun e=>?_;have q:=CW (Q:=fun z=>Q (.int z) H) (q.2 e)
 refine jl ho l3 (fun e=>#[_,b7 Ax (pv 1) (pv 2),_,_,rfl,rfl, .inl bx,q.1 e]) fun e=>?_;have q:=CW (Q:=fun z=>Q (.int z) H) (q.2 e)
 refine jl ho l4 (fun e=>#[_,b7 At (pv 1) (pv 2),_,_,rfl,rfl,#[y0 (.inl e),uj b_y],q.1 e]) fun e=>?_;have q:=CW (Q:=fun z=>Q (.int z) H) (q.2 e)
 refine jl ho l5 (fun e=>#[_,b7 DV (pv 1) (pv 2),_,_,rfl,rfl,y0 (.inr e),q.1 e]) fun e=>?_;refine aK #[_,dB (df (aL G_P hr (by rfl) T.d_P.c aY (aa (pv 0) (aa (pv 1) [079])))) aj aj,op,x,y,rfl,ho,_,rfl,?_];have q:=q.2 e;unfold MY at q;cases hc:L3 op x y with
 |true=>rw[hc] at q;exact cf q
 |false=>rw[hc] at q;exact bK q
inductive agR (vs:EA V) (H:Hp) (Q:VK) (_E:XK):Prop
 |mk (x:Int) (_:(vs=[.str "-", .int x]/\Q (.int (-x)) H)\/(vs=[.str "!", .int x]/\Q (.int (MY (x == 0))) H)):agR vs H Q _E
theorem agS (T:aU K mg a):T.YS.U P w base 1 agR:=by
 refine T.YS.F.ok afF [061] [02]
 ·obtain⟨x,⟨rfl,_⟩|⟨rfl,_⟩⟩:=h
  ·rfl
  ·rfl
 ·obtain⟨x,⟨rfl,q⟩|⟨rfl,q⟩⟩:=h
  ·refine#[_,(ax (cy (a8 b8 (pv 0) dH (aM _)) (ah (aJ (b7 cW aj (pv 1)))) br)
    (ah (aJ (dB (a8 b8 (pv 1) aj (aM _)) aj aj)))),?_]
   refine#[rfl,_,rfl,aP (fun _=>?_) fun e=>E7 e [00]];exact#[_,_,rfl,rfl,by show Q (.int (0-x)) H;rw[Int.zero_sub];exact q]
  ·refine#[_,(ax (cy (a8 b8 (pv 0) dH (aM _)) (ah (aJ (b7 cW aj (pv 1)))) br)
    (ah (aJ (dB (a8 b8 (pv 1) aj (aM _)) aj aj)))),?_]
   refine#[rfl,_,rfl,aP (fun e=>E7 e [00]) fun _=>?_];refine [013];rw[cj];unfold MY at q;by_cases hx:x=0
   ·rw[show(x == 0)=true from beq_iff_eq.mpr hx] at q
    rw[Gb hx];exact cf q
   ·rw[show(x == 0)=false from beq_eq_false_iff_ne.mpr hx] at q
    rw[FA hx];exact bK q
inductive pL (vs:EA V) (H:Hp) (Q:VK) (_E:XK):Prop
 |mk (s:E1) (x:Int) (_:vs=[.int s, .int x]) (_:Q (.bl (jb s x)) H):pL vs H Q _E
theorem agT (T:aU K mg a):T.YU.U P w base 1 pL:=by
 refine T.YU.F.ok afH [03] [02];obtain⟨st,x,rfl,q⟩:=h;refine#[_,(ax (cy (a8 b8 (pv 0) (aR (by rfl) T.SW) (aM _)) (ah (aJ (b9 b8 (pv 1) aj (aM _)))) br)
   (ah (aJ (b9 o8 (pv 1) aj (aM _))))),?_]
 refine [013];rw[cj];unfold jb at q;rw[03]
 ·rw[EL (by have:=Ft e;lia)] at q
  exact#[rfl,by rw[cj];exact q]
 ·rw[EI (by have:=Fw e;lia)] at q
  exact#[rfl,by rw[cj];exact q]
inductive zL (vs:EA V) (H:Hp) (Q:VK) (_E:XK):Prop
 |mk (s:E1) (_:vs=[.int s]) (_:Q (.int (nv s)) H):zL vs H Q _E
theorem agU (T:aU K mg a):T.d_Q.U P w base 1 zL:=by
 refine T.d_Q.F.ok aki [03] [02];obtain⟨st,rfl,q⟩:=h;refine#[_,(ah (aJ (dB (a8 b8 (pv 0) (aR (by rfl) T.SW) (aM _)) aj aj))),?_];refine [013];rw[cj];unfold nv at q;rw[03]
 ·rw[EL (by have:=Ft e;lia)] at q
  exact q
 ·rw[EI (by have:=Fw e;lia)] at q
  exact q
inductive AH (vs:EA V) (H:Hp) (Q:VK) (_E:XK):Prop
 |mk (f:EC) (p:EJ) (l:EA Int) (k:EC×E1) (_:vs=[.str (sb f), .ref p]) (_:H p=some (.lst (l.map V.int))) (_:(KI.find? fun g=>g.1 == f)=some k) (_:l.length=k.2) (_:Q (.int (VM f l)) H):AH vs H Q _E
theorem XI (h:x=sb s):decide (V.str (sb f)=V.str x)=decide (f=s):=by
 rw[h];exact decide_eq_decide.mpr #[fun z=>eI (V.str.inj z),fun z=>by rw[z]]
theorem agV (T:aU K mg a):T.YT.U P w base 1 AH:=by
 refine T.YT.F.ok afG [03] [02];obtain⟨f,p,l,k,rfl,hp,hk,hl,q⟩:=h;refine#[_,(ax (cy (a8 b8 (pv 0) dH (aM _)) (ah (aJ (bD (yh rfl) (by rfl) T.aeD boot_min [031]))) br)
   (ax (cy (a8 b8 (pv 0) dH (aM _)) (ah (aJ (bD (yB rfl) (by rfl) T.aeC boot_max [031]))) br)
   (ah (aJ (bD sD (by rfl) T.Xe boot_abs (aa (cJ bA (pv 1) aj [002]) ag)))))),?_]
 unfold VM at q;rw[001];have kf:k.1=f:=by have:=Qp hk;exact beq_iff_eq.mp this
 have km:=J3 hk
 have kk:k=(ED "min",2)\/k=(ED "max",2)\/k=(ED "abs",1):=by
  unfold KI at km
  simpa using km
 refine [013];rw[XI (s:=ED "min") [00]];rw[03]
 ·have e:=Ft e
  rw[EL e] at q;have:l.length=2:=by
   rcases kk with z|z|z
   ·rw[hl,z]
   ·rw[hl,z]
   ·rw[z] at kf;rw[e] at kf;exact E7 kf [00]
  match l,this with
  |[i,j],_=>exact#[p,i,j,rfl,hp,q]
 have e1:=Fw e;rw[EI e1] at q;refine [013];rw[XI (s:=ED "max") [00]];rw[03]
 ·have e:=Ft e
  rw[EL e] at q;have:l.length=2:=by
   rcases kk with z|z|z
   ·rw[hl,z]
   ·rw[hl,z]
   ·rw[z] at kf;rw[e] at kf;exact E7 kf [00]
  match l,this with
  |[i,j],_=>exact#[p,i,j,rfl,hp,q]
 have e2:=Fw e;rw[EI e2] at q
 have:l.length=1:=by
  rcases kk with z|z|z
  ·rw[z] at kf;exact E7 kf.symm e1
  ·rw[z] at kf;exact E7 kf.symm e2
  ·rw[hl,z]
 match l,this with
 |[i],_=>exact#[p,_,_,V.int i,rfl,rfl,cP.of hp,bo (j:=0) rfl,i,rfl,q]
inductive XJ (a:bf) (vs:EA V) (H:Hp) (Q:VK) (E:XK):Prop
 |mk (x:Int) (_:vs=[.int x]) (_:(dC x->Q (.int x) H)) (_:(¬dC x->Rfs a.Ko E H (-12))):XJ a vs H Q E
theorem agW (T:aU K mg a) (XC:XW K a):T.d_w.O P w base 4 (XJ a):=by
 have G_M:=lh (P:=P) (w:=w) (base:=base) T XC;refine fO T.d_w.F akp [03] [02];obtain⟨x,rfl,h1,h2⟩:=h;refine#[_,(ax (cy (a8 ga (bD sD (by rfl) T.Xe boot_abs (aa (pv 0) ag)) (aR (by rfl) T.SX) (aM _)) (ah (eT eu XC.Oc G_M [017] (by rfl) T.Pn T.d_M.c.b)) br)
   (ah (aJ (pv 0)))),?_]
 refine#[_,rfl,_,_,rfl,rfl,_,rfl,?_];rw[03]
 ·have e:=Ft e
  exact#[by show 0<=9;decide,_,#[rfl,rfl],h2 fun z=>by unfold dC JR at z;split at e<;>lia]
 ·have e:=Fw e
  exact h1 (by unfold dC JR;split at e<;>lia)
inductive XM (a:bf) (vs:EA V) (H:Hp) (Q:VK) (E:XK):Prop
 |mk (op:EC) (s:E1) (x y:Int) (_:vs=[.str (dG op), .int x, .int y]) (_:op∈F6) (_:dC x) (_:dC y) (_:(s=2 ↔ op∈["==","!=","<=",">=","<",">"].map ED)) (_:(s≠2->op∈["+","-","*","/","%"].map ED)) (_:(match fR s op x y with
  | .error k=> ∀H',a9 H H'->oM a E H' k
  | .ok z=> ∀H',a9 H H'->Q (.int z) H')):XM a vs H Q E
theorem B9 (h:op∈["==","!=","<=",">=","<",">"].map ED):op≠ED "+"/\op≠ED "-"/\op≠ED "*"/\op≠ED "/"/\op≠ED "%":=by
 revert op
 decide+kernel
theorem agX (T:aU K mg a) (XC:XW K a):T.Y0.O P w base 5 (XM a):=by
 have G_N:=akZ (P:=P) (w:=w) (base:=base) T
 have G_O:=ak1 (P:=P) (w:=w) (base:=base) T
 have G_w:=agW (P:=P) (w:=w) (base:=base) T XC
 have G_L:=ic (P:=P) (w:=w) (base:=base) T XC;refine fO T.Y0.F afQ [03] [02];obtain⟨op,st,x,y,rfl,ho,bx,b_y,h2,hn,q⟩:=h;refine#[_,(ax (cy (kU (df (aL G_N [017] (by rfl) T.d_N.c aY (aa (pv 0) [079])))) (ah (eT eu XC.Lq G_L [017] (by rfl) T.MA T.d_L.c.b)) br)
   (ah (aJ (aL G_w [017] (by rfl) T.d_w.c aA (aa (aL G_O [017] (by rfl) T.d_O.c aY (aa (pv 0) (aa (pv 1) [079]))) ag))))),?_]
 refine#[op,y,rfl,ho,fun H1 s1=>[022]];have bx':sC x:=by unfold dC JR at bx;unfold sC;lia
 have ak2:sC y:=by unfold dC JR at b_y;unfold sC;lia
 cases hh:zg op y with
 |false=>
  refine cf ?_;unfold zg at hh;rw[Lx] at hh;have y0:y=0:=by simpa using hh.1
  have od:op=ED "/"\/op=ED "%":=by have:=hh.2;rw[OP,LL,FH,FH] at this;exact this
  have n2:st≠2:=fun z=>by
   have:=B9 (h2.mp z);rcases od with z|z
   ·exact this.2.2.2.1 z
   ·exact this.2.2.2.2 z
  have ec:fR st op x y= .error (-11):=by
   unfold fR WZ;rw[EI n2,y0];rcases od with z|z
   ·rw[z,EI [00],EI [00],EI [00],EL rfl]
   ·rw[z,EI [00],EI [00],EI [00],EL rfl]
  rw[ec] at q;exact#[by show 0<=9;decide,_,#[rfl,rfl],q H1 s1 _ (.head _)]
 |true=>
  refine bK ?_;refine#[op,x,y,rfl,ho,bx',ak2,hh,?_];have key:fR st op x y=if dC (mW op x y) then .ok (mW op x y) else .error (-12):=by
   unfold fR;by_cases z:st=2
   ·rw[EL z]
    obtain⟨e1,e2,e3,e4,e5⟩:=B9 (h2.mp z);have:mW op x y=MY (L3 op x y):=by unfold mW;rw[EI e1,EI e2,EI e3,EI e4,EI e5]
    rw[this,EL (gO _)]
   ·rw[EI z]
    have y0:op=ED "/"\/op=ED "%"->y≠0:=fun o=>by
     unfold zg at hh;intro w0;rw[w0] at hh;rcases o with o|o
     ·rw[o] at hh;exact E7 hh [00]
     ·rw[o] at hh;exact E7 hh [00]
    have ck: ∀v:Int,(match VN v 0 with
      | .error c=> .error c
      | .ok (v,_)=> .ok v)=if dC v then(.ok v:Except Int Int) else .error (-12):=fun v=>by
     unfold VN;by_cases h:dC v
     ·rw[EL h,EL h]
     ·rw[EI h,EI h]
    unfold WZ mW;by_cases e1:op=ED "+"
    ·rw[EL e1,EL e1];exact ck _
    rw[EI e1,EI e1];by_cases e2:op=ED "-"
    ·rw[EL e2,EL e2];exact ck _
    rw[EI e2,EI e2];by_cases e3:op=ED "*"
    ·rw[EL e3,EL e3];exact ck _
    rw[EI e3,EI e3];by_cases e4:op=ED "/"
    ·rw[EI (y0 (.inl e4)),EL e4,EL e4];exact ck _
    rw[EI e4];have e5:op=ED "%":=by
     have:=hn z;simp only[Fe,Ph,EW,GZ,or_false] at this;rcases this with z|z|z|z|z
     ·exact E7 z e1
     ·exact E7 z e2
     ·exact E7 z e3
     ·exact E7 z e4
     ·exact z
    rw[EI (y0 (.inr e5)),EI e4,EL e5];exact ck _
  rw[key] at q;refine#[_,rfl,fun hb=>?_,fun hb=>?_]
  ·rw[EL hb] at q
   exact q H1 s1
  ·rw[EI hb] at q
   exact q H1 s1 _ (.tail _ (.head _))
structure GX (X:Cx) (a:bf) (E:XK):Prop where
 T:aU X.K X.mg a
 C:XW X.K a
 hr:bW 5 X.A
 up:dh (fW X.prog X.w) X E
 nd:X.N.Nodup
 n0:X.N[0]?=some ("worker":Fh)
 v0:oH X.env.scope "worker"
 n2:X.N[2]?=some ("parts":Fh)
 v2:oH X.env.scope "parts"
structure o4 (a:bf) (H:Hp) (B:rY) (c:pi) (S:Hr) (F0:EA (EC×E1)) (r:V) (b:E1) (ff:EA (a0×V)) (ds:EA rl) (u:oF) (us:EA oF) (e:ER) (ts:EA dS) (sc:EA fo) (n:E1):Prop where
 FO:gm S F0
 gd:Gd F0 (.go ((e,u.ps)::ts) sc n)
 W:eX a B H c S.funs r b ff ds (u::us) ((e,u.ps)::ts) sc n
inductive agY (a:bf) (ok:Hr->ER->EA Int->Prop) (vs:EA V) (H:Hp) (Q:VK) (E:XK):Prop
 |mk {B:rY}{c:pi}{S:Hr}{F0:EA (EC×E1)}{r:V}{b:E1}{ff:EA (a0×V)}{ds:EA rl}{u:oF}{us:EA oF}{e:ER}{ts:EA dS}{sc:EA fo}{n:E1}{m:Mc}(_:vs=[.ref c.wk,u.v, .ref u.p]) (_:ok S e u.ps) (_:o4 a H B c S F0 r b ff ds u us e ts sc n) (_:d8 S.funs (.go ((e,u.ps)::ts) sc n)=some m) (_:nX a B c S.funs (Q .HZ) E m):agY a ok vs H Q E
section
variable {H H':Hp}
theorem o4.ev (G:o4 a H B c S F0 r b ff ds u us e ts sc n):au a B.M B.H e u.v:=by
 cases G.W.tk with
 |cons h _=>exact h.1
theorem o4.hp (G:o4 a H B c S F0 r b ff ds u us e ts sc n):H u.p=some (.lst (u.ps.map V.int)):=G.W.O.get 5 rfl
theorem o4.psB (G:o4 a H B c S F0 r b ff ds u us e ts sc n): ∀x∈u.ps,dC x:=(G.gd.1 (e,u.ps) EO).ps
theorem o4.ws (G:o4 a H B c S F0 r b ff ds u us e ts sc n):WSx F0 e:=(G.gd.1 (e,u.ps) EO).ws
theorem o4.len (G:o4 a H B c S F0 r b ff ds u us e ts sc n):u.ps.length+n<=10000:=G.W.bn.tl 0 _ rfl
theorem o4.grow (G:o4 a H B c S F0 r b ff ds u us e ts sc n) (k:a9 H H'):o4 a H' B c S F0 r b ff ds u us e ts sc n:=#[G.FO,G.gd,G.W.grow k]
theorem o4.part (G:o4 a H B c S F0 r b ff ds u us e ts sc n) (h:H' u.p=some (.lst (ps.map V.int))) (k: ∀b o,H b=some o->b≠u.p->H' b=some o) (hl:ps.length<=u.ps.length) (hb: ∀x∈ps,dC x):o4 a H' B c S F0 r b ff ds { u with ps:=ps } us e ts sc n:=by
 refine#[G.FO,#[fun t ht=>?_,G.gd.2],G.W.parts h k (by have:=G.len;lia)];rcases EW.mp ht with z|z
 ·rw[z];exact#[G.ws,hb]
 ·exact G.gd.1 t (EN _ z)
end
abbrev oV (P:Fz) (w:Ga) (K:EF) (mg:Fh->ET EH) (base:Gn) (a:bf) (k:E1) (f:EJ) (fd:FL) (y:Fh) (ok:Hr->ER->EA Int->Prop):Prop:=bS P w K mg base (fW P w) k f fd ["worker",y,"parts"] (agY a ok)
set_option cleanup.letToHave false in
theorem qh {x Gz y:Fh}{st:Stmt}{f:EJ}{fd:FL}{N:EA Fh}{ok:Hr->ER->EA Int->Prop}(T:aU K mg a) (XC:XW K a) (hk:5<=k) (F:oJ K x Gz st f fd) (S:az N ["worker",y,"parts"] (af st))
  (Jc: ∀(Gp:EH) (A:Gk) (outer:EA Env) (s:EM) (H:Hp) (B:rY) (c:pi) (S:Hr) (F0:EA (EC×E1)) (r:V) (b:E1) (ff:EA (a0×V)) (ds:EA rl) (u:oF) (us:EA oF) (e:ER) (ts:EA dS) (sc:EA fo) (n:E1) (m:Mc) (Q:VK) (E:XK),bW k (A.deeper [011])->ok S e u.ps->o4 a H B c S F0 r b ff ds u us e ts sc n->d8 S.funs (.go ((e,u.ps)::ts) sc n)=some m->nX a B c S.funs (Q .HZ) E m->
   let X:=fg (fW P w) P w K mg base N Gz (af st) f Gp A outer s H E
   let D:eG:= { nx:=fun _ H'=>Q .HZ H',rt:=Q }
   GX X a E->Bd X (a7 st) D (L2.start N [.ref c.wk,u.v, .ref u.p]) H):oV P w K mg base a (k+1) f fd y ok:=by
 rw[017];obtain @⟨B,c,S',F0,r,b,ff,ds,u,us,e,ts,sc,n,m,rfl,ho,G,hm,g⟩:=h;have ZL: ∀g∈[("worker":Fh),y,"parts"],oH (af st) g:=fun g hg=>(S.par g hg).elim .inl fun z=> .inr (.inl z)
 have pre:=S.pre;refine Jc Gp A outer s H B c S' F0 r b ff ds u us e ts sc n m Q E hr ho G hm g #[T,XC,hr.mono hk,aA,S.nd,?_,ZL _ (.head _),?_,ZL _ [041]]
 ·match N,pre with
  |x::_,e=>exact FN some (IZ e).1
 ·match N,pre with
  |_::_::x::_,e=>exact FN some (IZ (IZ (IZ e).2).2).1
section
variable {X:Cx}{E:XK}{B:rY}{c:pi}{F:Jd}{r:V}{b:E1}{ff:EA (a0×V)}{ds:EA rl}{u:oF}{us:EA oF}{t:dS}{ts:EA dS}{sc:EA fo}{n:E1}{D:eG}{σ:L2.St}{H:Hp}{e:G8}{p1 p2 p3 p4 p5:Pos}
theorem fk (Y:GX X a E) (q:Pe X e [084] H fun v H1=> ∃(o:ER) (us:EA oF) (ts:EA dS),eX a B H1 c F r b ff ds us ts sc n/\au a B.M B.H o v/\nX a B c F (D.nx [084]) E (jQ o ts sc n)) (W:eX a B H c F r b ff ds us ts sc n) (hp:ig p2 p4:=by rfl) (JS:Fb [e] X.env=[[000]]:=by rfl):
  Bd X [.Expr (.Call (.Attribute (.Name "worker" p1) "begin" p2) [e] [] p4) p5] D [084] H:=
 eF (bi (cx (dU Y.n0 Y.v0) Y.T.Hw Y.T.Wh.c (rp Y.T Y.C) Y.hr Y.up (aa dn ag JS) JS rfl (eE hp (by rw[JS];rfl))) rfl) #[c.wk,c.dw,_,rfl,W.ins,rfl,q.mono fun v H1 ⟨o,us,ts,W1,ev,g⟩=> .mk rfl W1 ev g]
theorem BT {N:Hp->Prop}{E':XK}(g:nX a B c F N E (eN ts sc n x)):nX a B c F N E' (eN ts sc n x):=by
 cases ts<;>exact g
theorem de (Y:GX X a E) (W:eX a B H c F r b ff ds us ts sc n) (q:Pe X e [084] H fun v H1=> ∃(x:Int) (ds:EA rl) (u:oF) (us:EA oF) (t:dS) (ts:EA dS) (sc:EA fo),v= .int x/\eX a B H1 c F r b ff ds (u::us) (t::ts) sc n/\nX a B c F (D.nx [084]) E (eN ts sc n x)) (hp:ig p2 p4:=by rfl) (JS:Fb [e] X.env=[[000]]:=by rfl):
  Bd X [.Expr (.Call (.Attribute (.Name "worker" p1) "finish" p2) [e] [] p4) p5] D [084] H:=
 eF (bi (cx (dU Y.n0 Y.v0) Y.T.Hw Y.T.YY.c (xy Y.T) (Y.hr.mono [01]) aY (aa dn ag JS) JS rfl (eE hp (by rw[JS];rfl))) rfl) #[c.wk,c.dw,_,rfl,W.ins,rfl,q.mono fun v H1 ⟨x,ds,u,us,t,ts,sc,hv,W1,g⟩=>by subst hv;exact .mk rfl W1 (BT g)]
theorem dI {Q:VK}(Y:GX X a E) (hp:H p=some [049]) (q:Q (.int xs.length) H) (hg:Gl X "len":=by rfl):Pe X (.Call (.Name "len" p1) [.Name "parts" p3] [] p2) (some (.ref c.wk)::some v::some (.ref p)::σ) H Q:=ij Y.T.JP hp (dU Y.n2 Y.v2) [05] q hg
end
theorem jr {α β:Type}{F:α->β->Prop} : ∀ {l:EA α}{m:EA β}{i:E1}{y:β},Paired F l m->m[i]?=some y-> ∃x,l[i]?=some x/\F x y
 |_,_,_,_, .nil,h=>by cases h
 |_,_,0,_, .cons r t,h=>#[_,rfl,by obtain rfl:=E5 h;exact r]
 |_,_,i+1,_, .cons r t,h=>jr (i:=i) t h
theorem agZ {a:bf}{M:EJ->Prop}{H:Hp}{e x:ER}(he:e= .neg x\/e= .not x) (h:au a M H e v): ∃sg u,bC M H a.Ke [("sign", .str sg),("operand",u)] v/\au a M H x u/\(sg="-"/\e= .neg x\/sg="!"/\e= .not x):=by
 rcases he with rfl|rfl
 ·unfold au at h
  obtain⟨u,h1,h2⟩:=h;exact#[_,u,h1,h2, .inl #[rfl,rfl]]
 ·unfold au at h
  obtain⟨u,h1,h2⟩:=h;exact#[_,u,h1,h2, .inr #[rfl,rfl]]
theorem ak3 (T:aU K mg a) (XC:XW K a):oV P w K mg base a 6 a.f_4 a.adt "unary" fun _ e _=> ∃x,e= .neg x\/e= .not x:=by
 refine qh T XC [01] T.d_4.F akl fun Gp A outer s H B c S F0 r b ff ds u us e ts sc n m Q E hr ho G hm g=>?_;intro X D Y;obtain⟨x,he⟩:=ho;have W:=G.W;obtain⟨sg,w,i,hw,un⟩:=agZ he G.ev;refine cr (jg (dI Y G.hp (cM #[_,_,rfl,rfl,?_])));rw[EY];have hp:=G.hp;generalize V3:u.ps=ps at hm hp;cases ps with
 |nil=>
  refine cf (fk Y (cn (bv 1 (i.fld W.O.same T.Ox T.MC rfl #[x,_,_,W,hw,?_])) rfl) W);rcases un with⟨_,rfl⟩|⟨_,rfl⟩
  ·cases hm;rw[V3];exact g
  ·cases hm;rw[V3];exact g
 |cons y ys=>
  refine bK (de Y W (bI (aO (cn (bv 1 (i.fld W.O.same T.Ox T.NV rfl (aO (kO (bv 2 (cM #[u.p,_,_,V.int y,rfl,rfl,cP.of hp,bo (j:=0) rfl,cD #[y,?_]])) [002])))) rfl)) (agS T) [07] T.YS.c aY));rcases un with⟨rfl,rfl⟩|⟨rfl,rfl⟩
  ·cases hm
   exact .inl #[rfl,_,_,_,_,_,_,_,rfl,W,g]
  ·cases hm
   exact .inr #[rfl,_,_,_,_,_,_,_,rfl,W,g]
theorem ak4 (T:aU K mg a) (XC:XW K a):oV P w K mg base a 6 a.f_8 a.ady "choice" fun _ e _=> ∃x y z,e= .pick x y z:=by
 refine qh T XC [01] T.d_8.F akq fun Gp A outer s H B c S F0 r b ff ds u us e ts sc n m Q E hr ho G hm g=>?_;intro X D Y;obtain⟨x,y,z,rfl⟩:=ho;have W:=G.W;have ev:=G.ev;unfold au at ev;obtain⟨u1,u2,u3,i,e1,e2,e3⟩:=ev;have hp:=G.hp;refine cr (jg (dI Y hp (cM #[_,_,rfl,rfl,?_])));rw[EY];generalize V3:u.ps=ps at hm hp;have bg: ∀ {p1 p2 p3 p4 p5 p6:Pos}{f:Fh}{o:ER}{v:V},([("condition",u1),("chosen",u2),("otherwise",u3)]:EA (Fh×V)).lookup f=some v->ao K a.JO f->au a B.M B.H o v->nX a B c S.funs (Q .HZ) E (jQ o ((.pick x y z,u.ps)::ts) sc n)->(p2.endLine == p4.line)=true->Bd X [.Expr (.Call (.Attribute (.Name "worker" p1) "begin" p2) [.Attribute (.Name "choice" p3) f p6] [] p4) p5] D [some (.ref c.wk),some u.v,some (.ref u.p)] H:=fun hl no ev g hp=>fk Y (cn (bv 1 (i.fld W.O.same T.O2 no hl #[_,_,_,W,ev,g])) rfl) W hp
 match ps,hm with
 |[],hm=>cases hm;exact cf (bg rfl T.LC e1 (by rw[V3];exact g) rfl)
 |[t],hm=>
  cases hm;refine bK (cr (jg (dI Y hp (cM #[_,_,rfl,rfl,bK (cr (cR o8 (kO (bv 2 (cM #[u.p,_,_,V.int t,rfl,rfl,cP.of hp,bo (j:=0) rfl,cM [013]])) [002])))]))));rw[cj];by_cases ht:t=0
  ·rw[EI (fun w=>w ht)] at g
   rw[Gb ht];exact bK (bg rfl T.LD e3 (by rw[V3];exact g) rfl)
  ·rw[EL ht] at g
   rw[FA ht];exact cf (bg rfl T.MF e2 (by rw[V3];exact g) rfl)
 |[t,t'],hm=>
  cases hm;exact bK (cr (jg (dI Y hp (cM #[_,_,rfl,rfl,cf (de Y W (kO (bv 2 (cM #[u.p,_,_,V.int t',rfl,rfl,cP.of hp,bo (j:=1) rfl,_,_,_,_,_,_,_,rfl,W,g])) [002]))]))))
 |_::_::_::_,hm=>cases hm
def kK:ER->ET (E1×EA ER×EA EC)
 | .sums e r=>some (3,e::CY r,zo r)
 | .prods e r=>some (4,e::CY r,zo r)
 | .cmp op x y=>some (2,[x,y],[op])
 | .both e l=>some (1,e::lc l,(lc l).map fun _=>ED "&&")
 | .either e l=>some (0,e::lc l,(lc l).map fun _=>ED "||")
 |_=>none
section
variable {M:EJ->Prop}{H:Hp}
theorem ml: ∀ {l:Jw}{us:EA V},cv a M H l us->Paired (fun u e=>au a M H e u) us (lc l)
 | .nil,us,h=>by unfold cv at h;rw[h];exact .nil
 | .cons e l,us,h=>by
  unfold cv at h;obtain⟨u,vs,rfl,h1,h2⟩:=h;exact .cons h1 (ml h2)
theorem qT: ∀ {l:PM}{us ss:EA V},dz a M H l us ss->Paired (fun u e=>au a M H e u) us (CY l)/\ss=(zo l).map fun o=>V.str (dG o)
 | .nil,us,ss,h=>by unfold dz at h;rw[h.1,h.2];exact#[.nil,rfl]
 | .cons op e l,us,ss,h=>by
  unfold dz at h;obtain⟨u,vs,ts,rfl,rfl,h1,h2⟩:=h;obtain⟨g1,g2⟩:=qT h2;exact#[.cons h1 g1,by rw[g2];rfl]
inductive aaH (a:bf) (M:EJ->Prop) (H:Hp) (s:E1) (ops:EA ER) (sgs:EA EC) (v:V):Prop
 |mk (oq gq:V) (us:EA V) (_:bC M H a.Jj [("strength", .int s),("operands",oq),("signs",gq)] v) (_:bZ M H us oq) (_:Paired (fun u e=>au a M H e u) us ops) (_:bZ M H (sgs.map fun o=>V.str (dG o)) gq):aaH a M H s ops sgs v
theorem nD {e:ER}{v:V}{s:E1}{ops:EA ER}{sgs:EA EC}(h:au a M H e v) (hc:kK e=some (s,ops,sgs)):aaH a M H s ops sgs v:=by
 have sg: ∀(t:EC) (x:Fh) (l:Jw) (us:EA V),dG t=x->us.length=(lc l).length->us.map (fun _=>V.str x)=((lc l).map fun _=>t).map fun o=>V.str (dG o):=fun t x l us e hl=>by
  rw[Jg,<-e,V9,hl];exact(V9 ..).symm
 cases e with
 |sums e r=>
  unfold au at h;cases hc;obtain⟨_,_,u,us,ss,h1,h2,h3,h4,h5⟩:=h;obtain⟨g1,g2⟩:=qT h5;exact#[_,_,_,h1,h2, .cons h4 g1,by rw[<-g2];exact h3]
 |prods e r=>
  unfold au at h;cases hc;obtain⟨_,_,u,us,ss,h1,h2,h3,h4,h5⟩:=h;obtain⟨g1,g2⟩:=qT h5;exact#[_,_,_,h1,h2, .cons h4 g1,by rw[<-g2];exact h3]
 |cmp op x y=>
  unfold au at h;cases hc;obtain⟨_,_,u1,u2,h1,h2,h3,h4,h5⟩:=h;exact#[_,_,_,h1,h2, .cons h4 (.cons h5 .nil),h3]
 |both e l=>
  unfold au at h;cases hc;obtain⟨_,_,u,us,h1,h2,h3,h4,h5⟩:=h;have g1:=ml h5;exact#[_,_,_,h1,h2, .cons h4 g1,by rw[<-sg (ED "&&") "&&" l us [00] (bM g1)];exact h3]
 |either e l=>
  unfold au at h;cases hc;obtain⟨_,_,u,us,h1,h2,h3,h4,h5⟩:=h;have g1:=ml h5;exact#[_,_,_,h1,h2, .cons h4 g1,by rw[<-sg (ED "||") "||" l us [00] (bM g1)];exact h3]
 |_=>cases hc
theorem nG {F:Jd}{e:ER}{s:E1}{ops:EA ER}{sgs:EA EC}(hc:kK e=some (s,ops,sgs)) (ps:EA Int) (ts:EA dS) (sc:EA fo) (n:E1):d8 F (.go ((e,ps)::ts) sc n)=if s<=1 then oQ s ops e ps ts sc n else kH s ops sgs e ps ts sc n:=by
 cases e<;>cases hc<;>rfl
end
theorem xX {s:E1}{ops:EA ER}{sgs:EA EC}(h:sgs[qs.length]?=none):kH s ops sgs e (qs++[x,y]) ts sc n=none:=by
 unfold kH;dsimp only;rw[show(qs++[x,y]).length=qs.length+2 by simp,EL (by lia),Ml,h]
theorem t9 {L:EA String}{V:EA EC}{G:EA (EC×E1)} : ∀ {l:PM}{op:EC},vr L V G l->op∈zo l->op∈L.map ED
 | .nil,_,_,h=>nomatch h
 | .cons o x l,op,w,h=>by
  unfold vr at w;rcases EW.mp h with z|z
  ·rw[z];exact w.1
  ·exact t9 w.2.2 z
theorem ra:(∀o∈["+","-"].map ED,o∈F6/\o∉["==","!=","<=",">=","<",">"].map ED/\o∈["+","-","*","/","%"].map ED)/\(∀o∈["*","/","%"].map ED,o∈F6/\o∉["==","!=","<=",">=","<",">"].map ED/\o∈["+","-","*","/","%"].map ED)/\(∀o∈["==","!=","<=",">=","<",">"].map ED,o∈F6):=by decide+kernel
theorem xD {s:E1}{ops:EA ER}{sgs:EA EC}{op:EC}(w:WSx F0 e) (hc:kK e=some (s,ops,sgs)) (h2: ¬s<=1) (ho:op∈sgs):op∈F6/\(s=2 ↔ op∈["==","!=","<=",">=","<",">"].map ED)/\(s≠2->op∈["+","-","*","/","%"].map ED):=by
 obtain⟨V,G,w,_⟩:=w;cases e with
 |sums e l=>
  cases hc;rw[002];have z:=ra.1 op (t9 w.2.2 ho);exact#[z.1,#[(fun y=>by cases y),fun y=>E7 y z.2.1],fun _=>z.2.2]
 |prods e l=>
  cases hc;rw[002];have z:=ra.2.1 op (t9 w.2.2 ho);exact#[z.1,#[(fun y=>by cases y),fun y=>E7 y z.2.1],fun _=>z.2.2]
 |cmp o x y=>
  cases hc;rw[002];rw[Fd.mp ho];exact#[ra.2.2 _ w.1,#[fun _=>w.1,fun _=>rfl],fun z=>E7 rfl z]
 |both e l=>cases hc;exact E7 (E6 1) h2
 |either e l=>cases hc;exact E7 (Fs 1) h2
 |_=>cases hc
section
variable {E:XK}{H:Hp}{Q:VK}
theorem wB (Y:GX X a E) (C:aaH a B.M B.H s ops sgs v) (W:eX a B H c F r b ff ds (u::us) ((e,u.ps)::ts) sc n) (lt: ∀o,ops[u.ps.length]?=some o->nX a B c F (D.nx (some (.ref c.wk)::some v::some (.ref u.p)::σ)) E (jQ o ((e,u.ps)::ts) sc n)) (ge:ops[u.ps.length]?=none->Bd X Tb D (some (.ref c.wk)::some v::some (.ref u.p)::σ) H)
  (hg:Gl X "len":=by rfl) (n1:X.N[1]?=some ("chain":Fh):=by rfl) (v1:oH X.env.scope "chain":=by exact Gx rfl) (h2:(q1.endLine == q2.line)=true:=by rfl):
  Bd X [.If (.Compare (.Call (.Name "len" p1) [.Name "parts" p2] [] p3) [.Lt] [.Call (.Name "len" p4) [.Attribute (.Name "chain" p5) "operands" p6] [] p7] p8) [.Expr (.Call (.Attribute (.Name "worker" q4) "begin" q1) [.Subscript (.Attribute (.Name "chain" q3) "operands" p9) (.Call (.Name "len" q5) [.Name "parts" q6] [] q7) q8] [] q2) q9] Tb q0] D (some (.ref c.wk)::some v::some (.ref u.p)::σ) H:=by
 obtain⟨oq,gq,VG,i,⟨o,rfl,_,ho⟩,pr,_⟩:=C;have ho:=W.O.same _ _ ho;have hp:=W.O.get 5 rfl;have fl: ∀ {Q:VK},Q (.ref o) H->dL X.K "operands" Q v H:=fun q=>i.fld W.O.same Y.T.ME Y.T.Me rfl q
 refine cr (cR jY (dI Y hp (ij Y.T.JP ho (ak (dU n1 v1) rfl) (fun _ q=>fl q) #[_,_,rfl,rfl,_,rfl,dD [030] fun z=>ge (Ig ?_)] hg) hg) rfl)
 ·rw[EY,bM pr] at z
  have lt':u.ps.length<ops.length:=by lia
  obtain⟨w,hw,ew⟩:=jr pr (GU lt');exact fk Y (kO (cn (bv 1 (fl (dI Y hp #[o,_,_,w,rfl,rfl,cP.of ho,by rw[EY];exact bo hw,_,_,_,W,ew,lt _ (GU lt')] hg)) n1 v1) rfl) [002]) W h2
 ·rw[EY,bM pr] at z
  lia
end
theorem ak5 (T:aU K mg a) (XC:XW K a):oV P w K mg base a 6 a.f_6 a.adv "chain" fun _ e _=> ∃s ops sgs,kK e=some (s,ops,sgs)/\s<=1:=by
 refine qh T XC [01] T.d_6.F akn fun Gp A outer s H B c S F0 r b ff ds u us e ts sc n m Q E hr ho G hm g=>?_;intro X D Y;obtain⟨st,ops,sgs,hc,hs⟩:=ho;have W:=G.W;rw[nG hc,EL hs] at hm;have C:=nD G.ev hc;obtain⟨oq,gq,VG,i,_⟩:=id C;have fl: ∀ {Q:VK},Q (.int st) H->dL K "strength" Q u.v H:=fun q=>i.fld W.O.same T.ME T.KC rfl q
 unfold oQ at hm;refine aag (Z:= ¬u.ps.getLast?.any (jb st)=true) (fun na=>wB Y C W (fun o ho=>?_) fun ho=>?_) fun Tb=>Bq (cR ga (dI Y G.hp (cM [029])))
 ·rw[EI na,ho] at hm
  cases hm;exact g
 ·rw[EI na,ho] at hm
  cases hm;exact de Y W (Az cW (cM (bI (aO (cn (bv 1 (fl (cD #[st,rfl,_,_,rfl,rfl,_,_,_,_,_,_,_,rfl,W,g]))) rfl)) (agU T) [07] T.d_Q.c aY)))
 ·rcases SD u.ps with z|⟨qs,y,z⟩
  ·rw[z]
   exact bK (bK (Tb (by rw[z];exact EE)))
  ·rw[SE] at z
   have hp:=G.hp;rw[z,GG] at hp;rw[z,EY,Fc];refine dD (fun _=>?_) fun z=>E7 z (by show¬ ¬(0:Int)<((qs.length+1:E1):Int);lia)
   refine dv (bI (aO (cn (bv 1 (fl (aO (kO (bv 2 #[_,dJ cH aj,_,rfl,u.p,_,_,V.int y,rfl,rfl,cP.of hp,eA _ _,cD #[st,y,rfl,_,rfl,aP (fun ey=>?_) fun ey=>Tb (by rw[z];simp [ey])]]) [002])))) rfl)) (agT T) [07] T.YU.c aY);rw[z,EL (by simp [ey])] at hm;cases hm;exact de Y W (bI (aO (cn (bv 1 (fl (cD #[st,rfl,_,_,_,_,_,_,_,rfl,W,g]))) rfl)) (agU T) [07] T.d_Q.c aY)
theorem r8 {α:Type}(l:EA α) (h:2<=l.length): ∃qs x y,l=qs++[x,y]:=by
 refine#[l.take (l.length-2),l[l.length-2],l[l.length-1],?_];have t1:=SA (l.length-2) l;have t2:l.drop (l.length-2)=[l[l.length-2],l[l.length-1]]:=by
  rw[GO (by lia),GO (by lia),JE (by lia)]
  congr 2
  congr 1
  lia
 rw[t2] at t1;exact t1.symm
theorem Ac {H:Hp}{Q:VK}{te:TE}(he:PE X e te) (hv: ∀R:VK,R (.ref p) H->te σ H R) (h:H p=some (.lst (xs++[v]))) (q:Q v (aF H p [049])) (hb:HM e "pop" X.env (eval e X.env)=eval e X.env:=by rfl) (hp:ig p1 p2:=by rfl):Pe X (.Call (.Attribute e "pop" p1) [] [] p2) σ H Q:=
 #[_,B4 Iw Rp Rq Bg he hb hp,hv _ #[.inl #[rfl,_,cP.of h],p,_,v,rfl,rfl,h,by simp,by rw[Tn];exact q]]
theorem ak6 (T:aU K mg a) (XC:XW K a):oV P w K mg base a 6 a.f_7 a.adw "chain" fun _ e _=> ∃s ops sgs,kK e=some (s,ops,sgs)/\ ¬s<=1:=by
 refine qh T XC [01] T.d_7.F ako fun Gp A outer s H B c S F0 r b ff ds u us e ts sc n m Q E hr ho G hm g=>?_;intro X D Y;obtain⟨st,ops,sgs,hc,hs⟩:=ho;rw[nG hc,EI hs] at hm;have C:=nD G.ev hc;refine gi (fun σ' H'=> ∃(ps:EA Int) (y:ET V),σ'=[some (.ref c.wk),some u.v,some (.ref u.p),y]/\o4 a H' B c S F0 r b ff ds { u with ps:=ps } us e ts sc n/\qp ops e ps ts sc n=some m) ?_ (cR ga (dI Y G.hp (cM [029])))
 ·rintro σ' H' ⟨ps,y,rfl,G',O9⟩
  refine wB (u:= { u with ps:=ps }) Y C G'.W (fun o ho=>?_) fun ho=>?_
  ·have ho:ops[ps.length]?=some o:=ho
   unfold qp at O9;rw[ho] at O9;cases O9;exact g
  ·have ho:ops[ps.length]?=none:=ho
   unfold qp at O9;rw[ho] at O9;obtain⟨x,hx,rfl⟩:=FG.mp O9;obtain⟨qs,rfl⟩: ∃qs,ps=qs++[x]:=EA.getLast?_eq_some_iff.mp hx;have XQ:=G'.hp;rw[GG] at XQ;exact de Y G'.W (kO (bv 2 #[_,dJ cH aj,_,rfl,u.p,_,_,V.int x,rfl,rfl,cP.of XQ,eA _ _,_,_,_,_,_,_,_,rfl,G'.W,g]) [002])
 ·rw[EY]
  refine dD [030] fun z=>#[u.ps,none,rfl,G,by rw[<-hm];exact(mM (by lia)).symm];obtain⟨qs,x,y,ep⟩:=r8 u.ps (by lia);have hp:H u.p=some (.lst ((qs++[x]).map V.int++[V.int y])):=by rw[G.hp,ep];simp
  rw[ep] at hm;cases WI:sgs[qs.length]? with
  |none=>rw[xX WI] at hm;cases hm
  |some op=>
   rw[sj WI] at hm;obtain⟨o1,o2,o3⟩:=xD G.ws hc hs (Gs WI);have bx:dC x:=G.psB x (by simp [ep]);have bY:dC y:=G.psB y (by simp [ep]);have mem: ∀z∈qs++[x],dC z:=fun z hz=>G.psB z (by rw[ep];simp only[Fp,EW,GZ,or_false] at hz ⊢; rcases hz with h|h;exact .inl h;exact .inr (.inl h))
   have g1:o4 a (aF H u.p (.lst ((qs++[x]).map V.int))) B c S F0 r b ff ds { u with ps:=qs++[x] } us e ts sc n:=G.part ae mx (by simp [ep]) mem;refine aN 3 Y.nd (Ac (pv 2) [05] hp ?_)
   have VF:=g1.hp
   have VF:aF H u.p (.lst ((qs++[x]).map V.int)) u.p=some (.lst (qs.map V.int++[V.int x])):=by rw[ae,GG];rfl
   obtain⟨oq,gq,VG,i,_,_,⟨sq,rfl,_,hsq⟩⟩:=C;refine iM (pv 2) [05] VF (bI (aO (kO (cn (bv 1 (i.fld g1.W.O.same T.ME T.Nj rfl (Az cW (dI Y VF (cM #[_,_,rfl,rfl,sq,_,_,V.str (dG op),rfl,rfl,cP.of (g1.W.O.same _ _ hsq),?_,aO (kO (bv 2 #[_,dJ cH aj,_,rfl,u.p,_,_,V.int x,rfl,rfl,cP.of VF,eA _ _,aO (bv 3 (cD #[op,st,x,y,rfl,o1,bx,bY,o2,o3,?_]))]) [002])]))))) rfl) [002])) (agX T XC) hr T.Y0.c aA)
   ·rw[Fc,EY,show(((qs.length+[V.int x].length:E1):Int)-1)=((qs.length:E1):Int) by show((qs.length+1:E1):Int)-1=_;lia]
    exact bo (by rw[FQ,WI];rfl)
   ·cases hk:fR st op x y with
    |error k=>
     rw[hk] at hm;cases hm;exact fun H' sm=>g H' fun b o z=>sm b o (g1.W.O.same b o z)
    |ok z=>
     rw[hk] at hm;have gl:=G.len;rw[ep,Fc] at gl;have gl:qs.length+2+n<=10000:=gl;intro H2 s2;refine#[_,s2 _ _ VF,by rw[Fc,EY,Ht];show qs.length+1<_;lia,cc #[qs++[x,z],some (.int y),rfl,?_,hm]];refine G.part (by rw[ae];simp) (fun b o e nb=>?_) (by simp [ep]) fun w hw=>?_
     ·rw[ac nb];exact s2 b o (mx b o e nb)
     ·have hw:w∈qs++[x]\/w=z:=by
       simp only[Fp,EW,GZ,or_false] at hw ⊢;rcases hw with h|h|h
       ·exact .inl (.inl h)
       ·exact .inl (.inr h)
       ·exact .inr h
      rcases hw with hw|hw
      ·exact mem w hw
      ·rw[hw];exact sY hk
theorem ak7 (T:aU K mg a) (XC:XW K a):oV P w K mg base a 7 a.f_5 a.adu "chain" fun _ e _=> ∃x,kK e=some x:=by
 refine qh T XC [01] T.d_5.F akm fun Gp A outer s H B c S F0 r b ff ds u us e ts sc n m Q E hr ho G hm g=>?_;intro X D Y;obtain⟨⟨st,ops,sgs⟩,hc⟩:=ho;obtain⟨oq,gq,VG,i,_⟩:=nD G.ev hc;refine cr #[_,a8 li [010] (CM (aa (aR (by rfl) T.Vv) (aa (aR (by rfl) T.SW) ag))) rfl,i.fld G.W.O.same T.ME T.KC rfl #[by show 2<=FE;decide,fun t ht=>#[t,_,rfl, .inr (rh.of ae),rfl,rfl,_,rfl,?_]]];have G:=G.grow (b3 (o:= .tup [.int 0, .int 1]) ht);show if tZ (.int st) [.int 0, .int 1]=true then _ else _
 have e0:tZ (.int st) [.int 0, .int 1]=decide (st<=1):=by
  show((0:Int) == (st:Int)||((1:Int) == (st:Int)||false))=_
  rw[Oo,GD,LL,beq_iff_eq,beq_iff_eq,FH];lia
 rw[e0];have args: ∀ {sp:Sp}{x:Fh}{k:E1}{f:EJ}{fd:FL}{p1 p2 p3 p4 p5 p6:Pos},bS P w K mg base (fW P w) k f fd ["worker","chain","parts"] sp->bW k X.A->CD K mg x f fd ["worker","chain","parts"]->Gl X x->(x == [003])=false->sp [.ref c.wk,u.v, .ref u.p] (aF H t (.tup [.int 0, .int 1])) (fun _ H'=>Q .HZ H') E->Bd X [.Expr (.Call (.Name x p1) [.Name "worker" p2, .Name "chain" p3, .Name "parts" p4] [] p5) p6] D [some (.ref c.wk),some u.v,some (.ref u.p)] (aF H t (.tup [.int 0, .int 1])):=fun G hr d hg hx q=>fh (bI (aO (bv 0 (aO (bv 1 (aO (bv 2 (cD q))))))) G hr d aA hg hx) rfl
 exact dD (fun s1=>args (ak5 T XC) hr T.d_6.c rfl [01] (.mk rfl #[st,ops,sgs,hc,s1] G hm g)) fun s1=>args (ak6 T XC) hr T.d_7.c rfl [01] (.mk rfl #[st,ops,sgs,hc,s1] G hm g)
section
open Vbemac (checked)
def mt3 (e:ER) (y:EC) (b:ER) (p q:Int) (acc:EA Int) (t:E1) (r:EA dS) (sc:EA fo) (n:E1):ET Mc:=if p+(t:Int)<=q then(match n with
   |0=>some (.err (-13))
   |n+1=>(match sc with
    |[]=>none
    |h::tl=>some (jQ b ((e,p::q::acc)::r) (oW (h::tl) y (p+(t:Int))) n)))
  else some (eN r sc n (acc.getLast?.getD 0))
theorem va (h:acc.length<=1):gD e y b p q acc ts sc n=mt3 e y b p q acc acc.length ts sc n:=by
 unfold gD mt3;dsimp only;rw[EI (by lia)]
 all_goals rfl
theorem vb:gD e y b p q (acc++[x,z]) ts sc n=(match checked (x+z) 0 with
  | .error c=>some (.err c)
  | .ok (d,_)=>mt3 e y b p q (acc++[x,d]) (acc.length+2) ts sc n):=by
 have l: ∀d,(acc++[x,d]).length=acc.length+2:=fun d=>by simp
 unfold gD mt3;dsimp only;rw[l,EL (by lia),Ml,show(acc++[x,z]).getD acc.length 0=x by simp [HX],show acc.length+2-1=acc.length+1 from rfl,show(acc++[x,z]).getD (acc.length+1) 0=z by simp [HX],
  show(acc++[x,z]).take (acc.length+1)=acc++[x] by rw[PV,II (KH _)];simp]
 cases checked (x+z) 0 with
 |error c=>rfl
 |ok d=>
  obtain⟨d,_⟩:=d;dsimp only;rw[F4]
  rfl
theorem ag0 (T:aU K mg a) (XC:XW K a):oV P w K mg base a 6 a.acM a.W9 "summed" fun _ e ps=> ∃y lo hi x p q acc,e= .sum y lo hi x/\ps=p::q::acc:=by
 refine qh T XC [01] T.aey.F afR fun Gp A outer s H B c S F0 r b ff ds u us e ts sc n m Q E hr ho G hm g=>?_;intro X D Y;obtain⟨y,lo,hi,x,p0,q0,acc,rfl,ep⟩:=ho;have ev:=G.ev;unfold au at ev;obtain⟨u1,u2,u3,i,_,_,e3⟩:=ev;have hp:=G.hp;have psB:=G.psB;have gl:=G.len;rw[ep] at hm hp psB gl;have gl:acc.length+2+n<=10000:=gl;have hm:gD (.sum y lo hi x) y x p0 q0 acc ts sc n=some m:=hm;refine aN 3 Y.nd (Az cW (dI Y hp (cM #[_,_,rfl,rfl,?_])));rw[EY,show(((p0::q0::acc).length:E1):Int)-2=((acc.length:E1):Int) by rw[EZ,EZ];lia];refine gi (fun σ' H'=> ∃(as:EA Int) (o:ET V),σ'=[some (.ref c.wk),some u.v,some (.ref u.p),some (.int (acc.length:E1)),o]/\as.length=acc.length/\o4 a H' B c S F0 r b ff ds { u with ps:=p0::q0::as } us (.sum y lo hi x) ts sc n/\mt3 (.sum y lo hi x) y x p0 q0 as acc.length ts sc n=some m) ?_ (cR ga (bv 3 (cM #[_,_,rfl,rfl,_,rfl,dD (fun z0=>?_) fun z0=>#[acc,none,rfl,rfl,?_,by rw[<-hm];exact(va (by lia)).symm]])))
 ·rintro σ' H' ⟨as,o,rfl,la,G',O9⟩
  have XQ:=G'.hp
  have W:=G'.W;refine cr (cR eP (Az dX (kO (bv 2 (cM #[u.p,_,_,V.int p0,rfl,rfl,cP.of XQ,bo (j:=0) rfl,bv 3 #[_,_,rfl,rfl,kO (bv 2 (cM #[u.p,_,_,V.int q0,rfl,rfl,cP.of XQ,bo (j:=1) rfl,_,_,rfl,rfl,_,rfl,dD (fun e0=>?_) fun e0=>?_])) [002]]])) [002])))
  ·unfold mt3 at O9
   rw[EL e0] at O9;refine aQ (bi (bQ (pv 0) T.Hw T.Vo.c (gV T XC) [07] aA)) #[c.wk,c.dw,_,rfl,W.ins,rfl, .mk rfl W [030] fun n' z H1 W1=>?_]
   ·rw[z] at O9
    cases O9;exact g H' W.O.same
   ·rw[z] at O9
    have sq:=W1.sq;cases sq with
    |nil=>cases O9
    | @cons d s0 ds sc h0 sq=>
    cases O9;have bn:=W.bn.bn;exact bw #[_,cx (pv 0) T.Hw T.Wg.c (kz T) [07] aY (aa [010] (aa (b7 dX (cJ bA (pv 2) aj [002]) (pv 3)) ag)),c.wk,c.dw,_,rfl,W1.ins,rfl,i.fld W1.O.same T.O3 T.Pq rfl #[u.p,_,_,V.int p0,rfl,rfl,cP.of (W1.O.get 5 rfl),bo (j:=0) rfl,_,_,rfl,rfl, .mk rfl W1 (by lia) fun H2 W2=>fk Y (cn (bv 1 (i.fld W2.O.same T.O3 T.Pw rfl #[x,_,_,W2,e3,g])) rfl) W2]]
  ·unfold mt3 at O9
   rw[EI e0] at O9;cases O9;refine de Y W #[_,dB (a8 ga (pv 3) aj (aM _)) (cJ bA (pv 2) (dJ cH aj) [002]) aj,_,_,rfl,rfl,_,rfl,dD (fun e1=>?_) fun e1=>?_]
   ·rcases SD as with z|⟨qs,zz,z⟩
    ·rw[z] at la;have la:0=acc.length:=la;lia
    rw[SE] at z;subst z;have hp2:H' u.p=some (.lst ((p0::q0::qs).map V.int++[V.int zz])):=by rw[XQ];simp
    rw[show(qs++[zz]).getLast?.getD 0=zz by simp] at g;exact#[_,rfl,u.p,_,_,V.int zz,rfl,rfl,cP.of hp2,eA _ _,_,_,_,_,_,_,_,rfl,W,g]
   ·have:as=[]:=P1 (by lia)
    subst this;exact#[_,_,_,_,_,_,_,rfl,W,g]
 ·obtain⟨qs,xx,z,rfl⟩:=r8 acc (by lia)
  rw[vb] at hm;have XQ:H u.p=some (.lst ((p0::q0::(qs++[xx])).map V.int++[V.int z])):=by rw[hp];simp
  have sub: ∀w∈p0::q0::(qs++[xx]),dC w:=fun w hw=>psB w (by
   simp only[EW,Fp,GZ,or_false] at hw ⊢;rcases hw with h|h|h|h
   ·exact .inl h
   ·exact .inr (.inl h)
   ·exact .inr [054]
   ·exact .inr (.inr [054]))
  have g1:=G.part (H':=aF H u.p (.lst ((p0::q0::(qs++[xx])).map V.int))) (ps:=p0::q0::(qs++[xx])) ae mx (by rw[ep];simp) sub
  have VF:aF H u.p (.lst ((p0::q0::(qs++[xx])).map V.int)) u.p=some (.lst ((p0::q0::qs).map V.int++[V.int xx])):=by rw[ae];simp
  refine aN 4 Y.nd (Ac (pv 2) [05] XQ (iM (pv 2) [05] VF (bI (aO (Az dX (kO (bv 2 #[_,dJ cH aj,_,rfl,u.p,_,_,V.int xx,rfl,rfl,cP.of VF,eA _ _,bv 4 #[_,_,rfl,rfl,cD #[xx+z,rfl,fun hb=>?_,fun hb=>?_]]]) [002]))) (agW T XC) [07] T.d_w.c aA)))
  ·rw[show checked (xx+z) 0= .ok (xx+z,0) by unfold checked;exact EL hb] at hm
   refine#[_,VF,by rw[Fc,EY,Ht];simp only[EZ,Fc,JK] at gl ⊢; lia,cc #[qs++[xx,xx+z],some (.int z),rfl,by simp,?_,by rw[show(qs++[xx,z]).length=qs.length+2 by simp];exact hm]];refine G.part (by rw[ae];simp) (fun b o e nb=>by rw[ac nb,ac nb];exact e) (by rw[ep];simp) fun w hw=>?_;have hw:w∈p0::q0::(qs++[xx])\/w=xx+z:=by
    simp only[EW,Fp,GZ,or_false] at hw ⊢;rcases hw with h|h|h|h|h
    ·exact .inl (.inl h)
    ·exact .inl [054]
    ·exact .inl (.inr [054])
    ·exact .inl (.inr (.inr (.inr h)))
    ·exact .inr h
   rcases hw with hw|hw
   ·exact sub w hw
   ·rw[hw];exact hb
  ·rw[show checked (xx+z) 0= .error (-12) by unfold checked;exact EI hb] at hm
   cases hm;exact g _ g1.W.O.same _ (.tail _ (.head _))
 ·rw[<-ep];exact G
theorem ak8 (T:aU K mg a) (XC:XW K a):oV P w K mg base a 7 a.f_9 a.adz "summed" fun _ e _=> ∃y lo hi x,e= .sum y lo hi x:=by
 refine qh T XC [01] T.d_9.F akr fun Gp A outer s H B c S F0 r b ff ds u us e ts sc n m Q E hr ho G hm g=>?_;intro X D Y;obtain⟨y,lo,hi,x,rfl⟩:=ho;have W:=G.W;have ev:=G.ev;unfold au at ev;obtain⟨u1,u2,u3,i,e1,e2,_⟩:=ev;have hp:=G.hp;have hm0:=hm;refine cr (jg (dI Y hp (cM #[_,_,rfl,rfl,?_])));rw[EY];generalize V3:u.ps=ps at hm hp
 match ps,hm with
 |[],hm=>cases hm;exact cf (fk Y (cn (bv 1 (i.fld W.O.same T.O3 T.Oy rfl #[lo,_,_,W,e1,by rw[V3];exact g])) rfl) W)
 |[t],hm=>cases hm;exact bK (cr (jg (dI Y hp (cM #[_,_,rfl,rfl,cf (fk Y (cn (bv 1 (i.fld W.O.same T.O3 T.Pu rfl #[hi,_,_,W,e2,by rw[V3];exact g])) rfl) W)]))))
 |p0::q0::acc,hm=>
  refine dD (fun e0=>E7 e0 (by rw[EZ,EZ];lia)) fun _=>cr (jg (dI Y hp (cM #[_,_,rfl,rfl,?_])));rw[EY];exact dD (fun e0=>E7 e0 (by rw[EZ,EZ];lia)) fun _=>fh (bI (aO (bv 0 (aO (bv 1 (aO (bv 2 (cD (.mk rfl #[y,lo,hi,x,p0,q0,acc,rfl,V3] G hm0 g)))))))) (ag0 T XC) hr T.aey.c aA) rfl
end
theorem nH: ∀(m acc:EA (a0×V)),(m.map fun q:a0×V=>q.1).Nodup->bN (fL acc m) k=(match bN m k with
  |some v=>some v
  |none=>bN acc k)
 |[],acc,_=>rfl
 |p::m,acc,nd=>by
  obtain⟨n1,n2⟩:=FI.mp nd;show bN (fL (dy acc p.1 p.2) m) k=_;rw[nH m _ n2,gK];by_cases e:p.1=k
  ·have:bN m k=none:=by
    unfold bN;rw[OO.mpr fun x hx z=>n1 (by show p.1∈_;rw[e,<-Ft z];exact Kc (f:=fun q:a0×V=>q.1) hx)]
    rfl
   rw[this,cg e,EL e.symm]
  ·rw[b4 e,EI (fun z=>e z.symm)]
abbrev aC (ps:EA EC) (l:EA Int):EA (a0×V):=(ps.zip l).map fun q=>(nk q.1, .int q.2)
theorem BM: ∀ {ps:EA EC}{l:EA Int},ps.Nodup->((aC ps l).map fun q:a0×V=>q.1).Nodup
 |[],_,_=> .nil
 |_::_,[],_=> .nil
 |p::ps,x::l,nd=>by
  obtain⟨n1,n2⟩:=FI.mp nd;refine FI.mpr #[fun hm=>?_,BM n2];obtain⟨q,hq,e⟩:=KQ.mp hm;obtain⟨y,hy,rfl⟩:=KQ.mp hq;exact n1 ((show y.1=p from eI (Ja e))▸(Kt hy).1)
theorem aaI {ps:EA EC}{l:EA Int}(nd:ps.Nodup) (h6:ps.length<=6) {b:E1}(hb:6<=b) (q:EJ):aaG b (q,fL [] (aC ps l)) (vp ps l):=by
 refine#[fun u=>?_,?_]
 ·show bN (fL [] (aC ps l)) (nk u)=_
  rw[nH _ _ (BM nd)];have:bN (aC ps l) (nk u)=(vp ps l u).map V.int:=by
   unfold bN vp aC;rw[EA.find?_map,VO,VO]
   congr 1
   congr 1
   funext x
   exact(decide_eq_decide.mpr #[fun z=>eI (Ja z),fun z=>by rw[z]]).trans (FR.beq_eq_decide_eq ..).symm
  rw[this];cases vp ps l u<;>rfl
 ·refine Fj (gt _ _) ?_
  simp [aC,V8];lia
theorem ak9 (T:aU K mg a) (XC:XW K a):oV P w K mg base a 7 a.f_3 a.ads "call" fun _ e _=> ∃f l,e= .call f l:=by
 refine qh T XC [01] T.d_3.F akk fun Gp A outer s H B c S F0 r b ff ds u us e ts sc n m Q E hr ho G hm g=>?_;intro X D Y;obtain⟨f,l,rfl⟩:=ho;have W:=G.W;have ev:=G.ev;unfold au at ev;obtain⟨_,VG,i,⟨aq,rfl,_,h2⟩,h3⟩:=ev;have pr:=ml h3;have ha:=W.O.same _ _ h2;have hp:=G.hp;have nm: ∀ {H:Hp}{Q:VK},a9 B.H H->Q (.str (sb f)) H->dL K "name" Q u.v H:=fun k q=>i.fld k T.PY T.Ov rfl q
 have ar: ∀ {Q:VK},Q (.ref aq) H->dL K "arguments" Q u.v H:=fun q=>i.fld W.O.same T.PY T.Md rfl q
 have wf: ∀ {Q:VK},Q (.ref c.fa) H->dL K "functions" Q (.ref c.wk) H:=fun q=>W.fld T T.JZ rfl q
 unfold d8 at hm;dsimp only at hm;refine aN 3 Y.nd (ij T.JP ha [010] (fun _ q=>ar q) (cr (cR jY (dI Y hp (bv 3 [029])))));rw[EY,bM pr];refine dD [030] fun z=>?_
 ·have lt:u.ps.length<(lc l).length:=by lia
  rw[GU lt] at hm;cases hm;obtain⟨v,hv,ew⟩:=jr pr (GU lt);exact fk Y (kO (cn (bv 1 (ar (dI Y hp #[aq,_,_,v,rfl,rfl,cP.of ha,by rw[EY];exact bo hv,_,_,_,W,ew,g]))) rfl) [002]) W
 ·rw[Ig (by lia)] at hm
  have f2:=W.fn.2 f;obtain⟨V0,G0,ws,sb0⟩:=G.ws;unfold WS at ws;obtain⟨⟨k,hk,hk2⟩,_⟩:=ws
  have FO:=G.FO.all f k (sb0 f k hk);refine cr #[_,fB (iU (dj hr) [010] [001]),nm W.O.same (wf #[c.fa,_,rfl,gv.k (k:=nk f) (W.O.get 3 rfl),_,rfl,?_])];cases hf:S.funs.find? fun g=>g.1 == f with
  |none=>
   rw[hf] at f2 hm FO;dsimp only at f2 hm;rw[f2];refine cf ?_;split at hm
   ·rename_i hl
    cases hm;rcases FO with⟨g',hg,_⟩|⟨_,hb⟩
    ·cases hg
    ·exact de Y W (bI (aO (cn (bv 1 (nm W.O.same (aO (bv 2 (cD #[f,u.p,u.ps,k,rfl,hp,hb,by rw[hl,hk2],_,_,_,_,_,_,_,rfl,W,g]))))) rfl)) (agV T) [07] T.YT.c aY)
   ·cases hm
  |some fu=>
   rw[hf] at f2 hm FO;dsimp only at f2 hm;obtain⟨v,f2,f3⟩:=f2;rw[f2];refine bK (cr (jg (dI Y hp (bv 3 #[_,_,rfl,rfl,?_]))));rw[EY];refine dD [030] fun z=>?_
   ·have hl:u.ps.length=(lc l).length:=by lia
    rw[EL hl] at hm;cases hm;rcases FO with⟨g',hg,gl,gf⟩|⟨hg,_⟩
    ·cases hg
     obtain⟨q,w,i2,⟨pq,rfl,_,h4⟩,h5⟩:=f3;have g1:=gv.k (k:=nk f) (W.O.get 3 rfl);have g1:gv H c.fa (kV (nk f)) (some v):=by rw[<-f2];exact g1
     have le:fu.2.1.length=u.ps.length:=by rw[gl,hl,hk2]
     have e1:(aC fu.2.1 u.ps).map (fun q=>kV q.1)=gE fu.2.1:=by
      unfold gE aC;rw[Jg,show((fun q:a0×V=>kV q.1) ∘ fun q:EC×Int=>(nk q.1,V.int q.2))=(fun p=>V.str (sb p)) ∘ Prod.fst from rfl,<-Jg,EA.map_fst_zip (JG le)]
     have e2:(aC fu.2.1 u.ps).map (fun q:a0×V=>q.2)=u.ps.map V.int:=by
      unfold aC;rw[Jg,show((fun q:a0×V=>q.2) ∘ fun q:EC×Int=>(nk q.1,V.int q.2))=V.int ∘ Prod.snd from rfl,<-Jg,EA.map_snd_zip (JG le.symm)]
     refine aN 4 Y.nd #[_,jO (dj hr) [001] [010] [002],wf (nm W.O.same #[c.fa,v,rfl,g1,?_])];refine iM [001] (fun _ q=>W.fld T T.Jk rfl q) (W.O.get 2 rfl) #[_,uw rfl (by rfl) T.aeF (by rfl) T.Vz (aa (ak (pv 4) rfl) [079]) rfl rfl,i2.fld W.O.same T.Qa T.Mg rfl #[pq,u.p,aC fu.2.1 u.ps,rfl,by rw[e1];exact cP.of (W.O.same _ _ h4),by rw[e2];exact cP.of hp,fun d hd=>#[_,b3 hd _ _ (W.O.get 2 rfl),?_,?_]]]
     ·rw[F7,EY,bM W.sq,Ht]
      have:=W.bn.sl;lia
     ·have W1:=W.pushS hd (b3 hd) ae (aaI (l:=u.ps) gf.nd gf.le W.bn.b6 d) (by have:=G.gd.2.2;lia)
      exact fk Y (cn (bv 4 (i2.fld W1.O.same T.Qa T.Qb rfl #[fu.2.2,_,_,W1,h5,g])) rfl) W1
    ·cases hg
   ·rw[EI (by lia)] at hm
    have sq:=W.sq;cases sq with
    |nil=>cases hm
    | @cons d s0 ds sc h0 sq=>
    obtain⟨x,hx,rfl⟩:=FG.mp hm;have W1:=W.akY;refine bw (Ac [001] (fun _ q=>W.fld T T.Jk rfl q) W.sl1 (de Y W1 (kO (bv 2 (bv 3 #[u.p,_,_,V.int x,rfl,rfl,cP.of (W1.O.get 5 rfl),bo (by rw[FQ,hx];rfl),_,_,_,_,_,_,_,rfl,W1,g])) [002])))
inductive Nd1 (a:bf) (M:EJ->Prop) (H:Hp) (i:E1) (v:V):Prop
 |mk {C:EJ}{fs:EA (Fh×V)}(_:bC M H C fs v) (_:(zk a)[i]?=some C):Nd1 a M H i v
def cidx:ER->E1
 | .num _=>0
 | .name _=>1
 | .call _ _=>2
 | .neg _=>3
 | .not _=>3
 | .pick _ _ _=>5
 | .sum _ _ _ _=>6
 |_=>4
theorem xf {a:bf}{M:EJ->Prop}{H:Hp}{e:ER}{v:V}(h:au a M H e v):Nd1 a M H (cidx e) v:=by
 cases e<;>unfold au at h
 ·exact#[h,rfl]
 ·exact#[h,rfl]
 ·obtain⟨_,_,h,_⟩:=h;exact#[h,rfl]
 ·obtain⟨_,h,_⟩:=h;exact#[h,rfl]
 ·obtain⟨_,h,_⟩:=h;exact#[h,rfl]
 ·obtain⟨_,_,_,_,_,h,_⟩:=h;exact#[h,rfl]
 ·obtain⟨_,_,_,_,_,h,_⟩:=h;exact#[h,rfl]
 ·obtain⟨_,_,_,_,h,_⟩:=h;exact#[h,rfl]
 ·obtain⟨_,_,_,_,h,_⟩:=h;exact#[h,rfl]
 ·obtain⟨_,_,_,_,h,_⟩:=h;exact#[h,rfl]
 ·obtain⟨_,_,_,h,_⟩:=h;exact#[h,rfl]
 ·obtain⟨_,_,_,h,_⟩:=h;exact#[h,rfl]
section
variable {M:EJ->Prop}{B H:Hp}{te:TE}{R:FR->Hp->Prop}
theorem ua (N:lW X.K a) (n:X.mg "isinstance"=none) (h:Nd1 a M B i v) (sm:a9 B H) (hj:(zk a)[j]?=some C) (hm:X.mg c=some (.ref C)) (he:PE X e te) (hv: ∀Q:VK,Q v H->te σ H Q) (q:R (decide (i=j)) H) (hg:Gl X "isinstance":=by rfl) (hc:Gl X c:=by rfl) (hx:(c == [003])=false:=by decide) (JS:Fb [e, .Name c p2] X.env=[000]::Fb [.Name c p2] X.env:=by rfl):
  Pt X (.Call (.Name "isinstance" p1) [e, .Name c p2] [] p3) σ H R:=by
 obtain @⟨C',fs,⟨p,dx,rfl,_,z⟩,hC⟩:=h;have i7:i<15:=(FF.mp hC).1;have j7:j<15:=(FF.mp hj).1;have k:=FN (fun l:EA (EA (ET FR))=>(l[i]?.bind fun r=>r[j]?)) N.kit
 have k:Hy X.K (.ref C') (.ref C)=some (decide (i=j)):=by simpa [hC,hj,LO i7,LO j7] using k
 exact dv #[_,bD pH hg n boot_isinstance (aa he (aa (iK hc hm hx) ag) JS) [01] [01] JS rfl,hv _ #[_,C,_,_,rfl,(N.ty _ (Gs hC)).of (sm _ _ z),k,_,rfl,q]]
end
theorem ala (T:aU K mg a) (XC:XW K a) (KX:lW K a):oV P w K mg base a 8 a.f_2 a.adq "exp" fun _ _ _=>True:=by
 refine qh T XC [01] T.d_2.F akj fun Gp A outer s H B c S F0 r b ff ds u us e ts sc n m Q E hr _ G hm g=>?_;intro X D Y;have W:=G.W;have ev:=G.ev;have nd:=xf ev;have is: ∀ {cl:Fh}{C:EJ}{A Tb:EA Stmt}{p1 p2 p3 p4 p5:Pos}(j:E1),mg cl=some (.ref C)->(zk a)[j]?=some C->Gl X cl->(cl == [003])=false->(cidx e=j->Bd X A D [some (.ref c.wk),some u.v,some (.ref u.p)] H)->(cidx e≠j->Bd X Tb D [some (.ref c.wk),some u.v,some (.ref u.p)] H)->Bd X [.If (.Call (.Name "isinstance" p1) [.Name "exp" p2, .Name cl p3] [] p4) A Tb p5] D [some (.ref c.wk),some u.v,some (.ref u.p)] H:=fun j hm hj hg hx yes no=>cr (ua KX T.LK nd W.O.same hj hm (pv 1) [05] (dD yes no) (by rfl) hg hx)
 have go: ∀ {sp:Sp}{x y:Fh}{k:E1}{f:EJ}{fd:FL}{p1 p2 p3 p4 p5 p6:Pos},bS P w K mg base (fW P w) k f fd ["worker",y,"parts"] sp->k<=7->CD K mg x f fd ["worker",y,"parts"]->Gl X x->(x == [003])=false->sp [.ref c.wk,u.v, .ref u.p] H (fun _ H'=>Q .HZ H') E->Bd X [.Expr (.Call (.Name x p1) [.Name "worker" p2, .Name "exp" p3, .Name "parts" p4] [] p5) p6] D [some (.ref c.wk),some u.v,some (.ref u.p)] H:=fun G hk d hg hx q=>fh (bI (aO (bv 0 (aO (bv 1 (aO (bv 2 (cD q))))))) G (hr.mono hk) d aA hg hx) rfl
 refine is 0 T.QM rfl rfl [01] [030] fun z0=>?_
 ·obtain⟨x,rfl⟩: ∃x,e= .num x:=by cases e<;>first|exact#[_,rfl]|cases z
  unfold au at ev;cases hm;exact de Y W (cn (bv 1 (ev.fld W.O.same T.O0 T.MZ rfl #[_,_,_,_,_,_,_,rfl,W,g])) rfl)
 refine is 1 T.Tz rfl rfl [01] [030] fun z1=>?_
 ·obtain⟨x,rfl⟩: ∃x,e= .name x:=by cases e<;>first|exact#[_,rfl]|cases z
  unfold au at ev;obtain⟨y,hy,rfl⟩:=FG.mp (show(look sc x).map (eN ts sc n)=some m from hm);exact de Y W #[_,cx (pv 0) T.Hw T.YX.c (tu T) [07] aY (aa [010] ag),c.wk,c.dw,_,rfl,W.ins,rfl,ev.fld W.O.same T.Q3 T.Ou rfl (.mk rfl W hy #[_,_,_,_,_,_,_,rfl,W,g])]
 refine is 2 T.TB rfl rfl [01] (fun z=>go (ak9 T XC) [01] T.d_3.c rfl [01] (.mk rfl ?_ G hm g)) fun z2=>?_
 ·cases e<;>first|exact#[_,_,rfl]|cases z
 refine is 3 T.RI rfl rfl [01] (fun z=>go (ak3 T XC) [01] T.d_4.c rfl [01] (.mk rfl ?_ G hm g)) fun z3=>?_
 ·cases e<;>first|exact#[_, .inl rfl]|exact#[_, .inr rfl]|cases z
 refine is 4 T.RJ rfl rfl [01] (fun z=>go (ak7 T XC) [01] T.d_5.c rfl [01] (.mk rfl ?_ G hm g)) fun z4=>?_
 ·cases e<;>first|exact#[_,rfl]|cases z
 refine is 5 T.QN rfl rfl [01] (fun z=>go (ak4 T XC) [01] T.d_8.c rfl [01] (.mk rfl ?_ G hm g)) fun z5=>?_
 ·cases e<;>first|exact#[_,_,_,rfl]|cases z
 refine go (ak8 T XC) [01] T.d_9.c rfl [01] (.mk rfl ?_ G hm g);cases e<;>first|exact E7 rfl z0|exact E7 rfl z1|exact E7 rfl z2|exact E7 rfl z3|exact E7 rfl z4|exact E7 rfl z5|exact#[_,_,_,_,rfl]
end OS
namespace OS
open Vbemac
def ag1 (S:Scope) (V:EA FJ) (v:Env) (r:Res Int) (n:E1):Mc->Prop
 | .err c=>r= .error c
 | .go _ _ _=>False
 | .done x sc m=>r= .ok (x,m)/\m<n/\ ∃h,sc=[h]/\Ag S V v [h]
theorem Df {h:fo}(FO:gm S F0) (A:Ag S V v [h]) (w:WS V G e) (sb:Sub G F0) (hk:3*n+1<=k):HE S.funs (ag1 S V v (ev k S v e n) n) (jQ e [] [h] n):=by
 refine aaD FO k V v G e [] h [] n A w sb hk ?_;unfold aaC;cases ev k S v e n with
 |error c=>exact rfl
 |ok x=>exact fun _ hm h A=>#[0, .here #[rfl,hm,h,rfl,A]]
end OS
namespace OS
open PySem PySem.Spec L2
open PyProof.Rows hiding St
variable {P:Fz}{w:Ga}{K:EF}{mg:Fh->ET EH}{base:Gn}{a:bf}
inductive Bz (a:bf) (vs:EA V) (H:Hp) (Q:VK) (E:XK):Prop
 |mk {B:rY}{c:pi}{S:Hr}{F0 G:EA (EC×E1)}{r:V}{b:E1}{s:fo}{n k:E1}{e:ER}{v:V}{U:EA EC}{en:GL}(_:vs=[.ref c.wk,v]) (_:gm S F0) (_:WS U G e) (_:Sub G F0) (_:Ag S U en [s]) (_:yG [s]) (_:Wk a B H c S.funs r b [] [s] n) (_:au a B.M B.H e v) (_:3*n+1<=k)
  (_: ∀x,LQ k S en e n= .error x-> ∀H',a9 B.H H'->oM a E H' x) (_: ∀x m,LQ k S en e n= .ok (x,m)->m<n->dC x-> ∀H' b s,Ag S U en [s]->yG [s]->Wk a B H' c S.funs (.int x) b [] [s] m->Q (.int x) H'):Bz a vs H Q E
def Far (a:bf) (B:rY) (c:pi) (S:Hr) (F0:EA (EC×E1)) (f:Mc->Prop) (i:E1) (H:Hp):Prop:= ∃m,lD S.funs f m i/\Gd F0 m/\(match m with
 | .err _=>False
 | .go ts sc n=>ts≠[]/\ ∃r b,Wk a B H c S.funs r b ts sc n
 | .done x sc n=> ∃b,Wk a B H c S.funs (.int x) b [] sc n)
theorem pC {f:Mc->Prop}(h:lD F f (.go ts sc n) j) (ng: ∀ts sc n,¬f (.go ts sc n)): ∃m i,d8 F (.go ts sc n)=some m/\lD F f m i/\j=i+1:=by
 cases h with
 |here h=>exact E7 h (ng ts sc n)
 |step h1 h2=>exact#[_,_,h1,h2,rfl]
theorem tR {a:bf}{f:Mc->Prop}{E:XK}{N:Hp->Prop}(ng: ∀ts sc n,¬f (.go ts sc n)) (he: ∀x,f (.err x)-> ∀H',a9 B.H H'->oM a E H' x) (hi:lD S.funs f m i) (gd:Gd F0 m) (q: ∀H,Far a B c S F0 f i H->N H):nX a B c S.funs N E m:=by
 cases m with
 |err k=>
  cases hi with
  |here h=>exact he k h
  |step h _=>cases h
 |go ts sc n=>
  refine fun H' r b W=>q H' #[_,hi,gd,fun z=>?_,r,b,W];obtain⟨m,_,hm,_⟩:=pC hi ng;rw[z] at hm;cases hm
 |done x sc n=>exact fun H' b W=>q H' #[_,hi,gd,b,W]
theorem sK (T:aU K mg a) (XC:XW K a) (KX:lW K a):T.YZ.O P w mg base 9 (Bz a):=by
 refine fO T.YZ.F afP [03] [02];obtain @⟨B,c,S,F0,G,r,b,s,n,k,e,v,U,en,rfl,FO,ws,sb,Ag0,gs,⟨W⟩,ev0,hk,qe,qo⟩:=h;obtain⟨j,hj⟩:=Df FO Ag0 ws sb hk;generalize hf:ag1 S U en (LQ k S en e n) n=f at hj;have ng: ∀ts sc n,¬f (.go ts sc n):=fun ts sc n z=>by rw[<-hf] at z;exact z
 have he: ∀x,f (.err x)-> ∀H',a9 B.H H'->oM a E H' x:=fun x z=>by rw[<-hf] at z;exact qe x z
 have gd0:Gd F0 (jQ e [] [s] n):=fA (fun t ht=>nomatch ht) gs #[U,G,ws,sb] (by have:=W.bn.UU;show 1+n<=10002;lia)
 refine aQ (bi (cx (pv 0) T.Hw T.Wh.c (rp T XC) [07] aA [031])) #[c.wk,c.dw,_,rfl,W.ins,rfl, .mk rfl W ev0 (tR ng he hj gd0 fun H1 h1=>?_)];refine fT Iq (fun i σ H=>σ=[some (.ref c.wk),some v]/\Far a B c S F0 f i H) j #[rfl,h1] ?_;rintro i σ H2 ⟨rfl,m',O9,gd,hW⟩;cases m' with
 |err k=>exact hW.elim
 |done x sc2 n2=>
  obtain⟨b2,⟨W2⟩⟩:=hW;have tk:=W2.tk;cases tk;refine cR ga (ij T.JP W2.tl [001] (fun _ q=>W2.fld T T.Ia rfl q) (cM #[_,_,rfl,rfl,_,rfl,bK ?_]));cases O9 with
  |step h _=>cases h
  |here h=>
   rw[<-hf] at h;obtain⟨h1,h2,s',rfl,A'⟩:=h;exact aK (cn (bv 0 (W2.fld T T.K3 rfl (qo x n2 h1 h2 gd.1 H2 b2 s' A' gd.2.1 #[W2]))) rfl)
 |go ts sc2 n2=>
  obtain⟨ne,r2,b2,⟨W2⟩⟩:=hW;obtain⟨m3,i3,s3,h3,rfl⟩:=pC O9 ng;have tk:=W2.tk;cases tk with
  |nil=>exact E7 rfl ne
  | @cons u t us ts ht tk=>
  obtain⟨e2,ps⟩:=t;obtain rfl:u.ps=ps:=ht.2;have tsk: ∀ {Q:VK},Q (.ref u.t) H2->dL K "tasks" (fun x H1=>tUn (rU fun i=> .int (-i)) (tC (.int 1)) [some (.ref c.wk),some v] H1 fun y H2=>Ay K x y H2 Q) (.ref c.wk) H2:=fun q=>W2.fld T T.Ia rfl #[_,rfl,c.tl,_,_,V.ref u.t,rfl,rfl,cP.of W2.tl1,eA _ _,q]
  have h4:=W2.O.get 4 rfl;refine cR ga (ij T.JP W2.tl [001] (fun _ q=>W2.fld T T.Ia rfl q) (cM [029]))
  rw[F7,EY,EZ];refine dD (fun _=>?_) fun z=>E7 z (by lia);refine fh #[_,aL (ala T XC KX) hr (by rfl) T.d_2.c aA (aa (pv 0) (aa (ak (cJ bA [001] (dJ cH aj) [002]) rfl) (aa (ak (cJ bA [001] (dJ cH aj) [002]) rfl) ag))),tsk #[u.t,_,u.d,_,u.v,rfl,h4,T.OH,T.PB,rfl,tsk #[u.t,_,u.d,_,V.ref u.p,rfl,h4,T.OH,T.Mq,rfl, .mk rfl GH #[FO,gd,W2] s3 (tR ng he h3 (Dh FO gd s3) fun H3 h=>#[i3,G6 _,rfl,h])]]] rfl
end OS
namespace OS
open Vbemac
def DK (t:L9):Prop:= ∀x∈t,∀n,x.1= .num n->n<1000000000000000000
theorem DK.drop (h:DK t) (k:E1):DK (t.drop k):=fun x hx=>h x (Tp hx)
def Po {α:Type}(p:P α) (Q:α->Prop):Prop:= ∀t a r,DK t->p t= .ok (a,r)->Q a/\DK r
section
variable {α β:Type}{p:P α}{Q:α->Prop}{R:β->Prop}
theorem Po.bind {f:α->P β}(h:Po p Q) (g: ∀a,Q a->Po (f a) R):Po (p>>=f) R:=by
 intro t b r nb e;have e':(match p t with
  | .error z=> .error z
  | .ok (a,s)=>f a s)=Except.ok (b,r):=by
  rw[<-e];show _=(p t>>=fun x=>f x.1 x.2)
  cases p t<;>rfl
 cases z:p t with
 |error c=>rw[z] at e';cases e'
 |ok x=>
  rw[z] at e';obtain⟨q,n⟩:=h t x.1 x.2 nb z;exact g x.1 q x.2 b r n e'
theorem Po.pure {a:α}(h:Q a):Po (pure a:P α) Q:=by
 intro t b r nb e;cases e;exact#[h,nb]
theorem Po.mono {Q':α->Prop}(h:Po p Q) (g: ∀a,Q a->Q' a):Po p Q':=fun t a r nb e=>#[g a (h t a r nb e).1,(h t a r nb e).2]
theorem Po.fail:Po (E9 n:P α) Q:=fun t a r nb e=>by unfold E9 at e;cases e
theorem Po.ite {c:L9->FR}{p q:P α}(h1:Po p Q) (h2:Po q Q):Po (fun t=>if c t=true then p t else q t) Q:=fun t a r nb e=>by
 dsimp only at e;rw[022]
 ·exact h1 t a r nb e
 ·exact h2 t a r nb e
end
theorem dF:Po next fun _=>True:=fun t a r nb e=>by unfold next at e;cases e;exact#[trivial,nb.drop 1]
theorem fN (w:String):Po (key w) fun _=>True:=fun t a r nb e=>by
 unfold key at e;rw[022]
 ·cases e;exact#[trivial,nb.drop 1]
 ·unfold E9 at e;cases e
theorem bH (w:String):Po (sign w) fun _=>True:=fun t a r nb e=>by
 unfold sign at e;rw[022]
 ·cases e;exact#[trivial,nb.drop 1]
 ·unfold E9 at e;cases e
theorem i8 (w:String):Po (ifSign w) fun _=>True:=fun t a r nb e=>by
 unfold ifSign at e;rw[022]
 ·cases e;exact#[trivial,nb.drop 1]
 ·cases e;exact#[trivial,nb]
theorem xO (d:E1):Po (deeper d) fun _=>True:=fun t a r nb e=>by
 unfold deeper at e;rw[022]
 ·unfold E9 at e;cases e
 ·cases e;exact#[trivial,nb]
theorem kJ (l:EA String):Po (KW l) fun o=> ∀s,o=some s->s∈l.map text:=fun t a r nb e=>by
 unfold KW at e;rw[022]
 ·split at e
  ·rename_i h
   cases e;exact#[fun s z=>by cases z;exact FK.mp h,nb.drop 1]
  ·cases e;exact#[fun s z=>(nomatch z),nb]
 ·cases e;exact#[fun s z=>(nomatch z),nb]
theorem jv:Po anyName fun _=>True:=fun t a r nb e=>by
 unfold anyName at e;rw[022]
 ·split at e
  ·unfold E9 at e;cases e
  ·cases e;exact#[trivial,nb.drop 1]
 ·unfold E9 at e;cases e
theorem dR (K:Known):Po (newName K) fun x=>x∉K.values/\(∀g∈K.funs,g.1≠x):=fun t a r nb e=>by
 unfold newName at e;rw[022]
 ·cases e
 ·rename_i w s h
  rw[022]
  ·unfold E9 at e;cases e
  ·rename_i hk
   cases e;unfold Known.taken at hk;rw[LL,Vg] at hk;exact#[#[fun z=>hk.1 (FK.mpr z),fun g hg z=>hk.2 (Lh.mpr #[g,hg,by rw[z];exact Gr _])],(jv t _ _ nb h).2]
structure PoA (k:E1):Prop where
 expr: ∀d K,Po (expr k d K) [033]
 moreOr: ∀d K,Po (moreOr k d K) (mL K.values K.funs)
 ands: ∀d K,Po (ands k d K) [033]
 moreAnd: ∀d K,Po (moreAnd k d K) (mL K.values K.funs)
 compared: ∀d K,Po (compared k d K) [033]
 added: ∀d K,Po (added k d K) [033]
 moreAdded: ∀d K,Po (moreAdded k d K) (vr ["+","-"] K.values K.funs)
 times: ∀d K,Po (times k d K) [033]
 moreTimes: ∀d K,Po (moreTimes k d K) (vr ["*","/","%"] K.values K.funs)
 unary: ∀d K,Po (unary k d K) [033]
 primary: ∀d K,Po (primary k d K) [033]
 arguments: ∀d K n,1<=n->Po (arguments k d K n) fun l=>mL K.values K.funs l/\(lc l).length=n
theorem uf: ∀k,PoA k
 |0=>by
  refine#[?_,?_,?_,?_,?_,?_,?_,?_,?_,?_,?_,?_]<;>intros<;>first|(unfold Ff;exact Po.fail)|(unfold Wc;exact Po.fail)|(unfold Yw;exact Po.fail)|(unfold VP;exact Po.fail)|(unfold Vc;exact Po.fail)|(unfold W0;exact Po.fail)|(unfold UG;exact Po.fail)|(unfold W3;exact Po.fail)|(unfold UH;exact Po.fail)|(unfold Gj;exact Po.fail)|(unfold F9;exact Po.fail)|(unfold Pf;exact Po.fail)
 |k+1=>by
  have I:=uf k;refine#[fun d K=>?_,fun d K=>?_,fun d K=>?_,fun d K=>?_,fun d K=>?_,fun d K=>?_,fun d K=>?_,fun d K=>?_,fun d K=>?_,fun d K=>?_,fun d K=>?_,fun d K n hn=>?_]
  ·unfold Ff
   refine Po.ite ?_ ?_
   ·refine(xO d).bind fun e _=>dF.bind fun _ _=>(I.expr e K).bind fun c wc=>(fN _).bind fun _ _=>(I.expr e K).bind fun x wx=>(fN _).bind fun _ _=>(I.expr e K).bind fun y wy=>Po.pure ?_
    unfold WS;exact#[wc,wx,wy]
   ·refine(I.ands d K).bind fun x wx=>(I.moreOr d K).bind fun l wl=>Po.pure ?_
    cases l with
    |nil=>exact wx
    |cons y s=>dsimp only;unfold WS;exact#[wx,#[y,s,rfl],wl]
  ·unfold Wc
   refine(i8 _).bind fun m _=>?_;split
   ·refine(I.ands d K).bind fun x wx=>(I.moreOr d K).bind fun l wl=>Po.pure ?_
    unfold mL;exact#[wx,wl]
   ·refine Po.pure ?_
    unfold mL;trivial
  ·unfold Yw
   refine(I.compared d K).bind fun x wx=>(I.moreAnd d K).bind fun l wl=>Po.pure ?_;cases l with
   |nil=>exact wx
   |cons y s=>dsimp only;unfold WS;exact#[wx,#[y,s,rfl],wl]
  ·unfold VP
   refine(i8 _).bind fun m _=>?_;split
   ·refine(I.compared d K).bind fun x wx=>(I.moreAnd d K).bind fun l wl=>Po.pure ?_
    unfold mL;exact#[wx,wl]
   ·refine Po.pure ?_
    unfold mL;trivial
  ·unfold Vc
   refine(I.added d K).bind fun x wx=>(kJ _).bind fun s hs=>?_;cases s with
   |none=>exact Po.pure wx
   |some op=>
    refine(I.added d K).bind fun y wy=>Po.pure ?_;unfold WS;exact#[hs op rfl,wx,wy]
  ·unfold W0
   refine(I.times d K).bind fun x wx=>(I.moreAdded d K).bind fun l wl=>Po.pure ?_;cases l with
   |nil=>exact wx
   |cons op y s=>dsimp only;unfold WS;exact#[wx,#[op,y,s,rfl],wl]
  ·unfold UG
   refine(kJ _).bind fun s hs=>?_;cases s with
   |none=>refine Po.pure ?_;unfold vr;trivial
   |some op=>
    refine(I.times d K).bind fun y wy=>(I.moreAdded d K).bind fun r wr=>Po.pure ?_;unfold vr;exact#[hs op rfl,wy,wr]
  ·unfold W3
   refine(I.unary d K).bind fun x wx=>(I.moreTimes d K).bind fun l wl=>Po.pure ?_;cases l with
   |nil=>exact wx
   |cons op y s=>dsimp only;unfold WS;exact#[wx,#[op,y,s,rfl],wl]
  ·unfold UH
   refine(kJ _).bind fun s hs=>?_;cases s with
   |none=>refine Po.pure ?_;unfold vr;trivial
   |some op=>
    refine(I.unary d K).bind fun y wy=>(I.moreTimes d K).bind fun r wr=>Po.pure ?_;unfold vr;exact#[hs op rfl,wy,wr]
  ·unfold Gj
   refine Po.ite ?_ (Po.ite ?_ (I.primary d K))
   ·intro t a r nb e
    dsimp only at e;rw[022]
    ·rename_i n hn
     cases e;have nn:n<1000000000000000000:=by
      unfold peek at hn;cases z:(t.drop 1).head? with
      |none=>rw[z] at hn;cases hn
      |some y=>rw[z] at hn;exact nb y (Tp (U6 z)) n hn
     exact#[by unfold WS;unfold WS;exact nn,nb.drop 2]
    ·refine(show Po (deeper d>>=fun e=>next>>=fun _=>Gj k e K>>=fun a=>pure (.neg a):P Exp) [033] from ?_) t a r nb e
     exact(xO d).bind fun e _=>dF.bind fun _ _=>(I.unary e K).bind fun x wx=>Po.pure (by unfold WS;exact wx)
   ·exact(xO d).bind fun e _=>dF.bind fun _ _=>(I.unary e K).bind fun x wx=>Po.pure (by unfold WS;exact wx)
  ·unfold F9
   intro t a r nb e;dsimp only at e;rw[022]
   ·rename_i n hn
    cases e;have nn:n<1000000000000000000:=by
     unfold peek at hn;cases z:t.head? with
     |none=>rw[z] at hn;cases hn
     |some y=>rw[z] at hn;exact nb y (U6 z) n hn
    exact#[by unfold WS;exact nn,nb.drop 1]
   ·split at e
    ·refine(show Po (deeper d>>=fun e=>next>>=fun _=>Ff k e K>>=fun a=>sign ")">>=fun _=>pure a:P Exp) [033] from ?_) t a r nb e
     exact(xO d).bind fun e _=>dF.bind fun _ _=>(I.expr e K).bind fun x wx=>(bH _).bind fun _ _=>Po.pure wx
    ·unfold E9 at e;cases e
   ·rename_i w hw
    rw[022]
    ·refine(show Po (deeper d>>=fun e=>next>>=fun _=>sign "(">>=fun _=>newName K>>=fun x=>key "in">>=fun _=>Ff k e K>>=fun lo=>sign "..">>=fun _=>Ff k e K>>=fun hi=>sign ":">>=fun _=>Ff k e [046]>>=fun a=>sign ")">>=fun _=>pure (.sum x lo hi a):P Exp) [033] from ?_) t a r nb e
     refine(xO d).bind fun e _=>dF.bind fun _ _=>(bH _).bind fun _ _=>(dR K).bind fun x wx=>(fN _).bind fun _ _=>(I.expr e K).bind fun lo wlo=>(bH _).bind fun _ _=>(I.expr e K).bind fun hi whi=>(bH _).bind fun _ _=>(I.expr e [046]).bind fun y wy=>(bH _).bind fun _ _=>Po.pure ?_;unfold WS;exact#[wx.1,wlo,whi,wy]
    rw[022]
    ·unfold E9 at e;cases e
    rw[022]
    ·rename_i f hf
     have fw:f.1=w:=by have:=Qp hf;exact beq_iff_eq.mp this
     refine(show Po (deeper d>>=fun e=>next>>=fun _=>sign "(">>=fun _=>(if f.2=0 then(sign ")">>=fun _=>pure (.call w .nil)) else(Pf k e K f.2>>=fun l=>pure (.call w l)):P Exp)) [033] from ?_) t a r nb e
     refine(xO d).bind fun e _=>dF.bind fun _ _=>(bH _).bind fun _ _=>?_;split
     ·rename_i h0
      refine(bH _).bind fun _ _=>Po.pure ?_;unfold WS;exact#[#[f,hf,h0.symm],by unfold mL;trivial]
     ·rename_i h0
      refine(I.arguments e K f.2 (by lia)).bind fun l wl=>Po.pure ?_;unfold WS;exact#[#[f,hf,wl.2],wl.1]
    ·split at e
     ·rename_i hv
      cases e;exact#[by unfold WS;exact FK.mp hv,nb.drop 1]
     ·unfold E9 at e;cases e
   ·unfold E9 at e;cases e
  ·unfold Pf
   refine Po.ite Po.fail ((I.expr d K).bind fun x wx=>?_);split
   ·rename_i h1
    refine Po.ite Po.fail ((bH _).bind fun _ _=>Po.pure ?_);refine#[by unfold mL;exact#[wx,by unfold mL;trivial],?_];show 1=n;lia
   ·rename_i h1
    refine Po.ite Po.fail ((bH _).bind fun _ _=>(I.arguments d K (n-1) (by lia)).bind fun l wl=>Po.pure ?_);refine#[by unfold mL;exact#[wx,wl.1],?_];show(lc l).length+1=n;rw[wl.2];lia
end OS
namespace OS
open Vbemac
theorem rV: ∀(w:FJ) (n k:E1),(∀c∈w,digit c=true)->n<10 ^ k->w.foldl (fun n c=>10*n+(c.toNat-48)) n<10 ^ (k+w.length)
 |[],n,k,_,h=>h
 |c::w,n,k,hd,h=>by
  rw[EA.foldl_cons];have hc:c.toNat<=57:=by
   have:=hd c (EO ..);unfold digit at this;rw[Gh,FH,FH] at this;exact Io.le_iff_toNat_le.mp this.2
  have z:=rV w (10*n+(c.toNat-48)) (k+1) (fun x hx=>hd x (EN _ hx)) (by rw[E1.pow_succ];lia)
  rw[show k+(c::w).length=k+1+w.length by rw[EZ];lia];exact z
theorem sQ: ∀(l:FJ),∀c∈l.takeWhile digit,digit c=true
 |[],_,h=>nomatch h
 |x::l,c,h=>by
  rw[Jp] at h;split at h
  ·rename_i hx
   rcases EW.mp h with z|z
   ·rw[z];exact hx
   ·exact sQ l c z
  ·cases h
theorem lr: ∀(k:E1) (p:Pos) (b:FJ),DK (lex k p b)
 |0,p,b=>by intro x hx n e;unfold lex at hx;rw[Fd.mp hx] at e;cases e
 |k+1,p,[]=>by intro x hx n e;unfold lex at hx;rw[Fd.mp hx] at e;cases e
 |k+1,p,c::r=>by
  have one: ∀ {y:Tok}{t:L9},(∀n,y= .num n->n<1000000000000000000)->DK t->DK ((y,p)::t):=fun h1 h2 x hx n e=>by
   rcases EW.mp hx with z|z
   ·rw[z] at e;exact h1 n e
   ·exact h2 x z n e
  have nil:DK []:=fun x hx=>nomatch hx
  unfold lex;split
  ·exact lr k _ _
  split
  ·exact lr k _ _
  split
  ·dsimp only
   split
   ·exact one (fun n e=>nomatch e) nil
   ·exact one (fun n e=>nomatch e) (lr k _ _)
  split
  ·dsimp only
   split
   ·exact one (fun n e=>nomatch e) nil
   ·rename_i h
    refine one (fun n e=>?_) (lr k _ _);cases e;have z:=rV ((c::r).takeWhile digit) 0 0 (sQ _) [01];rw[Vg] at h;exact Fv z (E1.pow_le_pow_right [01] (show 0+((c::r).takeWhile digit).length<=18 by lia))
  ·split
   ·exact one (fun n e=>nomatch e) (lr k _ _)
   ·exact one (fun n e=>nomatch e) nil
end OS
namespace OS
open Vbemac
def bnd (V:EA FJ):Stmt->EA FJ
 | .bind x _=>x::V
 |_=>V
mutual
def WT:E1->EA FJ->EA (FJ×E1)->Stmt->Prop
 |_,V,F, .bind x e=>x∉V/\WS V F e
 |d,V,F, .loop x lo hi l=>x∉V/\WS V F lo/\WS V F hi/\1<=d/\zq (d-1) (x::V) F l
 |d,V,F, .cond c a b=>WS V F c/\1<=d/\zq (d-1) V F a/\zq (d-1) V F b
 |_,V,F, .step _ z q p top am=>WS V F z/\WS V F q/\WS V F p/\(∀e,top=some e->WS V F e)/\WS V F am
 |_,V,F, .block _ _ z p x am _ g=>x∉V/\WS V F z/\WS V F p/\WS (x::V) F am/\ ∀e,g=some e->WS V F e
def zq:E1->EA FJ->EA (FJ×E1)->Stmts->Prop
 |_,_,_, .nil=>True
 |d,V,F, .cons s l=>WT d V F s/\zq d (bnd V s) F l
end
def wS:EA FJ->EA (FJ×E1)->Sheet->Prop
 |_,_,[]=>True
 |V,F, .const x e::r=>x∉V/\WS V F e/\wS (x::V) F r
 |V,F, .func x ps e::r=>F.length<=8/\(∀g∈F,g.1≠x)/\ps.Nodup/\ps.length<=6/\WS (ps++V) F e/\wS V ((x,ps.length)::F) r
 |V,F, .desk _ l::r=>zq 6 V F l/\wS V F r
theorem wV:Po side fun _=>True:=fun t a r nb e=>by
 unfold side at e;rw[022]
 ·cases e;exact#[trivial,nb.drop 1]
 rw[022]
 ·cases e;exact#[trivial,nb.drop 1]
 ·unfold E9 at e;cases e
theorem Cf (w:String):Po (ifKey w) fun _=>True:=fun t a r nb e=>by
 unfold ifKey at e;rw[022]
 ·cases e;exact#[trivial,nb.drop 1]
 ·cases e;exact#[trivial,nb]
theorem kR {α:Type}(w:String) {p:P α}{Q:α->Prop}(h:Po p Q):Po (behind w p) fun o=> ∀a,o=some a->Q a:=fun t a r nb e=>by
 unfold behind at e;rw[022]
 ·split at e
  ·cases e
  ·rename_i x s z
   cases e;have:=h _ _ _ (nb.drop 1) z;exact#[fun a z=>by cases z;exact this.1,this.2]
 ·cases e;exact#[nofun,nb]
theorem sZ {f:FJ->FR} :Po (fun t=>match anyName t with
  | .error e=> .error e
  | .ok (w,r)=>if f w=b then fail n t else .ok (w,r):P FJ) fun _=>True:=fun t a r nb e=>by
 dsimp only at e;rw[022]
 ·cases e
 ·rename_i w s h
  rw[022]
  ·unfold E9 at e;cases e
  ·cases e;exact#[trivial,(jv t _ _ nb h).2]
theorem AL (B:Blocks):Po (knownBlock B) fun _=>True:=fun t a r nb e=>by
 unfold knownBlock at e;rw[022]
 ·cases e
 ·rename_i w s h
  rw[022]
  ·cases e;exact#[trivial,(jv t _ _ nb h).2]
  ·unfold E9 at e;cases e
theorem Ce (B:Blocks):Po (maybeName B) fun _=>True:=fun t a r nb e=>by
 unfold maybeName at e;rw[022]
 ·cases e;exact#[trivial,nb]
 ·split at e
  ·cases e
  ·rename_i w s h
   cases e;exact#[trivial,(sZ (f:=fun w=>B.contains w) (n:=4) (b:=true) t _ _ nb h).2]
theorem vX (d:E1):Po (deeper d) fun e=>e=d-1/\1<=d:=fun t a r nb e=>by
 unfold deeper at e;rw[022]
 ·unfold E9 at e;cases e
 ·cases e;exact#[#[rfl,by lia],nb]
abbrev StQ (d:E1) (K:Known) (r:Stmt×Known×Blocks):Prop:=WT d K.values K.funs r.1/\r.2.1.values=bnd K.values r.1/\r.2.1.funs=K.funs
theorem gz: ∀k d K B,Po (stmts k d K B) (fun r=>zq d K.values K.funs r.1)/\Po (stmt k d K B) (StQ d K)
 |0,d,K,B=>#[by unfold stmts;exact Po.fail,by unfold stmt;exact Po.fail]
 |k+1,d,K,B=>by
  have E:=(uf k).expr;constructor
  ·unfold stmts
   refine Po.ite (fun t a r nb e=>by cases e;exact#[by unfold zq;trivial,nb.drop 1]) ((gz k d K B).2.bind fun s hs=>(gz k d s.2.1 s.2.2).1.bind fun l hl=>Po.pure ?_)
   ·unfold zq
    rw[hs.2.1,hs.2.2] at hl;exact#[hs.1,hl]
  ·unfold stmt
   refine Po.ite ?_ (Po.ite ?_ (Po.ite ?_ (Po.ite ?_ ?_)))
   ·refine dF.bind fun _ _=>(dR K).bind fun x hx=>(bH _).bind fun _ _=>(E DEEP K).bind fun e he=>(bH _).bind fun _ _=>Po.pure #[?_,rfl,rfl]
    unfold WT;exact#[hx.1,he]
   ·refine(vX d).bind fun n hn=>dF.bind fun _ _=>(dR K).bind fun x hx=>(fN _).bind fun _ _=>(E DEEP K).bind fun lo hlo=>(bH _).bind fun _ _=>(E DEEP K).bind fun hi hhi=>(bH _).bind fun _ _=>(gz k n [046] B).1.bind fun l hl=>Po.pure #[?_,rfl,rfl]
    unfold WT;rw[hn.1] at hl;exact#[hx.1,hlo,hhi,hn.2,hl]
   ·refine(vX d).bind fun n hn=>dF.bind fun _ _=>(E DEEP K).bind fun c hc=>(bH _).bind fun _ _=>(gz k n K B).1.bind fun x hx=>(Cf _).bind fun m _=>?_
    rw[hn.1] at hx;split
    ·refine(bH _).bind fun _ _=>(gz k n K x.2).1.bind fun y hy=>Po.pure #[?_,rfl,rfl]
     unfold WT;rw[hn.1] at hy;exact#[hc,hn.2,hx,hy]
    ·refine Po.pure #[?_,rfl,rfl]
     unfold WT;exact#[hc,hn.2,hx,by unfold zq;trivial]
   ·refine dF.bind fun _ _=>(Ce B).bind fun m _=>wV.bind fun _ _=>(fN _).bind fun _ _=>(E DEEP K).bind fun z hz=>(fN _).bind fun _ _=>(E DEEP K).bind fun p hp=>(fN _).bind fun _ _=>(dR K).bind fun x hx=>(bH _).bind fun _ _=>(E DEEP [046]).bind fun q hq=>(kR _ (AL B)).bind fun _ _=>(kR _ (E DEEP K)).bind fun g hg=>(bH _).bind fun _ _=>Po.pure #[?_,rfl,rfl]
    unfold WT;exact#[hx.1,hz,hp,hq,hg]
   ·refine wV.bind fun _ _=>(fN _).bind fun _ _=>(E DEEP K).bind fun z hz=>(fN _).bind fun _ _=>(E DEEP K).bind fun q hq=>(fN _).bind fun _ _=>(E DEEP K).bind fun p hp=>(kR _ (E DEEP K)).bind fun top ht=>(fN _).bind fun _ _=>(E DEEP K).bind fun am ha=>(bH _).bind fun _ _=>Po.pure #[?_,rfl,rfl]
    unfold WT;exact#[hz,hq,hp,ht,ha]
theorem Po.itp {α:Type}{Q:α->Prop}{c:L9->Prop} [∀t,Decidable (c t)] {p q:P α}(h1:Po p Q) (h2:Po q Q):Po (fun t=>if c t then p t else q t) Q:=fun t a r nb e=>by
 dsimp only at e;rw[022]
 ·exact h1 t a r nb e
 ·exact h2 t a r nb e
theorem Po.itd {α:Type}{Q:α->Prop}{c:Prop} [Decidable c] {p q:P α}(h1:c->Po p Q) (h2: ¬c->Po q Q):Po (fun t=>if c then p t else q t) Q:=fun t a r nb e=>by
 dsimp only at e;rw[022]
 ·rename_i h;exact h1 h t a r nb e
 ·rename_i h;exact h2 h t a r nb e
theorem pw: ∀k n K,Po (params k n K) fun ps=>ps.Nodup/\ps.length<=n/\ ∀p∈ps,p∉K.values
 |0,n,K=>by unfold params;exact Po.fail
 |k+1,0,K=>by
  unfold params;intro t a r nb e;dsimp only at e;rw[EL rfl] at e;unfold E9 at e;cases e
 |k+1,n+1,K=>by
  unfold params;refine Po.itp (c:=fun _=>n+1=0) Po.fail ((dR K).bind fun x hx=>(i8 _).bind fun m _=>?_);split
  ·refine(pw k n [046]).bind fun l hl=>Po.pure #[FI.mpr #[fun z=>hl.2.2 x z EO,hl.1],G7 hl.2.1,fun p hp=>?_]
   rcases EW.mp hp with z|z
   ·rw[z];exact hx.1
   ·exact fun y=>hl.2.2 p z (EN _ y)
  ·refine(bH _).bind fun _ _=>Po.pure #[FI.mpr #[nofun, .nil],G7 (Fs _),fun p hp=>?_]
   rw[Fd.mp hp];exact hx.1
theorem lX: ∀k K n D,K.funs.length+n=9->Po (tops k K n D) (wS K.values K.funs)
 |0,K,n,D,_=>by unfold tops;exact Po.fail
 |k+1,K,n,D,hn=>by
  have E:=(uf k).expr;unfold tops;refine Po.itp (c:=fun t=>peek t= .eof) (fun t a r nb e=>by cases e;exact#[by unfold wS;trivial,nb]) (Po.ite ?_ (Po.ite (Po.itd (c:=n=0) (fun _=>Po.fail) fun n0=>?_) (Po.ite ?_ Po.fail)))
  ·refine dF.bind fun _ _=>(dR K).bind fun x hx=>(bH _).bind fun _ _=>(E DEEP K).bind fun e he=>(bH _).bind fun _ _=>(lX k [046] n D hn).bind fun l hl=>Po.pure ?_
   unfold wS;exact#[hx.1,he,hl]
  ·refine dF.bind fun _ _=>(dR K).bind fun x hx=>(bH _).bind fun _ _=>(i8 _).bind fun m _=>(show Po (if m=true then give [] else params k PARAMS [046]) (fun ps=>ps.Nodup/\ps.length<=6) by
     split
     ·exact Po.pure #[.nil,Fs _]
     ·exact(pw k PARAMS [046]).mono fun _ z=>#[z.1,z.2.1]).bind fun ps hp=>(bH _).bind fun _ _=>(E DEEP { K with values:=ps++K.values }).bind fun e he=>(bH _).bind fun _ _=>(lX k { K with funs:=(x,ps.length)::K.funs } (n-1) D (by show K.funs.length+1+(n-1)=9;lia)).bind fun l hl=>Po.pure ?_
   unfold wS;exact#[by lia,hx.2,hp.1,hp.2,he,hl]
  ·refine dF.bind fun _ _=>(sZ (f:=fun w=>D.contains w) (n:=4) (b:=true)).bind fun x _=>(bH _).bind fun _ _=>(gz k NEST K []).1.bind fun l hl=>(lX k K n (x::D) hn).bind fun r hr=>Po.pure ?_
   unfold wS;exact#[hl,hr]
end OS
namespace OS
open PySem PySem.Spec L2
open PyProof.Rows hiding St
variable {P:Fz}{w:Ga}{K:EF}{mg:Fh->ET EH}{base:Gn}{a:bf}
theorem Ow.bas {B H:Hp}{o:HO}(O:Ow B L H) (h:B p≠none\/H p=none):Ow (aF B p o) L (aF H p o):=by
 refine#[fun b u e=>?_,fun x hx=>?_,O.nd]
 ·by_cases hb:b=p
  ·rw[hb,ae] at e ⊢; exact e
  ·rw[ac hb] at e ⊢; exact O.same b u e
 ·have h1:=O.at_ x hx
  have ne:x.1≠p:=fun z=>by
   rcases h with h|h
   ·exact h (by rw[<-z];exact h1.2)
   ·rw[<-z,h1.1] at h;cases h
  rw[ac ne,ac ne];exact h1
theorem fi.up {a:bf}{M:EJ->Prop}{H:Hp}{o:HO}{x:GK}{v:V}(m:M p) (h:fi a M H x v):fi a M (aF H p o) x v:=fi.Hj (fun b u e n=>#[n,by rw[ac fun z=>n (by rw[z];exact m)];exact e]) x h
theorem D6.up {a:bf}{M:EJ->Prop}{B:Hp}{o:HO}(m:M p) (h:D6 a #[M,B] F ff):D6 a #[M,aF B p o] F ff:=by
 refine#[h.1,fun f=>?_];have:=h.2 f;split
 ·rename_i g hg
  rw[hg] at this;obtain⟨v,h1,h2⟩:=this;exact#[v,h1,h2.up m]
 ·rename_i hg
  rw[hg] at this;exact this
abbrev aaJ (b:FR):V:= .int (Vbemac.bit b)
def ag2:ET E1->V
 |some k=> .int (k:E1)
 |none=> .int (-1)
abbrev DS (H:Hp) (C:EJ) (fs:EA (Fh×V)) (v:V):Prop:=bC (fun _=>False) H C fs v
def rD (a:bf) (ol:EJ) (H:Hp) (v:V):IF->Prop
 | .step d z t b p q am=>DS H a.HI [("desk", .int d),("zone", .int z),("quarter", .int t),("side",aaJ b),("low", .int p),("high", .int q),("amount", .int am)] v
 | .block d z b p g u l=> ∃q,q≠ol/\DS H a.Ho [("desk", .int d),("zone", .int z),("side",aaJ b),("price", .int p),("group", .int g),("parent",ag2 u),("amounts", .ref q)] v/\H q=some (.lst (l.map V.int))
abbrev pi.at_ (c:pi) (z:E1):pi:=#[c.wk,c.dw,c.fa,c.sl,c.tl,z]
structure Zx where
 a:bf
 E:XK
 x:EJ
 dx:EJ
 m:EJ
 dm:EJ
 ol:EJ
 c:pi
 N:Hp
 K:JI
 S:Hr
 F0:EA (EC×E1)
 d:Int
abbrev Zx.M (Z:Zx):EJ->Prop:=fun p=>Z.N p=none
abbrev xF (m w o:EJ) (d:Int) (nd:EJ):EA (Fh×V):=[("market", .ref m),("worker", .ref w),("orders", .ref o),("desk", .int d),("named", .ref nd)]
abbrev mF (K:JI):EA (Fh×V):=[("zones", .int K.zones),("quarters", .int K.quarters),("low", .int K.lo),("high", .int K.hi)]
structure EB (Z:Zx) (B:Hp) (w:FU) (nd:EJ) (kk:EA (a0×V)) (os:EA V):Prop where
 sm:a9 Z.N B
 hx:B Z.x=some (.ins Z.a.FV Z.dx (xF Z.m Z.c.wk Z.ol Z.d nd))
 hm:B Z.m=some (.ins Z.a.JB Z.dm (mF Z.K))
 ho:B Z.ol=some (.lst os)
 hn:B nd=some (.dK kk)
 nx:Z.N Z.x=none/\Z.N Z.ol=none/\Z.N nd=none
 po:Paired (fun v o=>rD Z.a Z.ol B v o) os w.orders
 le:w.orders.length<=48
 pn: ∀u,bN kk (nk u)=(w.names.find? fun a=>a.1 == u).map fun a=>V.int (a.2:E1)
 ln:kk.length<=w.names.length
 nl:w.names.length<=w.orders.length
 q4:Z.K.quarters<=4
inductive cQ (Z:Zx) (j:E1) (B H:Hp) (U:EA EC) (en:GL) (w:FU) (n:E1):Prop
 |mk {r:V}{b:E1}{ff:EA (a0×V)}{d:rl}{s:fo}{nd:EJ}{kk:EA (a0×V)}{os:EA V}(FO:gm Z.S Z.F0) (W:eX Z.a ⟨Z.M,B⟩ H (Z.c.at_ (60000-j)) Z.S.funs r b ff [d] [] [] [s] n) (A:Ag Z.S U en [s]) (gs:yG [s]) (eb:EB Z B w nd kk os) (hj:j<=50000):cQ Z j B H U en w n
inductive ES (Z:Zx) (j:E1) (H:Hp) (U:EA EC) (en:GL) (w:FU) (n:E1):Prop
 |mk {B:Hp}(_:cQ Z j B H U en w n):ES Z j H U en w n
abbrev Qe (Z:Zx) (c:Int):Prop:= ∀H',a9 Z.N H'->oM Z.a Z.E H' c
structure EX (X:Cx) (a:bf) (E:XK):Prop where
 T:aU X.K X.mg a
 C:XW X.K a
 KX:lW X.K a
 hr:bW 9 X.A
 up:dh (fW X.prog X.w) X E
section
variable {X:Cx}{Z:Zx}{i j n m k:E1}{B H H':Hp}{U:EA EC}{en:GL}{w:FU}{σ:L2.St}{Q:VK}{o e f:G8}{to te tf:TE}{v:V}{x:ER}{y:EC}{z:Int}{p1 p2 p3 p4:Pos}
theorem eX.zz {a:bf}{B:rY}(W:eX a B H c F r b ff ds us ts sc n) (h:b+5*n<=z') (h':z'<=60000):eX a B H (c.at_ z') F r b ff ds us ts sc n:=#[W.O,W.fn,W.sq,W.tk,W.bn.UU,W.bn.tl,W.bn.sl,W.bn.b6,h,h']
theorem cQ.same (R:cQ Z j B H U en w n):a9 Z.N H:=by
 rw[025];exact fun b o e=>W.O.same b o (eb.sm b o e)
theorem cQ.less (R:cQ Z i B H U en w n) (h:j<=i):cQ Z j B H U en w n:=by
 obtain⟨FO,W,A,gs,eb,hj⟩:=R;exact#[FO,W.zz (by have:_<=60000-i:=W.bn.bn;lia) (by lia),A,gs,eb,by lia]
theorem cQ.unset {B0 H0:Hp}(R:cQ Z j B H (y::U) ((y,z)::en) w n) (ny:y∉U) (R0:cQ Z j0 B0 H0 U en w0 n0):cQ Z j B H U en w n:=by
 obtain⟨FO,W,A,gs,eb,hj⟩:=R;obtain⟨_,_,A0,_,_,_⟩:=R0;exact#[FO,W,A.unset ny A0.big fun _=>A0.low rfl,gs,eb,hj]
theorem cQ.wk (R:cQ Z j B H U en w n) (T:aU X.K X.mg Z.a) (q:Q (.ref Z.c.wk) H):dL X.K "worker" Q (.ref Z.x) H:=by
 rw[025];exact#[Z.x,_,Z.dx,_,_,rfl,W.O.same _ _ eb.hx,T.G9,T.J1,rfl,q]
theorem nW (Y:EX X Z.a Z.E) (R:cQ Z j B H U en w n) (ho:PE X o to) (hvo: ∀Q:VK,Q (.ref Z.c.wk) H->to σ H Q) (he:PE X e te) (hv: ∀Q:VK,Q v H->te σ H Q) (ex:au Z.a Z.M Z.N x v) (ws:WS U Z.F0 x) (hk:3*n+1<=k) (er: ∀c,LQ k Z.S en x n= .error c->Qe Z c) (q: ∀y m H',LQ k Z.S en x n= .ok (y,m)->m<n->dC y->cQ Z j B H' U en w m->Q (.int y) H')
  (JS:Fb [e] X.env=[[000]]) (ht:eval (.Call (.Attribute o "work_out" p2) [e] [] p4) X.env=(do
   let ov<-eval o X.env
   standAt p2.atName
   let (f,first)<-holding [ov] (Ku ov "work_out" (do return (<-OV o X.env).getD true))
   MR p4 f first (Ie p4 (Fb [e] X.env)) (Kj p4 [074]))):Pe X (.Call (.Attribute o "work_out" p2) [e] [] p4) σ H Q:=by
 rw[005];refine#[_,cx ho Y.T.Hw Y.T.YZ.c (sK Y.T Y.C Y.KX) Y.hr Y.up (aa he ag JS) JS rfl ht,hvo _ #[Z.c.wk,Z.c.dw,_,rfl,W.ins,rfl,hv _ (.mk (B:=#[Z.M,B]) (c:=Z.c.at_ (60000-j)) rfl FO ws (fun _ _ h=>h) A gs #[W] (au.Hj (fun b o e m=>#[m,eb.sm b o e]) x ex) hk (fun c h H' s'=>er c h H' fun b o e=>s' b o (eb.sm b o e)) fun y m h hm hb H' b' s' A' gs' W'=>?_)]];obtain @⟨ff',ds',VG,W'⟩:=W';have sq:=W'.sq;have tk:=W'.tk;cases tk;cases sq with
 |cons h1 h2=>cases h2;exact q y m H' h hm hb #[FO,W',A',gs',eb,hj]
theorem vH (Y:EX X Z.a Z.E) (R:cQ Z j B H U en w n) (ho:PE X o to) (hvo: ∀Q:VK,Q (.ref Z.c.wk) H->to σ H Q) (j5:j+5<=50000) (er:n=0->Qe Z (-13)) (q: ∀m H',n=m+1->cQ Z (j+5) B H' U en w m->Q .HZ H')
  (ht:eval (.Call (.Attribute o "take_step" p2) [] [] p4) X.env=(do
   let ov<-eval o X.env
   standAt p2.atName
   let (f,first)<-holding [ov] (Ku ov "take_step" (do return (<-OV o X.env).getD true))
   MR p4 f first (Ie p4 (Fb [] X.env)) (Kj p4 [074]))):Pe X (.Call (.Attribute o "take_step" p2) [] [] p4) σ H Q:=by
 rw[005];refine#[_,bQ ho Y.T.Hw Y.T.Vo.c (gV Y.T Y.C) (Y.hr.mono [01]) Y.up ht,hvo _ #[Z.c.wk,Z.c.dw,_,rfl,W.ins,rfl, .mk (c:=Z.c.at_ (60000-j)) rfl W (fun z=>er z H fun b o e=>W.O.same b o (eb.sm b o e)) fun m hm H' W'=>q m H' hm #[FO,W'.zz ?_ (by lia),A,gs,eb,j5]]];have:b+5*n<=60000-j:=W.bn.bn;lia
theorem uk (Y:EX X Z.a Z.E) (R:cQ Z (j+1) B H U en w n) (ho:PE X o to) (hvo: ∀Q:VK,Q (.ref Z.c.wk) H->to σ H Q) (he:PE X e te) (hv: ∀Q:VK,Q (.str (sb y)) H->te σ H Q) (q:Pe X f σ H fun u H'=> ∃(B':Hp) (z:Int) (w':FU) (n':E1),u= .int z/\cQ Z (j+1) B' H' U en w' n'/\y∉U/\dC z/\ ∀H2,cQ Z j B' H2 (y::U) ((y,z)::en) w' n'->Q .HZ H2)
  (JS:Fb [e,f] X.env=[[000],(false,eval f X.env)]) (US:Fb [f] X.env=[(false,eval f X.env)]) (ht:eval (.Call (.Attribute o "set_value" p2) [e,f] [] p4) X.env=(do
   let ov<-eval o X.env
   standAt p2.atName
   let (g,first)<-holding [ov] (Ku ov "set_value" (do return (<-OV o X.env).getD true))
   MR p4 g first (Ie p4 (Fb [e,f] X.env)) (Kj p4 [074]))):Pe X (.Call (.Attribute o "set_value" p2) [e,f] [] p4) σ H Q:=by
 rw[005];refine#[_,cx ho Y.T.Hw Y.T.Wg.c (kz Y.T) (Y.hr.mono [01]) aY (aa he (aa dn ag US) (by rw[JS,US])) (by rw[JS,US]) (by rw[US];rfl) ht,hvo _ #[Z.c.wk,Z.c.dw,_,rfl,W.ins,rfl,hv _ (q.mono fun u H' ⟨B',z,w',n',hu,R',ny,bz,k⟩=>?_)]];obtain @⟨r,b,ff,d,s,nd,kk,os,FO,W,A,gs,eb,hj⟩:=R';subst hu;have bn:b+5*n'<=60000-(j+1):=W.bn.bn;exact .mk (c:=Z.c.at_ (60000-j)) rfl (W.zz (c:=Z.c.at_ _) (by lia) (by lia)) (show b+1+5*n'<=60000-j by lia) fun H2 W2=>k H2 #[FO,W2,A.set ny bz,Af gs bz,eb,by lia]
end
theorem ag3 {X:Cx}{σ:L2.St}{H:Hp}{R:FR->Hp->Prop}{t1 t2 t3:TE}{lo x hi:Int}(h1:PE X e1 t1) (h2:PE X e2 t2) (h3:PE X e3 t3) (v1: ∀Q:VK,Q (.int lo) H->t1 σ H Q) (v2: ∀Q:VK,Q (.int x) H->t2 σ H Q) (v3: ∀Q:VK,Q (.int hi) H->t3 σ H Q) (q:R (E8 x lo hi) H) (hm:UD [.LtE, .LtE] [e2,e3]=false:=by with_unfolding_all rfl):
  Pt X (.Compare e1 [.LtE, .LtE] [e2,e3] p) σ H R:=by
 refine#[_,Ae eP eP h1 h2 h3 hm,v1 _ (v2 _ [029])];unfold E8 at q;by_cases h:lo<=x
 ·rw[Gb h,IK] at q
  rw[Gb h];exact cf (v3 _ #[_,_,rfl,rfl,_,rfl,q])
 ·rw[FA h,Iy] at q
  rw[FA h];exact bK #[_,rfl,q]
inductive wa (a:bf) (vs:EA V) (H:Hp) (Q:VK) (E:XK):Prop
 |mk (x lo hi:Int) (_:vs=[.int x, .int lo, .int hi]) (_:E8 x lo hi=false->oM a E H (-14)) (_:E8 x lo hi=true->Q .HZ H):wa a vs H Q E
theorem ag4 (T:aU K mg a) (XC:XW K a):T.Y3.O P w base 4 (wa a):=by
 refine fO T.Y3.F afX [03] [02];obtain⟨x,lo,hi,rfl,h1,h2⟩:=h;refine bF (jf (ag3 (pv 1) (pv 0) (pv 2) [05] [05] [05] ?_));cases e:E8 x lo hi with
 |true=>exact bK (cc (h2 e))
 |false=>exact cf (aQ (eT eu XC.MV (jA T XC) hr (by rfl) T.NU T.YO.c.b) #[Fs _,_,#[rfl,rfl],h1 e _ (.tail _ (.tail _ (.tail _ (.head _))))])
theorem Ow.ag5 {B H H':Hp}{p:EJ}{o:HO}(O:Ow B L H) (k:a9 H H') (h:H p=none) (e:H' p=some o):Ow (aF B p o) L H':=by
 refine#[fun b u z=>?_,fun x hx=>?_,O.nd]
 ·by_cases hb:b=p
  ·rw[hb,ae] at z;rw[hb,e];exact z
  ·rw[ac hb] at z;exact k _ _ (O.same b u z)
 ·have h1:=O.at_ x hx
  have ne:x.1≠p:=ai h1.1 h;rw[ac ne];exact#[k _ _ h1.1,h1.2]
theorem zT {B:Hp}{C p:EJ}{fs:EA (Fh×V)}{v:V}{o:HO}(i:DS B C fs v) (h: ∀C d,B p≠some (.ins C d fs)):DS (aF B p o) C fs v:=by
 obtain⟨q,dx,rfl,m,e⟩:=i;exact#[q,dx,rfl,m,by rw[ac fun z=>h _ _ (by rw[<-z];exact e)];exact e]
theorem mH {a:bf}{B:Hp}{v:V}{p:EJ}{o:HO} : ∀ {x:IF},rD a ol B v x->(∀C d fs,fs.length=7->B p≠some (.ins C d fs))->(p=ol\/ ∀l,B p≠some (.lst l))->rD a ol (aF B p o) v x
 | .step ..,h,hi,_=>zT h fun C d=>hi C d _ rfl
 | .block ..,⟨q,nq,h,e⟩,hi,hl=>#[q,nq,zT h fun C d=>hi C d _ rfl,by
  rw[ac fun z=>?_]
  ·exact e
  ·rcases hl with hl|hl
   ·exact nq (z.trans hl)
   ·exact hl _ (by rw[<-z];exact e)]
section
variable {B H H':Hp}{w:FU}{Q:VK}
theorem EB.new {nd:EJ}{kk:EA (a0×V)}{os:EA V}(eb:EB Z B w nd kk os) (hB:B p=none):EB Z (aF B p o) w nd kk os:=by
 have up: ∀ {b:EJ}{u:HO},B b=some u->aF B p o b=some u:=fun e=>by rw[ac (ai e hB)];exact e
 exact#[fun b u e=>up (eb.sm b u e),up eb.hx,up eb.hm,up eb.ho,up eb.hn,eb.nx,dZ eb.po fun v x z=>mH z (fun _ _ _ _ z=>by rw[hB] at z;cases z) (.inr fun _ z=>by rw[hB] at z;cases z),eb.le,eb.pn,eb.ln,eb.nl,eb.q4]
theorem cQ.fresh (R:cQ Z j B H U en w n) (h:H p=none):B p=none/\Z.N p=none/\p≠Z.ol:=by
 rw[025];have hB:B p=Ss:=by
  cases z:B p with
  |none=>rfl
  |some u=>rw[W.O.same _ _ z] at h;cases h
 refine#[hB,?_,fun z=>by rw[z,eb.ho] at hB;cases hB];cases z:Z.N p with
 |none=>rfl
 |some u=>rw[eb.sm _ _ z] at hB;cases hB
theorem cQ.new (R:cQ Z j B H U en w n) (k:a9 H H') (h:H p=none) (e:H' p=some o):cQ Z j (aF B p o) H' U en w n:=by
 obtain⟨hB,hN,_⟩:=R.fresh h;rw[005];exact#[FO,#[W.O.ag5 k h e,W.fn.up hN,W.sq, .nil,W.bn],A,gs,eb.new hB,hj]
theorem cQ.chg {o':HO}{nd:EJ}{kk:EA (a0×V)}{os:EA V}(R:cQ Z j (aF B p o) H U en w n) (hB:B p=none) (hN:Z.N p=none) (eb:EB Z B w nd kk os):cQ Z j (aF B p o') (aF H p o') U en w n:=by
 obtain @⟨r,b,ff,d,s,UW,kk',os',FO,W,A,gs,_,hj⟩:=R;have O:=W.O.bas (p:=p) (o:=o') (.inl (by show aF B p o p≠none;rw[ae];exact SK _));have F:=W.fn.up (o:=o') hN;rw[Ea] at O F;exact#[FO,#[O,F,W.sq, .nil,W.bn],A,gs,eb.new hB,hj]
end
theorem cQ.put {Z:Zx}{j n b:E1}{B H:Hp}{U:EA EC}{en:GL}{w:FU}{r:V}{ff:EA (a0×V)}{d:rl}{s:fo}{nd p:EJ}{kk:EA (a0×V)}{os:EA V}{o o':HO}(FO:gm Z.S Z.F0) (W:eX Z.a #[Z.M,B] H (Z.c.at_ (60000-j)) Z.S.funs r b ff [d] [] [] [s] n) (A:Ag Z.S U en [s]) (gs:yG [s]) (hj:j<=50000) (h:B p=some o) (hN:Z.N p=none) (eb:EB Z (aF B p o') w nd kk os):cQ Z j (aF B p o') (aF H p o') U en w n:=#[FO,#[W.O.bas (.inl (by show B p≠none;rw[h];exact SK _)),W.fn.up hN,W.sq, .nil,W.bn],A,gs,eb,hj]
theorem n9 {α β:Type}{F:α->β->Prop}{x:α}{y:β}(h:F x y): ∀ {l:EA α}{m:EA β},Paired F l m->Paired F (l++[x]) (m++[y])
 |_,_, .nil=> .cons h .nil
 |_,_, .cons r t=> .cons r (n9 h t)
inductive XS (a:bf) (vs:EA V) (H:Hp) (Q:VK) (E:XK):Prop
 |mk {Z:Zx}{j:E1}{B:Hp}{U:EA EC}{en:GL}{w:FU}{n:E1}{v:V}{o:IF}(_:vs=[.ref Z.x,v]) (_:Z.a=a) (_:Z.E=E) (_:cQ Z j B H U en w n) (_:rD Z.a Z.ol B v o) (_:48<=w.orders.length->Qe Z (-15)) (_:w.orders.length<48-> ∀B' H',cQ Z j B' H' U en { w with orders:=w.orders++[o] } n->Q .HZ H'):XS a vs H Q E
theorem ag6 (T:aU K mg a) (XC:XW K a):T.d_T.O P w base 4 (XS a):=by
 refine fO T.d_T.F aku [03] [02];obtain @⟨Z,j,B,U,en,w',n,v,o,rfl,rfl,rfl,R,ho,h1,h2⟩:=h;have sm:=R.same;rw[005];have hl:=bM eb.po;have fl: ∀ {Q:VK},Q (.ref Z.ol) H->dL K "orders" Q (.ref Z.x) H:=fun q=>#[Z.x,_,Z.dx,_,_,rfl,W.O.same _ _ eb.hx,T.G9,T.J2,rfl,q]
 have QP:=W.O.same _ _ eb.ho;refine bF (jg (ij T.JP QP [001] (fun _ q=>fl q) #[_,aR (by rfl) T.QB,_,_,rfl,rfl,dD [030] fun z=>?_]))
 ·exact aQ (eT eu XC.Lr (ie T XC) hr (by rfl) T.MB T.YQ.c.b) #[Fs _,_,#[rfl,rfl],h1 (by lia) H sm _ (.tail _ (.tail _ [041]))]
 ·have lt:w'.orders.length<48:=by have:=eb.le;lia
  have ne: ∀ {b:EJ}{u:HO},B b=some u->u≠ .lst os->aF B Z.ol (.lst (os++[v])) b=some u:=fun e n=>by rw[ac (pZ e eb.ho n)];exact e
  have ni: ∀C d fs,fs.length=7->B Z.ol≠some (.ins C d fs):=fun _ _ _ _ z=>by rw[eb.ho] at z;cases z
  have eb':EB Z (aF B Z.ol (.lst (os++[v]))) { w' with orders:=w'.orders++[o] } nd kk (os++[v]):=#[fun b u e=>by rw[ac fun z=>by rw[z,eb.nx.2.1] at e;cases e];exact eb.sm b u e,ne eb.hx nofun,ne eb.hm nofun,ae,ne eb.hn nofun,eb.nx,n9 (mH ho ni (.inl rfl)) (dZ eb.po fun v x z=>mH z ni (.inl rfl)),by rw[Fc];exact lt,eb.pn,eb.ln,by rw[Fc];exact ML eb.nl,eb.q4]
  exact iM [001] (fun _ q=>fl q) QP (bv 1 #[_,QP,by rw[hl,Ht];lia,cc (h2 lt _ _ (cQ.put FO W A gs hj eb.ho eb.nx.2.1 eb'))])
inductive zS (vs:EA V) (H:Hp) (Q:VK) (_E:XK):Prop
 |mk (b:FR) (_:vs=[kg b]) (_:Q (aaJ b) H):zS vs H Q _E
theorem ag7 (T:aU K mg a):T.d_K.U P w base 1 zS:=by
 refine T.d_K.F.ok aka [03] [02];obtain⟨b,rfl,q⟩:=h;refine aK #[_,dB (a8 b8 (pv 0) dH (aM _)) (aR (by rfl) T.WE) (aR (by rfl) T.Zv),rfl,_,rfl,?_];cases b with
 |true=>rw[show decide (kg true=V.str "sell")=false by decide+kernel];exact bK q
 |false=>rw[show decide (kg false=V.str "sell")=true by decide+kernel];exact cf q
section
variable {X:Cx}{Z:Zx}{j n m k iw:E1}{B H H':Hp}{U:EA EC}{en:GL}{w:FU}{σ:L2.St}{Q:VK}{D:eG}{ss:EA Stmt}{e1 e2 e3:G8}{t1 t2 t3:TE}{v u:V}{x:ER}{y nm f:Fh}{C:EJ}{fs:EA (Fh×V)}{lo z hi:Int}{p0 p1 p2 p3 p4 p5 p6:Pos}
theorem Pa.mono {Q Q':EA V->Hp->Prop}(h:Pa X es σ H Q) (im: ∀b H,Q b H->Q' b H):Pa X es σ H Q':=by
 obtain⟨t,ht,q⟩:=h;refine#[fun σ H Q'=> ∃Q:EA V->Hp->Prop,(∀b H,Q b H->Q' b H)/\t σ H Q,fun pos pins s σ H Q' I h=>?_,Q,im,q];obtain⟨Q,im,q⟩:=h;exact ca (ht pos pins s σ H Q I q) fun c s' ⟨v,H',I',r,q⟩=>#[v,H',I',r,im _ _ q]
theorem aaK {C:EJ}{fs:EA Fh}(nb:NB X c C fs) (hr:bW 2 X.A) (q:Pa X (e::es) σ H fun ws H1=>ws.length=fs.length/\ ∀x dx H2,H1 x=none->a9 H1 H2->H2 x=some (.ins C dx (fs.zip ws))->Q (.ref x) H2)
  (hg:Gl X c:=by rfl) (hx:(c == [003])=false:=by decide) (he:Fb (e::es) X.env=[000]::Fb es X.env:=by rfl) (Ma:(Ie p4 [034]).any (·.1)=false:=by rfl):Pe X (.Call (.Name c p1) (e::es) [] p4) σ H Q:=by
 obtain⟨M,G,b,hm⟩:=nb;refine#[_,g7 M G hr hg hm b .nil aY rH hx he Ma,q.mono fun ws H1 ⟨hl,q⟩ x dx h1 h2 ne=>?_];rw[Gw];exact#[x,dx,ws,rfl,hl,ae,fun H2 e k=>#[rfl,q x dx H2 h1 (fun b o e=>k b o (by rw[ac (ai e h1),ac (ai e h2)];exact e) (ai e h1)) e]]
theorem gk (i iw:E1) (Y:EX X Z.a Z.E) (nd:X.N.Nodup) (R:cQ Z j B H U en w n) (hw:σ[iw]?=some (some (.ref Z.c.wk))) (hn:σ[1]?=some (some v)) (ins:bC Z.M Z.N C fs v) (cl:gA X.K C) (no:ao X.K C f) (hl:fs.lookup f=some u) (ex:au Z.a Z.M Z.N x u) (ws:WS U Z.F0 x) (hk:3*n+1<=k) (er: ∀c,LQ k Z.S en x n= .error c->Qe Z c)
  (q: ∀y m H',LQ k Z.S en x n= .ok (y,m)->m<n->dC y->cQ Z j B H' U en w m->Bd X ss D (σ.set i (some (.int y))) H') (hp:ig p2 p4:=by rfl) (nw:X.N[iw]?=some ("worker":Fh):=by rfl) (vw:oH X.env.scope "worker":=by exact Gx rfl) (n1:X.N[1]?=some nm:=by rfl) (v1:oH X.env.scope nm:=by exact Gx rfl) (hd:(nm == [003])=false:=by decide) (RG:(nm == ("__classdict__":Fh))=false:=by decide) (h:Sl X i y:=by exact#[rfl,Gx rfl,rfl]):
  Bd X (.Assign [.Name y p0] (.Call (.Attribute (.Name "worker" p1) "work_out" p2) [.Attribute (.Name nm p3) f p6] [] p4) p5::ss) D σ H:=
 aN i nd (nW Y R (dU nw vw) (fun _ q=>m6 q hw) (ak (dU n1 v1 hd RG) rfl) (fun _ q=>m6 (ins.fld R.same cl no hl q) hn) ex ws hk er q rfl (eE hp rfl)) h
theorem oK (Y:EX X Z.a Z.E) (R:cQ Z j B H U en w n) (h1:PE X e1 t1) (h2:PE X e2 t2) (h3:PE X e3 t3) (v1: ∀Q:VK,Q (.int z) H->t1 σ H Q) (v2: ∀Q:VK,Q (.int lo) H->t2 σ H Q) (v3: ∀Q:VK,Q (.int hi) H->t3 σ H Q) (er:E8 z lo hi=false->Qe Z (-14)) (q:E8 z lo hi=true->Bd X ss D σ H) (hg:Gl X "need_range":=by rfl) (hs1:Fb [e1,e2,e3] X.env=(false,eval e1 X.env)::Fb [e2,e3] X.env:=by rfl) (US:Fb [e2,e3] X.env=(false,eval e2 X.env)::Fb [e3] X.env:=by rfl) (hs3:Fb [e3] X.env=[(false,eval e3 X.env)]:=by rfl):
  Bd X (.Expr (.Call (.Name "need_range" p1) [e1,e2,e3] [] p4) p5::ss) D σ H:=
 bw #[_,aL (ag4 Y.T Y.C) (Y.hr.mono [01]) hg Y.T.Y3.c Y.up (aa h1 (aa h2 (aa h3 ag hs3) US) hs1) [01] hs1 (by rw[US,hs3];rfl),v1 _ (v2 _ (v3 _ #[z,lo,hi,rfl,fun h=>er h H R.same,q]))] rfl
theorem cQ.WO (R:cQ Z j B H U en w n) (T:aU X.K X.mg Z.a) (no:ao X.K Z.a.JB f) (hl:(mF Z.K).lookup f=some v) (q:Q v H):dL X.K f Q (.ref Z.m) H:=by
 rw[025];exact#[Z.m,_,Z.dm,_,_,rfl,W.O.same _ _ eb.hm,T.QO,no,hl,q]
theorem cQ.mk2 (R:cQ Z j B H U en w n) (T:aU X.K X.mg Z.a) (q:Q (.ref Z.m) H):dL X.K "market" Q (.ref Z.x) H:=by
 rw[025];exact#[Z.x,_,Z.dx,_,_,rfl,W.O.same _ _ eb.hx,T.G9,T.LF,rfl,q]
theorem cQ.dk (R:cQ Z j B H U en w n) (T:aU X.K X.mg Z.a) (q:Q (.int Z.d) H):dL X.K "desk" Q (.ref Z.x) H:=by
 rw[025];exact#[Z.x,_,Z.dx,_,_,rfl,W.O.same _ _ eb.hx,T.G9,T.KG,rfl,q]
end
inductive kC (a:bf) (lv:E1) (ok:Gv->Prop) (vs:EA V) (H:Hp) (Q:VK) (E:XK):Prop
 |mk {Z:Zx}{B:Hp}{U:EA EC}{en:GL}{w:FU}{n k dk:E1}{st:Gv}{v:V}(_:vs=[.ref Z.x,v]) (_:Z.a=a) (_:Z.E=E) (_:Z.d=dk) (_:ok st) (_:cQ Z 5 B H U en w n) (_:aZ Z.a Z.M Z.N st v) (_:WT lv U Z.F0 st) (_:3*n+4<=k) (_: ∀c,Ij k Z.S Z.K dk en st w n= .error c->Qe Z c) (_: ∀u m H',Ij k Z.S Z.K dk en st w n= .ok (u,m)->m<=n->ES Z 0 H' U en u m->Q .HZ H'):kC a lv ok vs H Q E
set_option cleanup.letToHave false in
theorem vL {x Gz y:Fh}{st:Stmt}{f:EJ}{fd:FL}{N:EA Fh}{lv:E1}{ok:Gv->Prop}(T:aU K mg a) (XC:XW K a) (KX:lW K a) (hk:9<=kl) (F:oJ K x Gz st f fd) (S:az N ["expansion",y] (af st))
  (Jc: ∀(Gp:EH) (A:Gk) (outer:EA Env) (s:EM) (H:Hp) (Z:Zx) (B:Hp) (U:EA EC) (en:GL) (w':FU) (n k dk:E1) (sm:Gv) (v:V) (Q:VK),bW kl (A.deeper [011])->Z.a=a->Z.d=dk->ok sm->cQ Z 5 B H U en w' n->aZ Z.a Z.M Z.N sm v->WT lv U Z.F0 sm->3*n+3<=k->(∀c,Ij (k+1) Z.S Z.K dk en sm w' n= .error c->Qe Z c)->(∀u m H',Ij (k+1) Z.S Z.K dk en sm w' n= .ok (u,m)->m<=n->ES Z 0 H' U en u m->Q .HZ H')->
   let X:=fg (fW P w) P w K mg base N Gz (af st) f Gp A outer s H Z.E
   let D:eG:= { nx:=fun _ H'=>Q .HZ H',rt:=Q }
   EX X Z.a Z.E->Bd X (a7 st) D (L2.start N [.ref Z.x,v]) H):bS P w K mg base (fW P w) (kl+1) f fd ["expansion",y] (kC a lv ok):=by
 rw[017];obtain @⟨Z,B,U,en,w',n,k,dk,sm,v,rfl,ha,rfl,hd,ho,R,sa,wt,Z4,er,q⟩:=h;obtain⟨k,rfl⟩: ∃k',k=k'+1:=#[k-1,by lia];exact Jc Gp A outer s H Z B U en w' n k dk sm v Q hr ha hd ho R sa wt (by lia) er q (by subst ha;exact#[T,XC,KX,hr.mono hk,aA])
section
variable {X:Cx}{Z:Zx}{j n m k:E1}{B H H':Hp}{U:EA EC}{en:GL}{w:FU}{σ:L2.St}{Q:VK}{x:ET ER}{u:V}{o e0 e1 e2:G8}{to t0 t1 t2:TE}{z:Int}{p2 p4 p5 p7 p8:Pos}{jj:E1}{R':FR->Hp->Prop}
theorem XU {e:G8}(q:Pe X e σ H fun v H1=>R' (decide (v= .HZ)) H1):Pt X (.Compare e [.Is] [.Constant .none jj p7] p8) σ H R':=cR ZR (q.mono fun v H1 q=>nZ #[rfl,_,rfl,q]) (aM _)
theorem XX (Y:EX X Z.a Z.E) (R:cQ Z j B H U en w n) (ho:PE X o to) (hvo: ∀Q:VK,Q (.ref Z.c.wk) H->to σ H Q) (h1:PE X e1 t1) (v1: ∀Q:VK,Q u H->t1 σ H Q) (h2:PE X e2 t2) (v2: ∀Q:VK,Q u H->t2 σ H Q) (h0:PE X e0 t0) (v0: ∀Q:VK,Q (.int z) H->t0 σ H Q) (ex:jn Z.a Z.M Z.N x u) (ws: ∀e,x=some e->WS U Z.F0 e) (hk:3*n+1<=k) (er: ∀c,W4 k Z.S en z x n= .error c->Qe Z c) (q: ∀y m H',W4 k Z.S en z x n= .ok (y,m)->m<=n->cQ Z j B H' U en w m->Q (.int y) H')
  (JS:Fb [e2] X.env=[(false,eval e2 X.env)]) (ht:eval (.Call (.Attribute o "work_out" p2) [e2] [] p4) X.env=(do
   let ov<-eval o X.env
   standAt p2.atName
   let (f,first)<-holding [ov] (Ku ov "work_out" (do return (<-OV o X.env).getD true))
   MR p4 f first (Ie p4 (Fb [e2] X.env)) (Kj p4 [074]))):Pe X (.IfExp (.Compare e1 [.Is] [.Constant .none jj p7] p8) e0 (.Call (.Attribute o "work_out" p2) [e2] [] p4) p5) σ H Q:=by
 refine#[_,dB je h0 dn,XU #[_,h1,v1 _ ?_]];cases x with
 |none=>
  obtain rfl:u= .HZ:=ex;exact cf (v0 _ (q z n H rfl (E6 n) R))
 |some e=>
  obtain⟨⟨p,dx,rfl,_⟩,_⟩:=xf ex;exact bK (nW Y R ho hvo h2 v2 ex (ws e rfl) hk er (fun y m H' h hm _ R'=>q y m H' h (J6 hm) R') JS ht)
end
section
variable {kl lv:E1}
theorem ag8 (T:aU K mg a) (XC:XW K a) (KX:lW K a) (Sy:9<=kl):T.Y4.O P w base (kl+1) (kC a lv fun s=> ∃b z t p top q,s= .step b z t p top q):=by
 refine vL T XC KX Sy T.Y4.F Xv fun Gp A outer s H Z B U en w' n k dk sm v Q hr ha hd ho R sa wt hk er q=>?_;intro X D Y;obtain⟨b,ez,et,ep,top,eq,rfl⟩:=ho;have T:=Y.T;unfold aZ at sa;obtain⟨u1,u2,u3,u4,u5,i,a1,a2,a3,a4,a5⟩:=sa;unfold WT at wt;obtain⟨w1,w2,w3,w4,w5⟩:=wt;generalize Gm:Ij (k+1) Z.S Z.K dk en (.step b ez et ep top eq) w' n=res at er q;unfold Ij at Gm;dsimp only at Gm;have nd:=Xv.nd;refine aN 2 nd (cn (bv 0 (R.wk T ?_)) rfl);refine gk (k:=k) 3 2 Y nd R rfl rfl i T.LJ T.OB rfl a1 w1 (by lia) [012] fun z n1 H h l1 _ R=>?_;rw[06];refine gk (k:=k) 4 2 Y nd R rfl rfl i T.LJ T.M3 rfl a2 w2 (by lia) [012] fun t n2 H h l2 _ R=>?_;rw[06];refine gk (k:=k) 5 2 Y nd R rfl rfl i T.LJ T.NW rfl a3 w3 (by lia) [012] fun lo n3 H h l3 _ R=>?_;rw[06];refine aN 6 nd (XX (k:=k) Y R (pv 2) [05] [010] (fun _ q=>i.fld R.same T.LJ T.K0 rfl q) [010] (fun _ q=>i.fld R.same T.LJ T.K0 rfl q) (pv 5) [05] a4 w4 (by lia) [012] (fun hi n4 H h l4 R=>?_) rfl (eE rfl rfl));rw[06];refine gk (k:=k) 7 2 Y nd R rfl rfl i T.LJ T.Nl rfl a5 w5 (by lia) [012] fun am n5 H h l5 _ R=>?_;rw[06];refine aN 8 nd (cn (bv 0 (R.mk2 T ?_)) rfl);have bad:(Il Z.K z&&(E8 t 0 ((Z.K.quarters:Int)-1)&&(E8 lo Z.K.lo Z.K.hi&&(E8 hi lo Z.K.hi&&(decide (hi-lo<=OQ)&&E8 am 0 Ir)))))=false->Qe Z (-14):=fun h=>er (-14) (by rw[<-Gm];unfold VQ;rw[EL h]);subst ha;refine oK Y R (pv 3) aj (b7 cW (ak (pv 8) rfl) aj) [05] [05] (fun _ q=>R.WO T T.Lm rfl #[_,_,rfl,rfl,q]) (fun h=>bad (by unfold Il;rw[h];rfl)) fun c1=>?_;refine oK Y R (pv 4) aj (b7 cW (ak (pv 8) rfl) aj) [05] [05] (fun _ q=>R.WO T T.Kp rfl #[_,_,rfl,rfl,q]) (fun h=>bad (by simp only[h,Iy,HY])) fun c2=>?_;refine oK Y R (pv 5) (ak (pv 8) rfl) (ak (pv 8) rfl) [05] (fun _ q=>R.WO T T.Mr rfl q) (fun _ q=>R.WO T T.KD rfl q) (fun h=>bad (by simp only[h,Iy,HY])) fun c3=>?_;refine oK Y R (pv 6) (pv 5) (ak (pv 8) rfl) [05] [05] (fun _ q=>R.WO T T.KD rfl q) (fun h=>bad (by simp only[h,Iy,HY])) fun c4=>?_;refine oK Y R (b7 cW (pv 6) (pv 5)) aj (aR (by rfl) T.QC) (fun _ q=>#[_,_,rfl,rfl,q]) [05] [05] (fun h=>bad ?_) fun c5=>?_
 ·unfold E8 at h c4
  rw[Gh,FH] at c4;rw[Gb (show(0:Int)<=hi-lo by lia),IK] at h;rw[show decide (hi-lo<=OQ)=false from h];simp only[Iy,HY]
 refine oK Y R (pv 7) aj (aR (by rfl) T.N3) [05] [05] [05] (fun h=>bad (by rw[show E8 am 0 Ir=false from h];simp only[HY])) fun c6=>?_;have good: ¬(Il Z.K z&&(E8 t 0 ((Z.K.quarters:Int)-1)&&(E8 lo Z.K.lo Z.K.hi&&(E8 hi lo Z.K.hi&&(decide (hi-lo<=OQ)&&E8 am 0 Ir)))))=false:=fun h=>by
  have c5:decide (hi-lo<=OQ)=true:=(Gh _ _▸c5:_/\_).2
  have c6:E8 am 0 Ir=true:=c6
  have c1:Il Z.K z=true:=c1;rw[c1,c2,c3,c4,c5,c6] at h;cases h
 unfold VQ at Gm;rw[EI good] at Gm;refine cr (cR ga (bv 7 (cM #[_,_,rfl,rfl,_,rfl,dD (fun h=>?_) fun h=>?_])))
 ·rw[EI (by lia)] at Gm
  refine aN 9 nd #[_,aL (ag7 T) [017] (by rfl) T.d_K.c aY (aa [010] ag),i.fld R.same T.LJ T.OA rfl #[b,rfl,?_]];refine fh (bI (aO (bv 0 (aO (aaK (qM T) [017] (aO (cn (bv 0 (R.dk T (aO (bv 3 (aO (bv 4 (aO (bv 9 (aO (bv 5 (aO (bv 6 (aO (bv 7 (cD #[rfl,fun x dx H2 hx sm e=>cD ?_]))))))))))))))) rfl)))))) (ag6 T Y.C) [017] T.d_T.c aA) rfl;have z0:0<=z:=by unfold E8 at c1;rw[Gh,FH] at c1;exact c1.1
  have t0:0<=t:=by unfold E8 at c2;rw[Gh,FH] at c2;exact c2.1
  unfold Wd T9 at Gm;refine .mk (o:= .step dk z.toNat t.toNat b lo hi am) rfl rfl rfl (R.new sm hx e) #[x,dx,rfl,fun z=>z,?_] (fun h=>er (-15) (by rw[<-Gm,EL h])) fun h B' H' R'=>q _ n5 H' (by rw[<-Gm,EI (E1.not_le.mpr h)]) (by lia) #[R'.less (Fs _)];rw[ae,hd,LW z0,LW t0]
  rfl
 ·have am0:am=0:=by unfold E8 at c6;rw[Gh,FH] at c6;lia
  rw[EL am0] at Gm;exact cc (q _ n5 H Gm.symm (by lia) #[R.less (Fs _)])
end
section
variable {H:Hp}{te:TE}
theorem Du (i n:E1) (hp:Pc (model X.prog X.w) X.A X.env X.xe) (nd:X.N.Nodup) (hm:X.mg "range"=none) (he:PE X e te) (hv: ∀R:VK,R (.int n) H->te σ H R) (hn:n<=1000) (I:E1->L2.St->Hp->Prop) (h0:I 0 σ H) (hs: ∀j σ H,j<n->I j σ H->Bd X A (D.lp X ss (I (j+1))) (σ.set i (some (.int j))) H) (hd: ∀σ H,I n σ H->Bd X ss D σ H)
  (hg:Gl X "range":=by rfl) (hc:X.calm=true:=by rfl) (h:Sl X i y:=by exact#[rfl,Gx rfl,rfl]) (JS:Fb [e] X.env=[[000]]:=by rfl) (hf: ∀x,Lk (.Call (.Name "range" p1) [e] [] p2) X.env x=pure x:=by intro _;rfl):Bd X (.For (.Name y p0) (.Call (.Name "range" p1) [e] [] p2) A [] p5::ss) D σ H:=
 aQ (uG hp hc (xV hg hm (aa he ag JS) JS) (ki nd h.hi h.hx (.inl h.hf)) io hf) (hv _ #[n,rfl,by lia,by lia,yy (n:=n) I h0 (fun j σ H lt z=>by rw[Int.zero_add];exact hs j σ H lt z) hd])
end
structure LB (Z:Zx) (B:Hp) (L:EJ) (l:EA Int):Prop where
 h:B L=some (.lst (l.map V.int))
 n:Z.N L=none
 o:L≠Z.ol
inductive ag9 (a:bf) (vs:EA V) (H:Hp) (Q:VK) (E:XK):Prop
 |mk {Z:Zx}{B:Hp}{U:EA EC}{en:GL}{w:FU}{n k:E1}{x:EC}{e:ER}{v:V}(_:vs=[.ref Z.x,v]) (_:Z.a=a) (_:Z.E=E) (_:cQ Z 5 B H U en w n) (_:rT Z.a Z.M Z.N (x,e) v) (_:x∉U) (_:WS (x::U) Z.F0 e) (_:3*n+1<=k) (_: ∀c,Jm k Z.S en x e (IS Z.K.quarters) n= .error c->Qe Z c)
  (_: ∀l m B' H' L,Jm k Z.S en x e (IS Z.K.quarters) n= .ok (l,m)->m<=n->LB Z B' L l->cQ Z 0 B' H' U en w m->Q (.ref L) H'):ag9 a vs H Q E
theorem cQ.q4 {B H:Hp}{w:FU}(R:cQ Z j B H U en w n):Z.K.quarters<=4:=by
 obtain⟨_,_,_,_,eb,_⟩:=R;exact eb.q4
theorem DU {e:ER} :Jm k S en x e (t::l) n=(match LQ k S ((x,(t:Int))::en) e n with
  | .error c=> .error c
  | .ok (a,m)=>match Jm k S en x e l m with
   | .error c=> .error c
   | .ok (b,o)=> .ok (a::b,o)):=rfl
theorem alb (T:aU K mg a) (XC:XW K a) (KX:lW K a) (Sy:9<=kl):T.d_C.O P w base (kl+1) (ag9 a):=by
 refine fO T.d_C.F afY [03] [02];obtain @⟨Z,B,U,en,w',n,k,x,e,v,rfl,rfl,rfl,R,⟨u,i,ex⟩,nx,ws,hk,er,q⟩:=h;have nd:=afY.nd;have Y:EX (fg (fW P w) P w K mg base ["expansion","amounts","found","quarter"] "work_out_amounts" (af s_C) Z.a.f_C Gp A outer s H Z.E) Z.a Z.E:=#[T,XC,KX,hr.mono Sy,aA];refine aN 2 nd (mf fun L hL=>?_);obtain⟨hB,hN,hO⟩:=R.fresh hL;obtain⟨nn,kk,os,eb⟩: ∃nn kk os,EB Z B w' nn kk os:=by obtain⟨_,_,_,_,eb,_⟩:=R;exact#[_,_,_,eb]
 have R1:=R.new (o:= .lst []) (b3 hL) hL ae
 have q4:=R.q4;refine Du 3 Z.K.quarters Iq nd T.WG (ak [001] rfl) (fun _ q=>R1.mk2 T (R1.WO T T.Kp rfl q)) (by lia) (fun t σ H=> ∃(done:EA Int) (m:E1) (y:ET V),σ=[some (.ref Z.x),some v,some (.ref L),y]/\done.length=t/\m<=n/\cQ Z (5-t) (aF B L (.lst (done.map V.int))) H U en w' m/\(∀c,Jm k Z.S en x e ((IS Z.K.quarters).drop t) m= .error c->Qe Z c)/\ ∀l m',Jm k Z.S en x e ((IS Z.K.quarters).drop t) m= .ok (l,m')->Jm k Z.S en x e (IS Z.K.quarters) n= .ok (done++l,m')) #[[],n,none,rfl,rfl,E6 n,R1,er,fun _ _ h=>h] ?_ ?_
 ·rintro t σ H3 lt ⟨done,m,y,rfl,dl,lm,R3,er3,q3⟩
  have dr:(IS Z.K.quarters).drop t=t::(IS Z.K.quarters).drop (t+1):=by rw[GO (by rw[U7];exact lt),EA.getElem_range]
  rw[dr] at er3 q3;rw[DU] at er3 q3;rw[show 5-t=(4-t)+1 by lia] at R3;refine bw (uk Y R3 [001] (fun _ q=>R3.wk T q) [010] (fun _ q=>i.fld R3.same T.N6 T.M4 rfl q) (bv 3 #[_,(t:Int),w',m,rfl,R3,nx,by unfold dC JR;lia,fun H4 R4=>?_]) rfl rfl rfl);have hl4:H4 L=some (.lst (done.map V.int)):=by obtain⟨_,W,_,_,_,_⟩:=R4;exact W.O.same _ _ ae
  refine iM (pv 2) [05] hl4 (nW (k:=k) Y R4 [001] (fun _ q=>R4.wk T q) [010] (fun _ q=>i.fld R4.same T.N6 T.Nm rfl q) ex ws (by lia) (fun c h=>er3 c (by rw[h])) (fun z m5 H5 h hm _ R5=>?_) rfl rfl);rw[h] at er3 q3;dsimp only at er3 q3;have hl5:H5 L=some (.lst (done.map V.int)):=by obtain⟨_,W,_,_,_,_⟩:=R5;exact W.O.same _ _ ae
  refine#[_,hl5,by rw[EY,dl,Ht];lia,gb #[done++[z],m5,_,rfl,by rw[Fc,dl];rfl,by lia,?_,fun c h=>er3 c (by rw[h]),fun l m' h=>?_]]
  ·have R6:=(R5.unset nx R).chg (o':= .lst ((done++[z]).map V.int)) hB hN eb
   rw[GG] at R6 ⊢;rw[show 5-(t+1)=4-t by lia];exact R6
  ·rw[q3 (z::l) m' (by rw[h]),F4]
   rfl
 ·rintro σ H3 ⟨done,m,y,rfl,dl,lm,R3,er3,q3⟩
  rw[JE (by rw[U7];exact E6 _)] at q3;have:=q3 [] m rfl;rw[Gw] at this;exact aK (bv 2 (q done m _ H3 L this lm #[ae,hN,hO] (R3.less (Fs _))))
def xY (w:FU):ET EC->Except Int (ET E1)
 |none=> .ok none
 |some u=>match w.names.find? fun a=>a.1 == u with
  |some a=> .ok (some a.2)
  |none=> .error (-16)
def Ai (w:FU) (o:IF):ET EC->FU
 |some x=> { w with orders:=w.orders++[o],names:=(x,w.orders.length)::w.names }
 |none=> { w with orders:=w.orders++[o] }
inductive XY (a:bf) (vs:EA V) (H:Hp) (Q:VK) (E:XK):Prop
 |mk {Z:Zx}{j:E1}{B:Hp}{U:EA EC}{en:GL}{w:FU}{n:E1}{fs:EA (Fh×V)}{un:ET EC}{v:V}(_:vs=[.ref Z.x,v]) (_:Z.a=a) (_:Z.E=E) (_:cQ Z j B H U en w n) (_:bC Z.M Z.N Z.a.Jb fs v) (_:fs.lookup ("under":Fh)=some (h9 un)) (_: ∀c,xY w un= .error c->Qe Z c) (_: ∀p,xY w un= .ok p->Q (ag2 p) H):XY a vs H Q E
theorem aha (T:aU K mg a) (XC:XW K a):T.Y6.O P w base 4 (XY a):=by
 refine fO T.Y6.F afZ [03] [02];obtain @⟨Z,j,B,U,en,w',n,fs,un,v,rfl,rfl,rfl,R,i,hl,er,q⟩:=h;have fl: ∀ {Q:VK},Q (h9 un) H->dL K "under" Q v H:=fun q=>i.fld R.same T.J9 T.Nq hl q
 have sm:=R.same;rw[025]
 have nm: ∀ {Q:VK},Q (.ref _) H->dL K "named" Q (.ref Z.x) H:=fun q=>#[Z.x,_,Z.dx,_,_,rfl,W.O.same _ _ eb.hx,T.G9,T.Jz,rfl,q]
 refine bF (XU (cn (bv 1 (fl ?_)) rfl));cases un with
 |none=>exact cf (aK #[_,dJ cH aj,_,rfl,q none rfl])
 |some u=>
  have g:=gv.k (k:=nk u) (W.O.same _ _ eb.hn);rw[eb.pn] at g;refine bK (bF #[_,fB (iU (dj hr) [010] [001]),fl (nm #[_,_,rfl,g,_,rfl,?_])]);cases hf:w'.names.find? fun a=>a.1 == u with
  |none=>exact cf (aQ (eT eu XC.Od (kI T XC) hr (by rfl) T.Pp T.YR.c.b) #[Fs _,_,#[rfl,rfl],er (-16) (by unfold xY;dsimp only;rw[hf]) H sm _ (.tail _ (.tail _ (.tail _ (.tail _ (.tail _ (.head _))))))])
  |some p=>
   rw[hf] at g;exact bK (aK #[_,jO (dj hr) [001] [010] [002],nm (fl #[_,_,rfl,g,q (some p.2) (by unfold xY;dsimp only;rw[hf])])])
inductive AO (a:bf) (vs:EA V) (H:Hp) (Q:VK) (E:XK):Prop
 |mk {Z:Zx}{j:E1}{B:Hp}{U:EA EC}{en:GL}{w:FU}{n:E1}{v:V}{nm:ET EC}{o:IF}(_:vs=[.ref Z.x,h9 nm,v]) (_:Z.a=a) (_:Z.E=E) (_:cQ Z j B H U en w n) (_:rD Z.a Z.ol B v o) (_:48<=w.orders.length->Qe Z (-15)) (_:w.orders.length<48-> ∀B' H',cQ Z j B' H' U en (Ai w o nm) n->Q .HZ H'):AO a vs H Q E
theorem ahb (T:aU K mg a) (XC:XW K a):T.Y7.O P w base 5 (AO a):=by
 refine fO T.Y7.F af0 [03] [02];obtain @⟨Z,j,B,U,en,w',n,v,nm,o,rfl,rfl,rfl,R,ho,h1,h2⟩:=h;refine bw (bI (aO (bv 0 (aO (bv 2 (cD (.mk rfl rfl rfl R ho h1 fun lt B' H' R'=>?_)))))) (ag6 T XC) hr T.d_T.c aA);have h2:=h2 lt;have nl:w'.names.length<=w'.orders.length:=by obtain⟨_,_,_,_,eb,_⟩:=R;exact eb.nl
 refine cr (cR Ep (bv 1 (nZ [013])));cases nm with
 |none=>exact bK (cc (h2 _ _ R'))
 |some x=>
  obtain @⟨r,b,ff,d,s,nd,kk,os,FO,W,A,gs,eb,hj⟩:=R';have QP:=W.O.same _ _ eb.ho;have kl:kk.length<=48:=Fj eb.ln (Fj eb.nl eb.le);have ne: ∀ {b:EJ}{u:HO},B' b=some u->(∀k,u≠ .dK k)->aF B' nd (.dK (dy kk (nk x) (.int w'.orders.length))) b=some u:=fun e n=>by rw[ac (pZ e eb.hn (n _))];exact e
  have ni: ∀C d fs,fs.length=7->B' nd≠some (.ins C d fs):=fun _ _ _ _ z=>by rw[eb.hn] at z;cases z
  have eb':EB Z (aF B' nd (.dK (dy kk (nk x) (.int w'.orders.length)))) (Ai w' o (some x)) nd (dy kk (nk x) (.int w'.orders.length)) os:=by
   refine#[fun b u e=>by rw[ac fun z=>by rw[z,eb.nx.2.2] at e;cases e];exact eb.sm b u e,ne eb.hx nofun,ne eb.hm nofun,ne eb.ho nofun,ae,eb.nx,dZ eb.po fun v x z=>mH z ni (.inr fun _ z=>by rw[eb.hn] at z;cases z),eb.le,fun u=>?_,Fj (cB _ _ _) (G7 eb.ln),?_,eb.q4]
   ·rw[gK]
    show _=ET.map _ (EA.find? _ ((x,w'.orders.length)::w'.names))
    rw[GF];by_cases hu:x=u
    ·rw[EL (by rw[hu]),show(x == u)=true from beq_iff_eq.mpr hu];rfl
    ·rw[EI fun z=>hu (eI (Ja z)).symm,show(x == u)=false from beq_eq_false_iff_ne.mpr hu];exact eb.pn u
   ·show _+1<=(w'.orders++[o]).length;rw[Fc];exact G7 nl
  refine cf (eF (gW (dj hr) [001] (pv 1) (b7 cW (bD bL (by rfl) T.JP Hl (aa [001] ag)) aj) rfl) #[Z.x,_,Z.dx,_,_,rfl,W.O.same _ _ eb.hx,T.G9,T.J2,rfl,Z.ol,_,rfl, .inl (cP.of QP),_,_,rfl,rfl,Z.x,_,Z.dx,_,_,rfl,W.O.same _ _ eb.hx,T.G9,T.Jz,rfl,nd,_,rfl,rQ.k (k:=nk x) (W.O.same _ _ eb.hn) (by rw[Ht];lia),?_]);have e:(os.length:Int)-1=w'.orders.length:=by rw[bM eb.po];show((w'.orders++[o]).length:Int)-1=_;rw[Fc];show((w'.orders.length+1:E1):Int)-1=_;lia
  rw[e];exact h2 _ _ (cQ.put FO W A gs hj eb.hn eb.nx.2.2 eb')
theorem nE (h:E8 x 0 hi=true):0<=x:=by unfold E8 at h;rw[Gh,FH] at h;exact h.1
theorem Ao {w:FU}(h:(Il M z&&(E8 p M.lo M.hi&&(l.all (fun q=>E8 q 0 Ir)&&E8 g 0 9)))=false):Kl M d nm b z p l un g w= .error (-14):=by unfold Kl;rw[EL h]
theorem xH {w:FU}(h: ¬(Il M z&&(E8 p M.lo M.hi&&(l.all (fun q=>E8 q 0 Ir)&&E8 g 0 9)))=false) (h0:l.all (fun q=>q == 0)=true):Kl M d nm b z p l un g w= .ok w:=by unfold Kl;rw[EI h,EL h0]
theorem Dd {w:FU}(h: ¬(Il M z&&(E8 p M.lo M.hi&&(l.all (fun q=>E8 q 0 Ir)&&E8 g 0 9)))=false) (h0: ¬l.all (fun q=>q == 0)=true):
  Kl M d nm b z p l un g w=(match xY w un with
   | .error c=> .error c
   | .ok par=>if 48<=w.orders.length then .error (-15) else .ok (Ai w (.block d z.toNat b p g.toNat par l) nm)):=by
 unfold Kl xY;rw[EI h,EI h0];unfold Wd T9;cases un with
 |none=>
  dsimp only;split
  ·rename_i h;split at h<;>cases h;rename_i z;rw[EL z]
  ·rename_i h;split at h<;>cases h;rename_i z;rw[EI z];cases nm<;>rfl
 |some u=>
  dsimp only;cases w.names.find? fun a=>a.1 == u with
  |none=>rfl
  |some a=>
   dsimp only;split
   ·rename_i h;split at h<;>cases h;rename_i z;rw[EL z]
   ·rename_i h;split at h<;>cases h;rename_i z;rw[EI z];cases nm<;>rfl
theorem wQ: ∀ {l:EA Int},(∀q∈l,0<=q)->(0<l.sum ↔ ¬l.all (fun q=>q == 0)=true)/\0<=l.sum
 |[],_=>by simp
 |x::l,h=>by
  obtain⟨h1,h2⟩:=wQ fun q hq=>h q (EN _ hq);have hx:=h x EO;rw[Yr,MO,Gh,beq_iff_eq];refine#[#[fun z y=>h1.mp (by lia) y.2,fun z=>?_],by lia];by_cases y:x=0
  ·have:=h1.mpr fun w=>z #[y,w];lia
  ·lia
theorem ahc (T:aU K mg a) (XC:XW K a) (KX:lW K a) (Sy:10<=kl):T.Y5.O P w base (kl+1) (kC a lv fun s=> ∃nm b z p x q u g,s= .block nm b z p x q u g):=by
 refine vL T XC KX (KS Sy) T.Y5.F Xw fun Gp A outer s H Z B U en w' n k dk sm v Q hr ha hd ho R sa wt hk er q=>?_;intro X D Y;subst ha;obtain⟨nm,b,ez,ep,x,eq,un,eg,rfl⟩:=ho;unfold aZ at sa;obtain⟨u1,u2,u3,u4,i,a1,a2,a3,a4⟩:=sa;unfold WT at wt;obtain⟨nx,w1,w2,w3,w4⟩:=wt;generalize Gm:Ij (k+1) Z.S Z.K dk en (.block nm b ez ep x eq un eg) w' n=res at er q;unfold Ij at Gm;dsimp only at Gm;have nd:=Xw.nd;refine aN 2 nd (cn (bv 0 (R.wk T ?_)) rfl);refine gk (k:=k) 3 2 Y nd R rfl rfl i T.J9 T.NZ rfl a1 w1 (by lia) [012] fun z n1 H h l1 _ R=>?_;rw[06];refine gk (k:=k) 4 2 Y nd R rfl rfl i T.J9 T.Np rfl a2 w2 (by lia) [012] fun p n2 H h l2 _ R=>?_;rw[06];refine aN 5 nd (bI (aO (bv 0 (aO (cn (bv 1 (i.fld R.same T.J9 T.MH rfl (cD (.mk (k:=k) rfl rfl rfl R a3 nx w3 (by lia) [012] fun l n3 B H L h l3 hL R=>?_)))) rfl)))) (alb T XC KX (E6 9)) (hr.mono Sy) T.d_C.c aA);rw[06];refine aN 6 nd (XX (k:=k) Y R (pv 2) [05] [010] (fun _ q=>i.fld R.same T.J9 T.LS rfl q) [010] (fun _ q=>i.fld R.same T.J9 T.LS rfl q) aj [05] a4 w4 (by lia) [012] (fun g n4 H h l4 R=>?_) rfl (eE rfl rfl));rw[06];have bad:(Il Z.K z&&(E8 p Z.K.lo Z.K.hi&&(l.all (fun q=>E8 q 0 Ir)&&E8 g 0 9)))=false->Qe Z (-14):=fun h=>er (-14) (by rw[<-Gm,Ao h])
 refine oK Y R (pv 3) aj (b7 cW (ak [001] rfl) aj) [05] [05] (fun _ q=>R.mk2 T (R.WO T T.Lm rfl #[_,_,rfl,rfl,q])) (fun h=>bad (by unfold Il;rw[h];rfl)) fun c1=>?_;refine oK Y R (pv 4) (ak [001] rfl) (ak [001] rfl) [05] (fun _ q=>R.mk2 T (R.WO T T.Mr rfl q)) (fun _ q=>R.mk2 T (R.WO T T.KD rfl q)) (fun h=>bad (by rw[h,Iy,HY])) fun c2=>?_;have hL':H L=some (.lst (l.map V.int)):=by obtain⟨_,W,_,_,_,_⟩:=R;exact W.O.same _ _ hL.h
 refine jH 7 Iq nd (pv 5) [05] (fun j σ H'=>H'=H/\(∃y,σ=[some (.ref Z.x),some v,some (.ref Z.c.wk),some (.int z),some (.int p),some (.ref L),some (.int g),y,none,none])/\ ∀q∈l.take j,E8 q 0 Ir=true) #[rfl,#[_,rfl],by rw[EA.take_zero];exact nofun] (fun j σ H' _ h=>by rw[h.1];exact hL') ?_ ?_
 ·rintro j y σ H' hj ⟨rfl,⟨y',rfl⟩,ha⟩
  rw[FQ] at hj;obtain⟨c,hc,rfl⟩:=FG.mp hj;refine oK Y R (pv 7) aj (aR (by rfl) T.N3) [05] [05] [05] (fun h=>bad ?_) fun c3=>gb #[rfl,#[_,rfl],fun q hq=>?_]
  ·rw[show l.all (fun q=>E8 q 0 Ir)=false by
    rw[EA.all_eq_false];exact#[c,Gs hc,by rw[show E8 c 0 Ir=false from h];exact EE],Iy,HY,HY]
  ·rw[Mw,hc] at hq
   rcases Fp.mp hq with z|z
   ·exact ha q z
   ·rw[Fd.mp z];exact c3
 ·rintro σ H' ⟨rfl,⟨y',rfl⟩,ha⟩
  rw[EY,MX] at ha;refine oK Y R (pv 6) aj (aR (by rfl) T.Rf) [05] [05] [05] (fun h=>bad (by rw[h,HY,HY,HY])) fun c4=>?_;have al:l.all (fun q=>E8 q 0 Ir)=true:=Lf.mpr ha
  have good: ¬(Il Z.K z&&(E8 p Z.K.lo Z.K.hi&&(l.all (fun q=>E8 q 0 Ir)&&E8 g 0 9)))=false:=fun h=>by
   rw[show Il Z.K z=true from c1,c2,al,c4] at h;cases h
  obtain⟨sp,_⟩:=wQ (l:=l) fun q hq=>nE (ha q hq);refine cr (cR ga #[_,bD (Z0 rfl) (by rfl) T.aeE boot_sum (aa (pv 5) ag),L,l,rfl,cP.of hL',cM #[_,_,rfl,rfl,_,rfl,dD (fun h=>?_) fun h=>?_]])
  ·rw[Dd good (sp.mp h)] at Gm
   refine aN 8 nd (bI (aO (bv 0 (aO (bv 1 (cD (.mk rfl rfl rfl R i rfl [012] fun par h=>?_)))))) (aha T XC) [017] T.Y6.c aA);rw[06];refine aN 9 nd #[_,aL (ag7 T) [017] (by rfl) T.d_K.c aY (aa [010] ag),i.fld R.same T.J9 T.NY rfl #[b,rfl,?_]];refine fh (bI (aO (bv 0 (aO (cn (bv 1 (i.fld R.same T.J9 T.NX rfl ?_)) rfl)))) (ahb T XC) [017] T.Y7.c aA) rfl;refine aO (aaK (oZ T) [017] (aO (cn (bv 0 (R.dk T ?_)) rfl)));refine aO (bv 3 (aO (bv 9 (aO (bv 4 (aO (bv 6 (aO (bv 8 (aO (bv 5 (cD #[rfl,fun y dx H2 hy sm e=>cD ?_]))))))))))));have hB:=(R.fresh hy).1;refine .mk (nm:=nm) (o:= .block dk z.toNat b p g.toNat par l) rfl rfl rfl (R.new sm hy e) #[L,hL.o,#[y,dx,rfl,fun z=>z,?_],?_] (fun h=>er (-15) (by rw[<-Gm,EL h])) fun h B' H' R'=>q _ n4 H' (by rw[<-Gm,EI (E1.not_le.mpr h)]) (by lia) #[R'.less (Fs _)]
   ·rw[ae,hd,LW (nE c1),LW (nE c4)]
    rfl
   ·rw[ac (ai hL.h hB)];exact hL.h
  ·rw[xH good (Classical.byContradiction fun z=>h (sp.mpr z))] at Gm
   exact cc (q _ n4 H' Gm.symm (by lia) #[R.less (Fs _)])
section
open Vbemac (ev runOne)
def uB (k:E1) (S:Hr) (M:JI) (d:E1) (v:GL) (s:Gv) (w:FU) (n:E1):Vbemac.Res (GL×FU):=match s with
 | .bind x e=>(match ev k S v e n with
  | .error c=> .error c
  | .ok (a,m)=> .ok (((x,a)::v,w),m))
 |s=>(match runOne k S M d v s w n with
  | .error c=> .error c
  | .ok (u,m)=> .ok ((v,u),m))
theorem AG {w:FU} :Jh (k+1) S M d v (.cons s r) w (n+1)=(match uB k S M d v s w n with
  | .error c=> .error c
  | .ok (x,m)=>Jh k S M d x.1 r x.2 m):=by
 conv=>lhs;unfold Jh
 unfold uB;cases s<;>dsimp only
 ·cases ev k S v _ n<;>rfl
 all_goals cases runOne k S M d v _ w n<;>rfl
inductive D7 (S:Hr) (U:EA EC) (en:GL):EA EC->GL->Prop
 |refl:D7 S U en U en
 |cons {U':EA EC}{Te:GL}{x:EC}{z:Int}(_:D7 S U en U' Te) (_:x∉U') (_: ∀y,dC (Qq Te y)) (_: ∀y∈S.consts.map (·.1),y∈U'):D7 S U en (x::U') ((x,z)::Te)
theorem cQ.back {Z:Zx}{U:EA EC}{en:GL}{U':EA EC}{Te:GL}(x:D7 Z.S U en U' Te): ∀ {j n:E1}{B H:Hp}{w:FU},cQ Z j B H U' Te w n->cQ Z j B H U en w n:=by
 induction x with
 |refl=>exact fun R=>R
 |cons _ ny bg lo ih=>
  intro j n B H w R;obtain⟨FO,W,A,gs,eb,hj⟩:=R;exact ih #[FO,W,A.unset ny bg fun _=>lo,gs,eb,hj]
theorem cQ.ext {B H:Hp}{w:FU}(E:D7 Z.S U en U' Te) (R:cQ Z j B H U' Te w n) (ny:x∉U'):D7 Z.S U en (x::U') ((x,z)::Te):=by
 obtain⟨_,_,A,_,_,_⟩:=R;exact .cons E ny A.big (A.low rfl)
inductive BX (K:EF) (a:bf) (vs:EA V) (H:Hp) (Q:VK) (E:XK):Prop
 |mk {Z:Zx}{j:E1}{B:Hp}{U:EA EC}{en:GL}{w:FU}{n k:E1}{C:EJ}{x:EC}{e:ER}{u v:V}(_:vs=[.ref Z.c.wk,v]) (_:Z.a=a) (_:Z.E=E) (_:cQ Z (j+1) B H U en w n) (_:bC Z.M Z.N C [("name", .str (sb x)),("exp",u)] v) (_:gA K C) (_:ao K C "name") (_:ao K C "exp") (_:au Z.a Z.M Z.N e u) (_:x∉U) (_:WS U Z.F0 e) (_:3*n+1<=k) (_: ∀c,ev k Z.S en e n= .error c->Qe Z c) (_: ∀y m H',ev k Z.S en e n= .ok (y,m)->m<n->dC y->cQ Z j B H' (x::U) ((x,y)::en) w m->Q .HZ H'):BX K a vs H Q E
theorem ahd (T:aU K mg a) (XC:XW K a) (KX:lW K a) (Sy:9<=kl):T.d_x.O P w base (kl+1) (BX K a):=by
 refine fO T.d_x.F aks [03] [02];obtain @⟨Z,j,B,U,en,w',n,k,C,x,e,u,v,rfl,rfl,rfl,R,i,cl,n1,n2,ex,nx,ws,hk,er,q⟩:=h;have Y:EX (fg (fW P w) P w K mg base ["worker","given"] "give_value" (af s_x) Z.a.f_x Gp A outer s H Z.E) Z.a Z.E:=#[T,XC,KX,hr.mono Sy,aA];exact fh (uk Y R (pv 0) [05] [010] (fun _ q=>i.fld R.same cl n1 rfl q) (nW (k:=k) Y R (pv 0) [05] [010] (fun _ q=>i.fld R.same cl n2 rfl q) ex ws hk er (fun y m H' h hm hb R'=>#[B,y,w',m,rfl,R',nx,hb,fun H2 R2=>q y m H2 h hm hb R2]) rfl (eE rfl rfl)) rfl rfl (eE rfl rfl)) rfl
inductive tM (a:bf) (lv:E1) (vs:EA V) (H:Hp) (Q:VK) (E:XK):Prop
 |mk {Z:Zx}{j:E1}{B:Hp}{U:EA EC}{en:GL}{w:FU}{n k dk:E1}{l:Ip}{v:V}(_:vs=[.ref Z.x,v]) (_:Z.a=a) (_:Z.E=E) (_:Z.d=dk) (_:cQ Z j B H U en w n) (_:nJ Z.a Z.M Z.N l v) (_:zq lv U Z.F0 l) (_:3*n+2<=k) (_: ∀c,Jh k Z.S Z.K dk en l w n= .error c->Qe Z c) (_: ∀u m B' H',Jh k Z.S Z.K dk en l w n= .ok (u,m)->m<=n->cQ Z 0 B' H' U en u m->Q .HZ H'):tM a lv vs H Q E
inductive Cj (a:bf) (lv:E1) (vs:EA V) (H:Hp) (Q:VK) (E:XK):Prop
 |mk {Z:Zx}{B:Hp}{U:EA EC}{en:GL}{w:FU}{n k dk:E1}{st:Gv}{v:V}(_:vs=[.ref Z.x,v]) (_:Z.a=a) (_:Z.E=E) (_:Z.d=dk) (_:cQ Z 5 B H U en w n) (_:aZ Z.a Z.M Z.N st v) (_:WT lv U Z.F0 st) (_:3*n+4<=k) (_: ∀c,uB k Z.S Z.K dk en st w n= .error c->Qe Z c) (_: ∀x m B' H',uB k Z.S Z.K dk en st w n= .ok (x,m)->m<=n->cQ Z 0 B' H' (bnd U st) x.1 x.2 m->(∀ {U0 en0},D7 Z.S U0 en0 U en->D7 Z.S U0 en0 (bnd U st) x.1)->Q .HZ H'):Cj a lv vs H Q E
theorem alc (T:aU K mg a) (XC:XW K a) (KX:lW K a) (Sy:9<=kl) (G:T.Wi.O P w base kl (tM a (lv-1))):T.d_B.O P w base (kl+1) (kC a lv fun s=> ∃c x y,s= .cond c x y):=by
 refine vL T XC KX Sy T.d_B.F afW fun Gp A outer s H Z B U en w' n k dk sm v Q hr ha hd ho R sa wt hk er q=>?_;intro X D Y;subst ha;obtain⟨ec,l1,l2,rfl⟩:=ho;unfold aZ at sa;obtain⟨u,q1,us,q2,vs,i,ex,h1,h2,h3,h4⟩:=sa;unfold WT at wt;obtain⟨w1,lv1,w2,w3⟩:=wt;generalize Gm:runOne (k+1) Z.S Z.K dk en (.cond ec l1 l2) w' n=res at er q;unfold runOne at Gm;dsimp only at Gm;refine cr (cR o8 (nW (k:=k) Y R [001] (fun _ q=>R.wk T q) [010] (fun _ q=>i.fld R.same T.RN T.M0 rfl q) ex w1 (by lia) [012] (fun z m H h hm _ R=>cM [013]) rfl rfl));rw[06];rw[cj,<-decide_not];refine dD (fun hz=>?_) fun hz=>?_
 ·rw[EL hz] at Gm
  exact fh (bI (aO (bv 0 (aO (cn (bv 1 (i.fld R.same T.RN T.MG rfl (cD (.mk (k:=k) rfl rfl rfl hd R #[us,h1,h2] w2 (by lia) (fun c h=>er c (Gm.symm.trans h)) fun u m' B' H' h O9 R'=>q u m' H' (Gm.symm.trans h) (by lia) #[R'])))) rfl)))) G hr T.Wi.c aA) rfl
 ·rw[EI hz] at Gm
  exact fh (bI (aO (bv 0 (aO (cn (bv 1 (i.fld R.same T.RN T.KR rfl (cD (.mk (k:=k) rfl rfl rfl hd R #[vs,h3,h4] w3 (by lia) (fun c h=>er c (Gm.symm.trans h)) fun u m' B' H' h O9 R'=>q u m' H' (Gm.symm.trans h) (by lia) #[R'])))) rfl)))) G hr T.Wi.c aA) rfl
end
def stx:Gv->E1
 | .bind .. =>7
 | .loop .. =>8
 | .cond .. =>9
 | .step .. =>10
 | .block .. =>11
theorem AN {a:bf}{M:EJ->Prop}{H:Hp}(h:aZ a M H s v):Nd1 a M H (stx s) v:=by
 cases s<;>unfold aZ at h
 ·obtain⟨_,h,_⟩:=h;exact#[h,rfl]
 ·obtain⟨_,_,_,_,h,_⟩:=h;exact#[h,rfl]
 ·obtain⟨_,_,_,_,_,h,_⟩:=h;exact#[h,rfl]
 ·obtain⟨_,_,_,_,_,h,_⟩:=h;exact#[h,rfl]
 ·obtain⟨_,_,_,_,h,_⟩:=h;exact#[h,rfl]
theorem ald (T:aU K mg a) (XC:XW K a) (KX:lW K a) (Sy:9<=kl) (G:T.Wi.O P w base kl (tM a (lv-1))):T.d_y.O P w base (kl+1) (kC a lv fun s=> ∃x lo hi l,s= .loop x lo hi l):=by
 refine vL T XC KX Sy T.d_y.F aai fun Gp A outer s H Z B U en w' n k dk sm v Q hr ha hd ho R sa wt hk er q=>?_;intro X D Y;subst ha;obtain⟨x,lo,hi,l,rfl⟩:=ho;unfold aZ at sa;obtain⟨u1,u2,ql,us,i,a1,a2,h1,h2⟩:=sa;unfold WT at wt;obtain⟨nx,w1,w2,lv1,w3⟩:=wt;generalize Gm:Ij (k+1) Z.S Z.K dk en (.loop x lo hi l) w' n=res at er q;unfold Ij at Gm;dsimp only at Gm;have nd:=aai.nd;refine aN 2 nd (cn (bv 0 (R.wk T ?_)) rfl);refine gk (k:=k) 3 2 Y nd R rfl rfl i T.O4 T.Oz rfl a1 w1 (by lia) [012] fun t n1 H h l1 bt R=>?_;rw[06];refine gk (k:=k) 4 2 Y nd R rfl rfl i T.O4 T.Py rfl a2 w2 (by lia) [012] fun last n2 H h l2 bl R=>?_;rw[06];clear h;refine fT Iq (fun i σ H=> ∃(t:Int) (B:Hp) (w'':FU) (k:E1),σ=[some (.ref Z.x),some v,some (.ref Z.c.wk),some (.int t),some (.int last)]/\ -JR<=t/\i<=n/\3*i+3<=k/\cQ Z 0 B H U en w'' i/\VR k Z.S Z.K dk en x t last l w'' i=res) n2 #[t,B,w',k,rfl,bt.1,by lia,by lia,R.less (Fs _),Gm] ?_;rintro m σ H3 ⟨t,B,w3',k,rfl,bt,hm,hk,R,Gm⟩;obtain⟨k,rfl⟩: ∃k',k=k'+1:=#[k-1,by lia];unfold VR at Gm;refine cR eP (bv 3 (bv 4 #[_,_,rfl,rfl,_,rfl,dD [030] fun z=>?_]))
 ·rw[EI (by lia)] at Gm
  refine bw (vH Y R (pv 2) [05] [01] (fun h=>er (-13) (by rw[<-Gm,h])) (fun m' H' h R'=>?_) (eE rfl rfl));subst h;dsimp only at Gm;refine bw (uk (j:=4) Y R' (pv 2) [05] [010] (fun _ q=>i.fld R'.same T.O4 T.Px rfl q) (bv 3 #[_,t,w3',m',rfl,R',nx,#[bt,Int.le_trans z bl.2],fun H2 R2=>?_]) rfl rfl (eE rfl rfl));refine bw (bI (aO (bv 0 (aO (cn (bv 1 (i.fld R2.same T.O4 T.Mf rfl (cD (.mk (k:=k) rfl rfl rfl hd R2 #[us,h1,h2] w3 (by lia) [012] fun u m2 B2 H4 h hm2 R4=>?_)))) rfl)))) G hr T.Wi.c aA);rw[06];exact aQ (kG (i:=3) nd rfl (Gx rfl) aj kT) #[_,rfl,_,_,rfl,rfl,cc #[m2,by lia,t+1,B2,u,k,rfl,by lia,by lia,by lia,R4.unset nx R,Gm]]
 ·rw[EL (by lia)] at Gm
  exact cc (q w3' m H3 Gm.symm hm #[R])
theorem BI {w:FU}(h:stx s≠7):uB k S M d v s w n=(match Ij k S M d v s w n with
  | .error c=> .error c
  | .ok (u,m)=> .ok ((v,u),m))/\ ∀U,bnd U s=U:=by
 cases s<;>first|exact E7 rfl h|exact#[rfl,fun _=>rfl]
theorem ahe (T:aU K mg a) (XC:XW K a) (KX:lW K a) (Sy:11<=kl)
  (G1:T.d_y.O P w base kl (kC a lv fun s=> ∃x lo hi l,s= .loop x lo hi l))
  (G2:T.d_B.O P w base kl (kC a lv fun s=> ∃c x y,s= .cond c x y)):
  T.d_S.O P w base (kl+1) (Cj a lv):=by
 refine okL T.d_S.F akt [03] [02];intro X D;obtain @⟨Z,B,U,en,w',n,k,dk,st,v,rfl,rfl,rfl,hd,R,sa,wt,hk,er,q⟩:=h;have nd:=AN sa;have one: ∀ {ok:Gv->Prop},ok st->stx st≠7->kC Z.a lv ok [.ref Z.x,v] H (fun _ H'=>Q .HZ H') Z.E:=fun ho h7=>by
  obtain⟨e1,e2⟩:=BI (k:=k) (S:=Z.S) (M:=Z.K) (d:=dk) (v:=en) (w:=w') (n:=n) h7;refine .mk (k:=k) rfl rfl rfl hd ho R sa wt hk (fun c h=>er c (by rw[e1,h])) fun u m H' h hm ⟨R'⟩=>q (en,u) m _ H' (by rw[e1,h]) hm (by rw[e2];exact R') fun x=>by rw[e2];exact x
 have is: ∀ {cl:Fh}{C:EJ}{A' Tb:EA Stmt}{p1 p2 p3 p4 p5:Pos}(j:E1),mg cl=some (.ref C)->(zk Z.a)[j]?=some C->Gl X cl->(cl == [003])=false->(stx st=j->Bd X A' D [some (.ref Z.x),some v] H)->(stx st≠j->Bd X Tb D [some (.ref Z.x),some v] H)->Bd X [.If (.Call (.Name "isinstance" p1) [.Name "statement" p2, .Name cl p3] [] p4) A' Tb p5] D [some (.ref Z.x),some v] H:=fun j hm hj hg hx yes no=>cr (ua KX T.LK nd R.same hj hm (pv 1) [05] (dD yes no) (by rfl) hg hx)
 refine is 7 T.SS rfl rfl [01] [030] fun z7=>?_
 ·cases st<;>first|cases z|skip
  rename_i x e;unfold aZ at sa;obtain⟨u,i,ex⟩:=sa;unfold WT at wt;refine fh (bI (aO (cn (bv 0 (R.wk T (aO (bv 1 (cD (.mk (k:=k) (j:=4) rfl rfl rfl R i T.Q4 T.Nk T.P8 ex wt.1 wt.2 (by lia) (fun c h=>er c (by unfold uB;dsimp only;rw[h])) fun y m H' h hm hb R'=>?_)))))) rfl)) (ahd T XC KX (E6 9)) [017] T.d_x.c aA) rfl;exact q ((x,y)::en,w') m _ H' (by unfold uB;dsimp only;rw[h]) (by lia) (R'.less (Fs _)) fun X=>cQ.ext X R wt.1
 refine is 8 T.Vl rfl rfl [01] [030] fun z8=>?_
 ·exact fh (bI (aO (bv 0 (aO (bv 1 (cD (one (by cases st<;>first|exact#[_,_,_,_,rfl]|cases z) z7)))))) G1 hr T.d_y.c aA) rfl
 refine is 9 T.Xa rfl rfl [01] [030] fun z9=>?_
 ·exact fh (bI (aO (bv 0 (aO (bv 1 (cD (one (by cases st<;>first|exact#[_,_,_,rfl]|cases z) z7)))))) G2 hr T.d_B.c aA) rfl
 refine is 10 T.TC rfl rfl [01] [030] fun z10=>?_
 ·exact fh (bI (aO (bv 0 (aO (bv 1 (cD (one (by cases st<;>first|exact#[_,_,_,_,_,_,rfl]|cases z) z7)))))) (ag8 T XC KX (E6 9)) [017] T.Y4.c aA) rfl
 exact fh (bI (aO (bv 0 (aO (bv 1 (cD (one (by cases st<;>first|exact#[_,_,_,_,_,_,_,_,rfl]|exact E7 rfl z7|exact E7 rfl z8|exact E7 rfl z9|exact E7 rfl z10) z7)))))) (ahc T XC KX (E6 10)) (hr.mono Sy) T.Y5.c aA) rfl
theorem ahf (T:aU K mg a) (XC:XW K a) (KX:lW K a) (Sy:9<=kl) (G:T.d_S.O P w base kl (Cj a lv)):
  T.Wi.O P w base (kl+1) (tM a lv):=by
 refine okL T.Wi.F afV [03] [02];intro X D;obtain @⟨Z,j,B,U,en,w',n,k,dk,l,v,rfl,rfl,rfl,hd,R,⟨us,⟨L,rfl,_,hL⟩,sa⟩,wt,hk,er,q⟩:=h;have Y:EX X Z.a Z.E:=#[T,XC,KX,hr.mono Sy,aA];generalize Gm:Jh k Z.S Z.K dk en l w' n=res at er q;refine jH 2 Iq afV.nd (pv 1) [05] (fun i σ H=> ∃(U':EA EC) (Te:GL) (B:Hp) (w'':FU) (n' k':E1) (r:Ip) (y:ET V),σ=[some (.ref Z.x),some (.ref L),y]/\D7 Z.S U en U' Te/\cQ Z 0 B H U' Te w'' n'/\bB Z.a Z.M Z.N r (us.drop i)/\zq lv U' Z.F0 r/\3*n'+2<=k'/\n'<=n/\Jh k' Z.S Z.K dk Te r w'' n'=res) #[U,en,B,w',n,k,l,_,rfl, .refl,R.less (Fs _),sa,wt,hk,E6 n,Gm] (fun i σ H _ ⟨_,_,_,_,_,_,_,_,_,_,R,_⟩=>R.same _ _ hL) ?_ ?_
 ·rintro i v σ H2 hi ⟨U',Te,B,w2,n2,k2,r,y,rfl,xt,R,sa,wt,hk,hn,Gm⟩
  obtain⟨lt,hv⟩:=FF.mp hi;rw[GO lt,hv] at sa;cases r with
  |nil=>unfold bB at sa;cases sa
  |cons st r=>
  unfold bB at sa;obtain⟨u,vs,e,s1,s2⟩:=sa;cases e;unfold zq at wt;obtain⟨k,rfl⟩: ∃k',k2=k'+1:=#[k2-1,by lia];refine bw (vH Y R [001] (fun _ q=>R.wk T q) [01] (fun h=>er (-13) (by rw[<-Gm,h];unfold Jh;rfl)) (fun m' H' h R'=>?_) rfl);subst h;rw[AG] at Gm;refine bw (bI (aO (bv 0 (aO (bv 2 (cD (.mk (k:=k) rfl rfl rfl hd R' s1 wt.1 (by lia) [012] fun x m B' H' h hm R2 xt'=>?_)))))) G hr T.d_S.c aA);rw[h] at Gm;exact gb #[_,x.1,B',x.2,m,k,r,_,rfl,xt' xt,R2,s2,wt.2,by lia,by lia,Gm]
 ·rintro σ H2 ⟨U',Te,B,w2,n2,k2,r,y,rfl,xt,R,sa,wt,hk,hn,Gm⟩
  rw[JE (E6 _)] at sa;cases r with
  |cons st r=>unfold bB at sa;obtain⟨_,_,e,_⟩:=sa;cases e
  |nil=>
  obtain⟨k,rfl⟩: ∃k',k2=k'+1:=#[k2-1,by lia];unfold Jh at Gm;exact cc (q w2 n2 B H2 Gm.symm hn (R.back xt))
theorem CJ (T:aU K mg a) (XC:XW K a) (KX:lW K a): ∀lv,T.Wi.O P w base (13+3*lv) (tM a lv)
 |0=>ahf T XC KX (by decide) (ahe T XC KX (E6 11)
   (fO T.d_y.F aai (fun vs H Q E h=>by obtain⟨rfl,_⟩:=h;rfl) fun Gp A outer s H vs Q E hr h=>by
    obtain⟨_,_,_,_,⟨x,lo,hi,l,rfl⟩,_,_,wt,_⟩:=h;unfold WT at wt;exact E7 wt.2.2.2.1 [01])
   (fO T.d_B.F afW (fun vs H Q E h=>by obtain⟨rfl,_⟩:=h;rfl) fun Gp A outer s H vs Q E hr h=>by
    obtain⟨_,_,_,_,⟨c,x,y,rfl⟩,_,_,wt,_⟩:=h;unfold WT at wt;exact E7 wt.2.1 [01]))
 |lv+1=>by
  have G:=CJ T XC KX lv
  have:=ahf T XC KX (by lia) (ahe T XC KX (by lia) (ald (lv:=lv+1) T XC KX (by lia) G) (alc (lv:=lv+1) T XC KX (by lia) G));exact this.mono (by lia)
section
open Vbemac (ev runAll DOWN)
def Bi (M:JI) (t:GK) (d:E1) (S:Hr) (l:EA IF) (n:E1):Vbemac.Res (E1×Hr×EA IF):=match t with
 | .const x e=>(match n with
  |0=> .error (-13)
  |n+1=>match ev DOWN S S.consts e n with
   | .error c=> .error c
   | .ok (a,m)=> .ok ((d,{ S with consts:=(x,a)::S.consts },l),m))
 | .func x ps e=> .ok ((d,{ S with funs:=(x,ps,e)::S.funs },l),n)
 | .desk _ b=>match runAll DOWN S M d S.consts b ⟨l,[]⟩ n with
  | .error c=> .error c
  | .ok (w,m)=> .ok ((d+1,S,w.orders),m)
theorem yr {d n:E1} :Mn M (t::r) d S l n=(match Bi M t d S l n with
  | .error c=> .error c
  | .ok (x,m)=>Mn M r x.1 x.2.1 x.2.2 m):=by
 conv=>lhs;unfold Mn
 unfold Bi;cases t with
 |const x e=>
  cases n with
  |zero=>rfl
  |succ n=>dsimp only;cases ev DOWN S S.consts e n<;>rfl
 |func x ps e=>rfl
 |desk x b=>dsimp only;cases runAll DOWN S M d S.consts b #[l,[]] n<;>rfl
theorem ahg {s:fo} :look [s] x=s x:=by
 show(match s x with|some a=>some a|none=>s x)=s x
 cases s x<;>rfl
abbrev Zx.to (Z:Zx) (S:Hr) (F:EA (EC×E1)) (d:Int):Zx:= { Z with S:=S,F0:=F,d:=d }
theorem yI {Z:Zx}{j n:E1}{B H:Hp}{U:EA EC}{w:FU}(R:cQ Z j B H (x::U) ((x,y)::Z.S.consts) w n) (lo: ∀z∈Z.S.consts.map (·.1),z∈U):cQ (Z.to { Z.S with consts:=(x,y)::Z.S.consts } Z.F0 Z.d) j B H (x::U) ((x,y)::Z.S.consts) w n:=by
 rw[005];have sub: ∀z∈(((x,y)::Z.S.consts).map fun a:EC×Int=>a.1),z∈x::U:=fun z hz=>by
  rcases EW.mp hz with h|h
  ·rw[h];exact EO
  ·exact EN _ (lo z h)
 refine#[#[fun f p hf=>?_,A.big],W,#[A.val,fun z hz=>?_,fun _=>sub,A.big],gs,#[eb.sm,eb.hx,eb.hm,eb.ho,eb.hn,eb.nx,eb.po,eb.le,eb.pn,eb.ln,eb.nl,eb.q4],hj]
 ·rcases FO.all f p hf with⟨g,h1,h2,⟨Kg,Fg,h3,h4,h5⟩,h6,h7⟩|h
  ·exact .inl #[g,h1,h2,#[Kg,Fg,h3,fun z hz=>EN _ (h4 z hz),h5],h6,h7]
  ·exact .inr h
 ·have:=A.val z (sub z hz)
  rw[ahg] at this;exact this
theorem gF {α:Type}{F:EA (EC×α)}{x f:EC}{y:α} :(((x,y)::F).find? fun h=>h.1 == f)=if x=f then some (x,y) else F.find? fun h=>h.1 == f:=by
 rw[GF];by_cases h:x=f
 ·rw[EL h,show((x,y).1 == f)=true from beq_iff_eq.mpr h]
 ·rw[EI h,show((x,y).1 == f)=false from beq_eq_false_iff_ne.mpr h]
theorem zc {S:Hr}{F:EA (EC×E1)}{x:EC}{ps:EA EC}{e:ER}{U:EA EC}(FO:gm S F) (nx: ∀g∈F,g.1≠x) (nd:ps.Nodup) (l6:ps.length<=6) (ws:WS (ps++U) F e) (vc: ∀z∈U,z∈S.consts.map (·.1)):gm { S with funs:=(x,ps,e)::S.funs } ((x,ps.length)::F):=by
 have sub:Sub F ((x,ps.length)::F):=fun f p h=>by
  rw[gF,EI fun z=>nx p (J3 h) (by have:=Qp h;rw[z];exact beq_iff_eq.mp this)];exact h
 refine#[fun f p hf=>?_,FO.agQ];rw[gF] at hf;by_cases h:x=f
 ·rw[EL h] at hf
  cases hf;exact .inl #[(x,ps,e),by show EA.find? _ ((x,ps,e)::S.funs)=_;rw[gF,EL h],rfl,#[U,F,ws,vc,sub],nd,l6]
 ·rw[EI h] at hf
  have e1:(((x,ps,e)::S.funs).find? fun h=>h.1 == f)=S.funs.find? fun h=>h.1 == f:=by rw[gF,EI h]
  rcases FO.all f p hf with⟨g,h1,h2,⟨Kg,Fg,h3,h4,h5⟩,h6,h7⟩|⟨h1,h2⟩
  ·exact .inl #[g,e1.trans h1,h2,#[Kg,Fg,h3,h4,fun f p h=>sub f p (h5 f p h)],h6,h7]
  ·exact .inr #[e1.trans h1,h2]
section
variable {B H:Hp}{w:FU}
theorem EB.ahh {nd UW:EJ}{kk kk':EA (a0×V)}{os:EA V}{w':FU}{d':Int}(eb:EB Z B w nd kk os) (hn:aF B Z.x (.ins Z.a.FV Z.dx (xF Z.m Z.c.wk Z.ol d' UW)) UW=some (.dK kk')) (hN:Z.N UW=none) (ho:w'.orders=w.orders) (pn: ∀u,bN kk' (nk u)=(w'.names.find? fun a=>a.1 == u).map fun a=>V.int (a.2:E1)) (ln:kk'.length<=w'.names.length) (nl:w'.names.length<=w'.orders.length):EB (Z.to Z.S Z.F0 d') (aF B Z.x (.ins Z.a.FV Z.dx (xF Z.m Z.c.wk Z.ol d' UW))) w' UW kk' os:=by
 have ne: ∀ {b:EJ}{u:HO},B b=some u->(∀C d fs,fs.length=5->u≠ .ins C d fs)->aF B Z.x (.ins Z.a.FV Z.dx (xF Z.m Z.c.wk Z.ol d' UW)) b=some u:=fun e n=>by rw[ac (pZ e eb.hx (n _ _ _ rfl))];exact e
 have n7: ∀C d fs,fs.length=7->B Z.x≠some (.ins C d fs):=fun C d fs hl z=>by
  rw[eb.hx] at z;have:=FN NP (HO.ins.inj (E5 z)).2.2;rw[hl] at this;cases this
 refine#[fun b u e=>by rw[ac fun z=>by rw[z,eb.nx.1] at e;cases e];exact eb.sm b u e,ae,ne eb.hm fun C d fs hl z=>?_,ne eb.ho nofun,hn,#[eb.nx.1,eb.nx.2.1,hN],by rw[ho];exact dZ eb.po fun v x z=>mH z n7 (.inr fun _ z=>by rw[eb.hx] at z;cases z),by rw[ho];exact eb.le,pn,ln,nl,eb.q4]
 ·have:=FN NP (HO.ins.inj z).2.2
  rw[hl] at this;cases this
theorem cQ.desk (R:cQ Z j B H U en w n): ∃nd,H Z.x=some (.ins Z.a.FV Z.dx (xF Z.m Z.c.wk Z.ol Z.d nd))/\ ∀d',cQ (Z.to Z.S Z.F0 d') j (aF B Z.x (.ins Z.a.FV Z.dx (xF Z.m Z.c.wk Z.ol d' nd))) (aF H Z.x (.ins Z.a.FV Z.dx (xF Z.m Z.c.wk Z.ol d' nd))) U en w n:=by
 rw[005];refine#[nd,W.O.same _ _ eb.hx,fun d'=>cQ.put (Z:=Z.to Z.S Z.F0 d') FO W A gs hj eb.hx eb.nx.1 (eb.ahh (by rw[ac (pZ eb.hn eb.hx nofun)];exact eb.hn) eb.nx.2.2 rfl eb.pn eb.ln eb.nl)]
theorem cQ.reset (R:cQ Z j B H U en w n) (h:H p=none): ∃nd,aF H p (.dK []) Z.x=some (.ins Z.a.FV Z.dx (xF Z.m Z.c.wk Z.ol Z.d nd))/\ ∃B',cQ Z j B' (aF (aF H p (.dK [])) Z.x (.ins Z.a.FV Z.dx (xF Z.m Z.c.wk Z.ol Z.d p))) U en #[w.orders,[]] n:=by
 obtain⟨hB,hN,_⟩:=R.fresh h;have R:=R.new (o:= .dK []) (b3 h) h ae;rw[005];exact#[nd,W.O.same _ _ eb.hx,_,cQ.put FO W A gs hj eb.hx eb.nx.1 (eb.ahh (Z:=Z) (d':=Z.d) (w':=#[w.orders,[]]) (kk':=[]) (by rw[ac (pZ ae eb.hx nofun),ae]) hN rfl (fun _=>rfl) (Fs _) (Fs _))]
end
def tpx:GK->E1
 | .const .. =>12
 | .func .. =>13
 | .desk .. =>14
theorem Ed {a:bf}{M:EJ->Prop}{H:Hp} : ∀ {t:GK}{v:V},fi a M H t v->Nd1 a M H (tpx t) v
 | .const ..,_,⟨_,h,_⟩=>#[h,rfl]
 | .func ..,_,⟨_,_,h,_⟩=>#[h,rfl]
 | .desk ..,_,⟨_,_,h,_⟩=>#[h,rfl]
inductive TS (Z:Zx) (H:Hp) (U:EA EC) (l:EA IF) (n d:E1) (r:IG):Prop
 |mk (B:Hp) (nm:EA (EC×E1)) (_:cQ Z 0 B H U Z.S.consts ⟨l,nm⟩ n) (_: ∀z∈U,z∈Z.S.consts.map (·.1)) (_:Z.d+1=d) (_:Z.S.funs.length<=Z.F0.length) (_:wS U Z.F0 r):TS Z H U l n d r
inductive XZ (a:bf) (vs:EA V) (H:Hp) (Q:VK) (E:XK):Prop
 |mk {Z:Zx}{U:EA EC}{l:EA IF}{n d:E1}{t:GK}{r:IG}{v:V}(_:vs=[.ref Z.x,v]) (_:Z.a=a) (_:Z.E=E) (_:TS Z H U l n d (t::r)) (_:n<=10000) (_:fi Z.a Z.M Z.N t v) (_: ∀c,Bi Z.K t d Z.S l n= .error c->Qe Z c) (_: ∀x m H' U' F',Bi Z.K t d Z.S l n= .ok (x,m)->m<=n->TS (Z.to x.2.1 F' ((x.1:Int)-1)) H' U' x.2.2 m x.1 r->Q .HZ H'):XZ a vs H Q E
theorem ahi (T:aU K mg a) (XC:XW K a) (KX:lW K a):T.Y2.O P w base 32 (XZ a):=by
 refine okL T.Y2.F afU [03] [02];intro X D;obtain @⟨Z,U,l,n,d,t,r,v,rfl,rfl,rfl,⟨B,nm,R,vc,hd,fl,wt⟩,hn,ta,er,q⟩:=h;have Y:EX X Z.a Z.E:=#[T,XC,KX,hr.mono [01],aA];have nd:=Ed ta;have is: ∀ {cl:Fh}{C:EJ}{A' Tb:EA Stmt}{p1 p2 p3 p4 p5:Pos}(j:E1),mg cl=some (.ref C)->(zk Z.a)[j]?=some C->Gl X cl->(cl == [003])=false->(tpx t=j->Bd X A' D [some (.ref Z.x),some v] H)->(tpx t≠j->Bd X Tb D [some (.ref Z.x),some v] H)->Bd X [.If (.Call (.Name "isinstance" p1) [.Name "top" p2, .Name cl p3] [] p4) A' Tb p5] D [some (.ref Z.x),some v] H:=fun j hm hj hg hx yes no=>cr (ua KX T.LK nd R.same hj hm (pv 1) [05] (dD yes no) (by rfl) hg hx)
 generalize Gm:Bi Z.K t d Z.S l n=res at er q;refine is 12 T.RK rfl rfl [01] [030] fun z12=>?_
 ·cases t<;>first|cases z|skip
  rename_i x e;obtain⟨u,i,ex⟩:=ta;unfold wS at wt;obtain⟨nx,ws,wr⟩:=wt;unfold Bi at Gm;dsimp only at Gm;refine bw (vH Y R [001] (fun _ q=>R.wk T q) [01] (fun h=>er (-13) (by rw[<-Gm,h])) (fun m H1 h R1=>?_) rfl);subst h;dsimp only at Gm;refine fh (bI (aO (cn (bv 0 (R1.wk T (aO (bv 1 (cD (.mk (k:=DOWN) (j:=4) rfl rfl rfl R1 i T.P9 T.N0 T.OC ex nx ws (by show 3*m+1<=34000;lia) [012] fun y m' H' h hm hb R'=>?_)))))) rfl)) (ahd T XC KX (E6 9)) [07] T.d_x.c aA) rfl;rw[h] at Gm;have lo: ∀z∈Z.S.consts.map (·.1),z∈U:=by obtain⟨_,_,A,_,_,_⟩:=R;exact A.low rfl
  have e1:((d:Int)-1)=Z.d:=by lia
  refine q (d,_,l) m' H' (x::U) Z.F0 Gm.symm (by lia) #[B,nm,?_,fun z hz=>?_,?_,fl,wr]
  ·show cQ (Z.to _ Z.F0 ((d:Int)-1)) 0 B H' _ _ _ m'
   rw[e1];exact(yI R' lo).less (Fs _)
  ·rcases EW.mp hz with h|h
   ·rw[h];exact EO
   ·exact EN _ (vc z h)
  ·show(d:Int)-1+1=d;lia
 refine is 13 T.Vn rfl rfl [01] [030] fun z13=>?_
 ·cases t<;>first|cases z|skip
  rename_i x ps e;have ta':=ta;obtain⟨ql,u,i,_⟩:=ta;unfold wS at wt;obtain⟨f8,nx,UW,l6,ws,wr⟩:=wt;unfold Bi at Gm;have wk: ∀ {Q:VK},Q (.ref Z.c.wk) H->dL K "worker" Q (.ref Z.x) H:=fun q=>R.wk (X:=X) T q
  have sm:=R.same;obtain @⟨r',b,ff,sd,sco,nn,kk,os,FO,W,A,gs,eb,hj⟩:=R
  have e1:((d:Int)-1)=Z.d:=by lia
  refine eF (gW (dj hr) (ak [001] rfl) [010] (pv 1) rfl) (wk (W.fld T T.JZ rfl (i.fld sm T.Qa T.Pz rfl #[Z.c.fa,_,rfl,rQ.k (k:=nk x) (W.O.get 3 rfl) (by rw[Ht];have:=W.fn.1;lia),?_])));refine q (d,_,l) n _ U ((x,ps.length)::Z.F0) Gm.symm (E6 n) #[B,nm,?_,vc,?_,G7 fl,wr]
  ·show cQ (Z.to _ _ ((d:Int)-1)) 0 B _ _ _ _ n
   rw[e1];refine#[zc FO nx UW l6 ws vc,#[W.O.put (L1:=[_,_,_]),#[Fj (cB _ _ _) (G7 W.fn.1),fun f=>?_],W.sq, .nil,W.bn],#[A.val,A.bot,A.low,A.big],gs,#[eb.sm,eb.hx,eb.hm,eb.ho,eb.hn,eb.nx,eb.po,eb.le,eb.pn,eb.ln,eb.nl,eb.q4],hj];rw[gF,gK];by_cases hf:x=f
   ·rw[EL hf,EL (by rw[hf])]
    exact#[v,rfl,fi.Hj (fun b o e m=>#[m,eb.sm b o e]) _ ta']
   ·rw[EI hf,EI fun z=>hf (eI (Ja z)).symm]
    exact W.fn.2 f
  ·show(d:Int)-1+1=d;lia
 ·cases t<;>first|exact E7 rfl z12|exact E7 rfl z13|skip
  rename_i x b;obtain⟨ql,us,i,h1,h2⟩:=ta;unfold wS at wt;unfold Bi at Gm;dsimp only at Gm;refine is 14 T.TF rfl rfl [01] (fun _=>?_) fun z=>E7 rfl z;obtain⟨nn,hx,R1⟩:=R.desk;have R1:=R1 d;refine aQ (gG (pv 0) aj nB) #[Z.x,_,Z.dx,_,_,rfl,hx,T.G9,T.KG,rfl,_,_,rfl,rfl,Z.dx,_,hx,(by show 5<1000;decide),?_];rw[hd];refine aQ [083] fun UW Xj=>?_;obtain⟨nn',hx',B',R2⟩:=R1.reset Xj;refine#[Z.x,_,Z.dx,_,rfl,hx',T.G9,T.Jz,(by show 5<1000;decide),?_];refine fh (bI (aO (bv 0 (aO (cn (bv 1 (i.fld R2.same T.Q5 T.LU rfl (cD (.mk (Z:=Z.to Z.S Z.F0 d) (k:=DOWN) rfl rfl rfl rfl R2 #[us,h1,h2] wt.1 (by show 3*n+2<=34000;lia) [012] fun u m B2 H2 h hm R3=>?_)))) rfl)))) (CJ T XC KX 6) hr T.Wi.c aA) rfl;rw[h] at Gm;refine q (d+1,Z.S,u.orders) m H2 U Z.F0 Gm.symm hm #[B2,u.names,?_,vc,?_,fl,wt.2]
  ·show cQ (Z.to _ _ (((d+1:E1):Int)-1)) 0 B2 _ _ _ _ m
   rw[show(((d+1:E1):Int)-1)=d by lia];exact R3
  ·show((d+1:E1):Int)-1+1=_;lia
end
section
variable {B N H H':Hp}
theorem Ow.Tf (O:Ow B (c::L) H) (h:H p=none):Ow B (c::(p,o)::L) (aF H p o):=
 (O.adds (N:=[(p,o)]) (b3 h) (fun x hx=>by rw[Fd.mp hx];exact#[h,ae]) (FI.mpr #[nofun, .nil])).perm (.swap _ _ _)
theorem Ow.toB (O:Ow B (c::L) H):Ow (aF B c.1 c.2) L H:=by
 have h0:=O.at_ c EO;obtain⟨n1,n2⟩:=FI.mp O.nd;refine#[fun b u e=>?_,fun x hx=>#[(O.at_ x (EN _ hx)).1,?_],n2]
 ·by_cases hb:b=c.1
  ·rw[hb,ae] at e;rw[hb,<-e];exact h0.1
  ·rw[ac hb] at e;exact O.same b u e
 ·rw[ac fun z=>n1 (by show c.1∈_;rw[<-z];exact Kc (f:=fun x:k9=>x.1) hx)]
  exact(O.at_ x (EN _ hx)).2
end
abbrev wk0 (a:bf) (c:pi) (sd:EJ):EA k9:=wkL a c 10000 (.int 0) [] [(sd,[])] []
inductive X0 (a:bf) (vs:EA V) (H:Hp) (Q:VK) (_E:XK):Prop
 |mk {N:Hp}{L:EA k9}{p dx:EJ}(_:vs=[.ref p]) (_:Ow N ((p, .ins a.GY dx [])::L) H) (_: ∀fa sd sl tl H',Ow N (wk0 a ⟨p,dx,fa,sl,tl,0⟩ sd++L) H'->Q .HZ H'):X0 a vs H Q _E
theorem oh (T:aU K mg a):T.YW.U P w mg base 1 (X0 a):=by
 refine T.YW.F.ok afJ [03] [02];obtain @⟨N,L,p,dx,rfl,O,q⟩:=h;refine aQ (b5 (pv 0) aj rfl) #[p,_,dx,_,rfl,O.get 0 rfl,T.Hw,T.Kh,(by show 0<1000;decide),?_];have O:=O.put (L1:=[]) (o':= .ins a.GY dx (Hs "taken" (.int 0) []));refine aQ [083] fun fa hfa=>#[p,_,dx,_,rfl,(O.Tf (c:=(_,_)) hfa).get 0 rfl,T.Hw,T.JZ,(by show 1<1000;decide),?_];have O:=(O.Tf (c:=(_,_)) (o:= .dK []) hfa).put (L1:=[]) (o':= .ins a.GY dx (Hs "functions" (.ref fa) (Hs "taken" (.int 0) [])));refine aQ (b5 (pv 0) (iA (aa e9 ag)) rfl) fun sd hsd=>#[by show 1<=FE;decide,fun sl hsl=>?_];have O:=(O.Tf (c:=(_,_)) (o:= .dK []) hsd).Tf (c:=(_,_)) (o:= .lst [.ref sd]) hsl;refine#[p,_,dx,_,rfl,O.get 0 rfl,T.Hw,T.Jk,(by show 2<1000;decide),?_];have O:=O.put (L1:=[]) (o':= .ins a.GY dx (Hs "scopes" (.ref sl) (Hs "functions" (.ref fa) (Hs "taken" (.int 0) []))));refine aQ (b5 (pv 0) (iA ag) rfl) #[Fs _,fun tl htl=>?_];have O:=O.Tf (c:=(_,_)) (o:= .lst []) htl;refine#[p,_,dx,_,rfl,O.get 0 rfl,T.Hw,T.Ia,(by show 3<1000;decide),?_];have O:=O.put (L1:=[]) (o':= .ins a.GY dx (Hs "tasks" (.ref tl) (Hs "scopes" (.ref sl) (Hs "functions" (.ref fa) (Hs "taken" (.int 0) [])))));refine eF (b5 (pv 0) aj rfl) #[p,_,dx,_,rfl,O.get 0 rfl,T.Hw,T.K3,(by show 4<1000;decide),q fa sd sl tl _ ?_];have O:=O.put (L1:=[]) (o':= .ins a.GY dx (Hs "result" (.int 0) (Hs "tasks" (.ref tl) (Hs "scopes" (.ref sl) (Hs "functions" (.ref fa) (Hs "taken" (.int 0) []))))));exact O.perm (.cons _ (.cons _ (.cons _ (.swap _ _ _))))
inductive X2 (a:bf) (vs:EA V) (H:Hp) (Q:VK) (_E:XK):Prop
 |mk {N:Hp}{L:EA k9}{p dx m:EJ}(_:vs=[.ref p, .ref m]) (_:Ow N ((p, .ins a.FV dx [])::L) H) (_: ∀c sd ol nd H',Ow N ((p, .ins a.FV dx (xF m c.wk ol (-1) nd))::(nd, .dK [])::(ol, .lst [])::(wk0 a c sd++L)) H'->Q .HZ H'):X2 a vs H Q _E
theorem jW (T:aU K mg a):T.Y1.U P w mg base 3 (X2 a):=by
 refine T.Y1.F.ok afT [03] [02];obtain @⟨N,L,p,dx,m,rfl,O,q⟩:=h;refine aQ (b5 (pv 0) (pv 1) rfl) #[p,_,dx,_,rfl,O.get 0 rfl,T.G9,T.LF,(by show 0<1000;decide),?_];have O:=O.put (L1:=[]) (o':= .ins a.FV dx [073]);refine aQ (b5 (pv 0) (Bh T.Ul (oh T) hr (by rfl) T.Ug T.YW.c.b .nil aY) rfl) fun x dw hx hdw ne=>?_;have O:=O.adds (N:=[(x, .ins a.GY dw [])]) (H':=aF (aF (aF H p (.ins a.FV dx [073])) dw (.own x)) x (.ins a.GY dw [])) (fun b o e=>by rw[ac (ai e hx),ac (ai e hdw)];exact e) (fun y hy=>by rw[Fd.mp hy];exact#[hx,ae]) (FI.mpr #[nofun, .nil]);refine .mk rfl O fun fa sd sl tl H2 O=>#[rfl,?_];have O:=O.perm (VL (l₁:=wk0 a #[x,dw,fa,sl,tl,0] sd));refine#[p,_,dx,_,rfl,O.get 0 rfl,T.G9,T.J1,(by show 1<1000;decide),?_];have O:=O.put (L1:=[]) (o':= .ins a.FV dx (Hs "worker" (.ref x) [073]));refine aQ (b5 (pv 0) (iA ag) rfl) #[Fs _,fun ol hol=>?_];have O:=O.Tf (c:=(_,_)) (o:= .lst []) hol;refine#[p,_,dx,_,rfl,O.get 0 rfl,T.G9,T.J2,(by show 2<1000;decide),?_];have O:=O.put (L1:=[]) (o':= .ins a.FV dx (Hs "orders" (.ref ol) (Hs "worker" (.ref x) [073])));refine aQ (b5 (pv 0) (dJ cH aj) rfl) #[_,rfl,p,_,dx,_,rfl,O.get 0 rfl,T.G9,T.KG,(by show 3<1000;decide),?_];have O:=O.put (L1:=[]) (o':= .ins a.FV dx (Hs "desk" (.int (-1)) (Hs "orders" (.ref ol) (Hs "worker" (.ref x) [073]))));refine eF [083] fun nd CU=>?_;have O:=O.Tf (c:=(_,_)) (o:= .dK []) CU;refine#[p,_,dx,_,rfl,O.get 0 rfl,T.G9,T.Jz,(by show 4<1000;decide),q #[x,dw,fa,sl,tl,0] sd ol nd _ ?_];exact O.put (L1:=[]) (o':= .ins a.FV dx (Hs "named" (.ref nd) (Hs "desk" (.int (-1)) (Hs "orders" (.ref ol) (Hs "worker" (.ref x) [073])))))
theorem aaL:gm #[[],[]] KI:=#[fun f p h=> .inr #[rfl,h],fun x=>by unfold Qq;exact#[by show-JR<=0;decide,by show 0<=JR;decide]]
theorem DN:Ag #[[],[]] [] [] [fun _=>none]:=#[nofun,nofun,(fun _ x h=>by cases h),fun x=>by unfold Qq;exact#[by show-JR<=0;decide,by show 0<=JR;decide]]
def dk1:GK->E1
 | .desk .. =>1
 |_=>0
theorem Ei:IJ (t::r)=dk1 t+IJ r:=by
 unfold IJ;cases t with
 |desk x b=>show _+1=_;rw[J7];rfl
 |const x e=>exact(J8 _).symm
 |func x p e=>exact(J8 _).symm
theorem ahj (h:Bi M t d S l n= .ok (x,m)):x.1=d+dk1 t:=by
 unfold Bi at h;cases t with
 |func y p e=>cases h;rfl
 |const y e=>
  dsimp only at h;split at h
  ·cases h
  ·split at h
   ·cases h
   ·cases h;rfl
 |desk y b=>
  dsimp only at h;split at h
  ·cases h
  ·cases h;rfl
inductive zy (a:bf) (vs:EA V) (H:Hp) (Q:VK) (E:XK):Prop
 |mk {m dm l:EJ}{us:EA V}{ss:IG}{G:JI}(_:vs=[.ref m, .ref l]) (_:H m=some (.ins a.JB dm (mF G))) (_:G.quarters<=4) (_:H l=some (.lst us)) (_:Paired (fun s v=>fi a (fun p=>H p=none) H s v) ss us) (_:wS [] KI ss) (_: ∀c,LX G ss= .error c-> ∀H',a9 H H'->oM a E H' c) (_: ∀Z H' U o n,LX G ss= .ok (o,n)->Z.a=a->Z.N=H->TS Z H' U o n (IJ ss) []->Q (.ref Z.x) H'):zy a vs H Q E
theorem ale (T:aU K mg a) (XC:XW K a) (KX:lW K a):T.d_R.O P w base 33 (zy a):=by
 refine okL T.d_R.F aah [03] [02];intro X D;obtain @⟨m,dm,l,us,ss,G,rfl,hm,q4,hl,tl,wt,er,q⟩:=h;refine aQ (cG (i:=2) aah.nd rfl (.inl rfl) (g7 T.Q9 (jW T) [07] (by rfl) T.Q2 T.Y1.c.b .nil aY (aa (pv 0) ag))) fun x dx hx Ur ne=>?_;have O:Ow H [(x, .ins a.FV dx [])] (aF (aF H dx (.own x)) x (.ins a.FV dx [])):=#[fun b o e=>by rw[ac (ai e hx),ac (ai e Ur)];exact e,fun y hy=>by rw[Fd.mp hy];exact#[ae,hx],FI.mpr #[nofun, .nil]];refine .mk rfl O fun c sd ol nd H1 O=>#[rfl,?_];have nn: ∀ {c:k9},c∈_->H c.1=none:=fun h=>(O.at_ _ h).2
 have n1:=(O.at_ _ (EO)).2
 have n2:=(O.at_ _ (EN _ EO)).2
 have n3:=(O.at_ _ (EN _ (EN _ EO))).2
 have UW:=O.nd
 have O1:=O.toB.toB.toB;rw[Gw] at O1
 let Z:Zx:=#[a,E,x,dx,m,dm,ol,c,H,G,#[[],[]],KI,-1]
 have T0:TS Z H1 [] [] 10000 0 ss:=by
  obtain⟨m1,nd2⟩:=FI.mp UW;obtain⟨m2,_⟩:=FI.mp nd2;have x1:x≠nd:=fun z=>m1 (by show x∈_;rw[z];exact .head _);have x2:x≠ol:=fun z=>m1 (by show x∈_;rw[z];exact .tail _ (.head _));have x3:nd≠ol:=fun z=>m2 (by show nd∈_;rw[z];exact .head _);have sm:a9 H (aF (aF (aF H x (.ins a.FV dx (xF m c.wk ol (-1) nd))) nd (.dK [])) ol (.lst [])):=fun b o e=>by rw[ac (ai e n3),ac (ai e n2),ac (ai e n1)];exact e
  have eb:EB Z (aF (aF (aF H x (.ins a.FV dx (xF m c.wk ol (-1) nd))) nd (.dK [])) ol (.lst [])) ⟨[],[]⟩ nd [] []:=#[sm,by show aF _ _ _ x=_;rw[ac x2,ac x1,ae],sm _ _ hm,ae,by rw[ac x3,ae],#[n1,n3,n2], .nil,Fs _,fun _=>rfl,E6 _,E6 _,q4]
  refine#[_,[],#[aaL,#[O1,#[Fs _,fun f=>rfl], .cons #[fun _=>rfl,Fs 6] .nil, .nil,#[by decide,nofun,by show 1+10000<=10002;decide,by decide,by show 6+5*10000<=60000-0;decide,by show 60000-0<=60000;decide]],DN,fun s hs y z hz=>?_,eb,Fs _],nofun,rfl,Fs _,wt];rw[Fd.mp hs] at hz;cases hz
 generalize Gm:LX G ss=res at er q;refine jH (L:=l) (xs:=us) 3 Iq aah.nd (pv 1) [05] (fun j σ H'=> ∃y S F d U o n e,σ=[some (.ref m),some (.ref l),some (.ref x),y]/\TS (Z.to S F d) H' U o n e (ss.drop j)/\n<=10000/\e+IJ (ss.drop j)=IJ ss/\Mn G (ss.drop j) e S o n=res) #[_,_,_,_,_,_,_,_,rfl,T0,E6 _,J8 _,Gm] ?_ ?_ ?_
 ·rintro j σ H2 _ ⟨y,S,F,d,U,o,n,e,rfl,⟨B,nm,R,_⟩,_⟩
  exact R.same _ _ hl
 ·rintro j v σ H2 hv ⟨y,S,F,d,U,o,n,e,rfl,TS1,hn,he,ht⟩
  obtain⟨t,ht',at_⟩:=iX tl hv;have dr:ss.drop j=t::ss.drop (j+1):=(FF.mp ht').elim fun h z=>by rw[<-z];exact GO h
  rw[dr] at TS1 he ht;rw[yr] at ht;rw[Ei] at he;refine fh (bI (aO (bv 2 (aO (bv 3 (cD (.mk (Z:=Z.to S F d) rfl rfl rfl TS1 hn at_ (fun c h=>er c ?_) fun x' m' H3 U' F' h O9 TS2=>?_)))))) (ahi T XC KX) [07] T.Y2.c aA) rfl
  ·rw[<-ht]
   show(match Bi G t e S o n with| .error c=>_| .ok (x,m)=>_)=_
   rw[h]
  ·rw[h] at ht
   have:=ahj h;exact#[_,_,_,_,_,_,_,_,rfl,TS2,by lia,by lia,ht]
 ·rintro σ H2 ⟨y,S,F,d,U,o,n,e,rfl,TS1,hn,he,ht⟩
  have dr:ss.drop us.length=[]:=by rw[<-bM tl,PX]
  rw[dr] at TS1 he ht;have:e=IJ ss:=he;subst this;exact aK (bv 2 (q (Z.to S F d) H2 U o n ht.symm rfl rfl TS1))
end OS
namespace OS
open Vbemac
def W {α:Type}(p:P α) (t:L9) (Qo:α->L9->Prop) (Qe:E1->Pos->Prop):Prop:=match p t with
 | .ok (a,r)=>Qo a r
 | .error e=>Qe e.1 e.2
section
variable {α β:Type}{p:P α}{f:α->P β}{Qo Qo':α->L9->Prop}{Qe Qe':E1->Pos->Prop}{Ro:β->L9->Prop}
theorem yP {a:α}(e:p t= .ok (a,r)):W p t Qo Qe=Qo a r:=by unfold W;rw[e]
theorem iW (h:p t= .error e):W p t Qo Qe=Qe e.1 e.2:=by unfold W;rw[h]
theorem js:W (p>>=f) t Ro Qe=W p t (fun a r=>W (f a) r Ro Qe) Qe:=by
 have e:(p>>=f) t=(match p t with
  | .error x=> .error x
  | .ok (a,r)=>f a r):=by
  show(Fi p f) t=_
  unfold Fi;show(Except.bind (p t) _)=_;cases p t with
  |error x=>rfl
  |ok z=>rfl
 unfold W;rw[e];cases h:p t with
 |error x=>rfl
 |ok z=>rfl
theorem BW {a:α} :W (pure a:P α) t Qo Qe=Qo a t:=rfl
theorem aaM:W (fail n:P α) t Qo Qe=Qe (if peek t= .bad then 1 else n) (place t):=rfl
theorem W.mono (h:W p t Qo Qe) (ho: ∀a r,Qo a r->Qo' a r) (he: ∀n q,Qe n q->Qe' n q):W p t Qo' Qe':=by
 unfold W at h ⊢;cases e:p t with
 |error x=>rw[e] at h;exact he _ _ h
 |ok z=>rw[e] at h;exact ho _ _ h
end
def aI {α:Type}(p:P α):Prop:= ∀t,peek t= .bad->p t= .error (1,place t)
def gZ {α:Type}(p:P α):Prop:= ∀t,peek t= .bad->p t= .error (1,place t)\/ ∃a,p t= .ok (a,t)
theorem aI.ON {α:Type}{p:P α}(h:aI p):gZ p:=fun t e=> .inl (h t e)
section
variable {α β:Type}{p:P α}{f:α->P β}{Qo:α->L9->Prop}{Qe:E1->Pos->Prop}{Ro:β->L9->Prop}
theorem aI.bind (h:aI p):aI (p>>=f):=fun t e=>by
 show(Fi p f) t=_
 unfold Fi;rw[h t e]
 rfl
theorem gZ.bind (h:gZ p) (k: ∀a,gZ (f a)):gZ (p>>=f):=fun t e=>by
 show(Fi p f) t=_\/ ∃a,(Fi p f) t=_
 unfold Fi;rcases h t e with z|⟨a,z⟩
 ·rw[z];exact .inl rfl
 ·rw[z];exact k a t e
theorem gZ.strict (h:gZ p) (k: ∀a,aI (f a)):aI (p>>=f):=fun t e=>by
 show(Fi p f) t=_
 unfold Fi;rcases h t e with z|⟨a,z⟩
 ·rw[z];rfl
 ·rw[z];exact k a t e
theorem aI.K6 (h:aI p) (e:peek t= .bad) (w:W p t Qo Qe):Qe 1 (place t):=by
 rw[iW (h t e)] at w;exact w
end
theorem cq {t:L9}(e:peek t= .bad) (w:String):He t w=false:=by unfold He;rw[e];rfl
theorem cX {t:L9}(e:peek t= .bad) (w:String):Ll t w=false:=by unfold Ll;rw[e];rfl
theorem aG {α:Type}(n:E1):aI (fail n:P α):=fun t e=>by unfold fail;rw[EL e]
theorem eR (w:String):aI (key w):=fun t e=>by unfold key;rw[cq e];exact aG 2 t e
theorem be (w:String):aI (sign w):=fun t e=>by unfold sign;rw[cX e];exact aG 2 t e
theorem eB:aI anyName:=fun t e=>by unfold anyName;rw[e];exact aG 2 t e
theorem fP (K:Known):aI (newName K):=fun t e=>by unfold newName;rw[eB t e]
theorem kW (B:Blocks):aI (blockName B):=fun t e=>by unfold blockName;rw[eB t e]
theorem jI (B:Blocks):aI (knownBlock B):=fun t e=>by unfold knownBlock;rw[eB t e]
theorem ly:aI side:=fun t e=>by unfold side;rw[cq e,cq e];exact aG 2 t e
theorem gy (B:Blocks):aI (maybeName B):=fun t e=>by
 unfold maybeName;rw[cq e,cq e,EI [024],kW B t e]
theorem fK {α:Type}(a:α):gZ (pure a:P α):=fun t _=> .inr #[a,rfl]
theorem lH (w:String):gZ (ifSign w):=fun t e=>by unfold ifSign;rw[cX e];exact .inr #[_,rfl]
theorem sv (l:EA String):gZ (KW l):=fun t e=>by unfold KW;rw[e];exact .inr #[_,rfl]
theorem f7 {α:Type}(w:String) (p:P α):gZ (behind w p):=fun t e=>by unfold behind;rw[cq e];exact .inr #[_,rfl]
theorem iu (k d:E1) (K:Known):aI (primary k d K):=fun t e=>by
 cases k with
 |zero=>rw[primary];exact aG 6 t e
 |succ k=>rw[primary];simp only[e];exact aG 2 t e
theorem j8 (k d:E1) (K:Known):aI (unary k d K):=fun t e=>by
 cases k with
 |zero=>rw[unary];exact aG 6 t e
 |succ k=>rw[unary];simp only[cX e,Ii,L5];exact iu k d K t e
theorem qj (k d:E1) (K:Known):aI (times k d K):=by
 cases k with
 |zero=>rw[times];exact aG 6
 |succ k=>rw[times];exact(j8 k d K).bind
theorem jZ (k d:E1) (K:Known):aI (added k d K):=by
 cases k with
 |zero=>rw[added];exact aG 6
 |succ k=>rw[added];exact(qj k d K).bind
theorem lP (k d:E1) (K:Known):aI (compared k d K):=by
 cases k with
 |zero=>rw[compared];exact aG 6
 |succ k=>rw[compared];exact(jZ k d K).bind
theorem sX (k d:E1) (K:Known):aI (ands k d K):=by
 cases k with
 |zero=>rw[ands];exact aG 6
 |succ k=>rw[ands];exact(lP k d K).bind
theorem lM (k d:E1) (K:Known):aI (expr k d K):=fun t e=>by
 cases k with
 |zero=>rw[expr];exact aG 6 t e
 |succ k=>rw[expr];simp only[cq e,Ii,L5];exact(sX k d K).bind t e
theorem lf (k d:E1) (K:Known) (n:E1):aI (arguments k d K n):=fun t e=>by
 cases k with
 |zero=>rw[arguments];exact aG 6 t e
 |succ k=>rw[arguments];simp only[cX e,Ii,L5];exact(lM k d K).bind t e
theorem ou (k d:E1) (K:Known):gZ (moreTimes k d K):=by
 cases k with
 |zero=>rw[moreTimes];exact(aG 6).ON
 |succ k=>
  rw[moreTimes];intro t e;refine .inr #[.nil,?_];show(Fi _ _) t=_;unfold Fi KW;rw[e]
  rfl
theorem oz (k d:E1) (K:Known):gZ (moreAdded k d K):=by
 cases k with
 |zero=>rw[moreAdded];exact(aG 6).ON
 |succ k=>
  rw[moreAdded];intro t e;refine .inr #[.nil,?_];show(Fi _ _) t=_;unfold Fi KW;rw[e]
  rfl
theorem rf (k d:E1) (K:Known):gZ (moreAnd k d K):=by
 cases k with
 |zero=>rw[moreAnd];exact(aG 6).ON
 |succ k=>
  rw[moreAnd];intro t e;refine .inr #[.nil,?_];show(Fi _ _) t=_;unfold Fi ifSign;rw[cX e]
  rfl
theorem sN (k d:E1) (K:Known):gZ (moreOr k d K):=by
 cases k with
 |zero=>rw[moreOr];exact(aG 6).ON
 |succ k=>
  rw[moreOr];intro t e;refine .inr #[.nil,?_];show(Fi _ _) t=_;unfold Fi ifSign;rw[cX e]
  rfl
theorem lz (k d:E1) (K:Known) (B:Blocks):aI (stmt k d K B):=fun t e=>by
 cases k with
 |zero=>rw[stmt];exact aG 6 t e
 |succ k=>rw[stmt];simp only[cq e,Ii,L5];exact ly.bind t e
theorem kj (k d:E1) (K:Known) (B:Blocks):aI (stmts k d K B):=fun t e=>by
 cases k with
 |zero=>rw[stmts];exact aG 6 t e
 |succ k=>rw[stmts];simp only[cX e,Ii,L5];exact(lz k d K B).bind t e
theorem jm (k n:E1) (K:Known):aI (params k n K):=fun t e=>by
 cases k with
 |zero=>rw[params];exact aG 6 t e
 |succ k=>
  rw[params];dsimp only;by_cases h:n=0
  ·rw[EL h];exact aG 7 t e
  ·rw[EI h];exact(fP K).bind t e
theorem tW (k:E1) (K:Known) (n:E1) (D:EA FJ):aI (tops k K n D):=fun t e=>by
 cases k with
 |zero=>rw[tops];exact aG 6 t e
 |succ k=>rw[tops];simp only[e,reduceCtorEq,L5,cq e,Ii];exact aG 2 t e
end OS
namespace OS
open PySem PySem.Spec L2
open PyProof.Rows hiding St
variable {P:Fz}{w:Ga}{K:EF}{mg:Fh->ET EH}{base:Gn}{a:bf}
structure X3 where
 p:EJ
 c:EA (a0×V)
 x:EJ->EA V->Prop
instance:Coe X3 EJ:=#[X3.p]
structure Rb where
 r:EJ
 q:EJ
 kd:EJ
 fn:EJ
 ds:X3
 bl:X3
def eW (B:Rb) (b:EJ):Prop:=b=B.r\/b=B.kd\/b=B.fn\/b=B.ds.p\/b=B.bl.p\/ ∃xs,B.bl.x b xs
inductive X4 (H:Hp) (kd:EJ) (Kn:EK):Prop
 |mk (kk:EA (a0×V)) (_:H kd=some (.dK kk)) (_:kk.length<=Kn.values.length) (_: ∀u,has kk u=Kn.values.contains u):X4 H kd Kn
inductive X5 (H:Hp) (fn:EJ) (Kn:EK):Prop
 |mk (ff:EA (a0×V)) (_:H fn=some (.dK ff)) (_: ∀u,bN ff (nk u)=(Kn.funs.find? fun f=>f.1 == u).map fun f=>V.int (f.2:E1)):X5 H fn Kn
inductive Dif (k f d b:EJ):Prop
 |mk (_:k≠f) (_:k≠d) (_:k≠b) (_:f≠d) (_:f≠b) (_:d≠b):Dif k f d b
structure aaN (H:Hp) (kd fn:EJ) (Kn:EK) (room:E1):Prop where
 vals:X4 H kd Kn
 funs:X5 H fn Kn
 len:Kn.values.length+room<=4000
 alf: ∃ff,H fn=some (.dK ff)/\ff.length=Kn.funs.length
theorem aaN.fl {H:Hp}(h:aaN H kd fn Kn room) (e:H fn=some (.dK ff)):ff.length=Kn.funs.length:=by
 obtain⟨gg,g1,g2⟩:=h.alf;rw[e] at g1;cases g1;exact g2
structure fm (a:bf) (B:Rb) (H:Hp) (n:E1) (t:EG) (Kn:EK):Prop where
 rd:mZ a H B.r B.q B.kd B.fn B.ds.p B.bl.p n t
 wh:fQ t
 kn:aaN H B.kd B.fn Kn t.length
 R8:H B.ds.p=some (.dK B.ds.c)
 RB:H B.bl.p=some (.dK B.bl.c)
 O8:Dif B.kd B.fn B.ds.p B.bl.p
 fr: ∀b xs,B.bl.x b xs->H b=some [049]
theorem qm (kk:EA (a0×V)) (u v:EC) (y:V):has (dy kk (nk u) y) v=(decide (v=u)||has kk v):=by
 unfold has;rw[gK];by_cases e:v=u
 ·rw[EL (by rw[e]),Gb e];rfl
 ·rw[EI (fun z=>e (eI (Ja z))),FA e];rfl
theorem vA (kk:EA (a0×V)) (k j:a0):bN (fD kk k) j=if j=k then none else bN kk j:=by
 induction kk with
 |nil=>unfold fD bN;split<;>rfl
 |cons p r ih=>
  unfold fD at ih ⊢;rw[PU];by_cases e:p.1=k
  ·rw[EI (by simp [e]),ih]
   by_cases j1:j=k
   ·rw[EL j1,EL j1]
   ·rw[EI j1,EI j1,b4 fun z=>j1 (z.symm.trans e)]
  ·rw[EL (by simp [e])]
   by_cases j1:p.1=j
   ·rw[cg j1,cg j1,EI fun z=>e (j1.trans z)]
   ·rw[b4 j1,b4 j1,ih]
theorem tI (kk:EA (a0×V)) (u v:EC):has (fD kk (nk u)) v=(!decide (v=u)&&has kk v):=by
 unfold has;rw[vA];by_cases e:v=u
 ·rw[EL (by rw[e]),Gb e];rfl
 ·rw[EI (fun z=>e (eI (Ja z))),FA e];rfl
theorem mC:lQ v k=decide (uA k=some v):=by
 unfold lQ;cases k with
 |word u=>exact decide_eq_decide.mpr #[fun z=>FN some (V.str.inj z),fun z=>FN V.str (E5 z)]
 |num n=>exact decide_eq_decide.mpr #[(fun z=>nomatch z),(fun z=>nomatch z)]
 |sign u=>exact decide_eq_decide.mpr #[fun z=>FN some (V.str.inj z),fun z=>FN V.str (E5 z)]
 |eof=>exact decide_eq_decide.mpr #[fun z=>FN some (V.str.inj z),fun z=>FN V.str (E5 z)]
 |bad=>exact decide_eq_decide.mpr #[fun z=>FN some (V.str.inj z),fun z=>FN V.str (E5 z)]
theorem bX (ok:fZ k) (h:cY x u):lQ x k=(k == .word u):=by
 rw[mC,GD,FH,beq_iff_eq];exact Ah ok h
theorem cO (ok:fZ k) (h:d7 x u):lQ x k=(k == .sign u):=by
 rw[mC,GD,FH,beq_iff_eq];exact tP ok h
inductive X6 (t:EG):Prop
 |mk (x:F5×FT) (r:EG) (_:t=x::r) (_:fZ x.1) (_:E4 t=x.1) (_:HC t=x.2) (_: ¬ju x->fQ r):X6 t
theorem fQ.first (w:fQ t):X6 t:=by
 cases t with
 |nil=>exact E7 rfl w.ne
 |cons x r=>
  refine#[x,r,rfl,?_,rfl,rfl,fun h=>(w.tail h).2];by_cases h:ju x
  ·rcases h with h|h
   ·rw[h];exact GH
   ·rw[h];exact GH
  ·exact(w.tail h).1.2.2
section
variable {H H' H2:Hp}{M:EJ->Prop}
theorem a9.keeps (s:a9 H H'):db M H H':=fun b o e _=>s b o e
theorem db.trans (k:db M H H') (l:db M H' H2):db M H H2:=fun b o e m=>l b o (k b o e m) m
theorem db.refl:db M H H:=fun _ _ e _=>e
theorem mZ.same (R:mZ a H r q kd fn ds bl n t) (s:a9 H H'):mZ a H' r q kd fn ds bl n t:=by
 obtain⟨dr,e⟩:=R.ins;obtain⟨as,all,h1,h2,h3⟩:=R.toks;exact#[#[dr,s _ _ e],as,all,s _ _ h1,Paired.M7 h2 fun b z k=>k.keep fun b' o e _=>s b' o e,h3]
theorem fm.same (S:fm a B H n t Kn) (s:a9 H H'):fm a B H' n t Kn:=by
 rw[07];rw[09];exact#[S.rd.same s,S.wh,#[#[kk,s _ _ k1,k2,k3],#[ff,s _ _ f1,f2],S.kn.len,#[ff,s _ _ f1,S.kn.fl f1]],s _ _ S.R8,s _ _ S.RB,S.O8,fun b xs h=>s _ _ (S.fr b xs h)]
theorem uy (h:past a H B.r B.q B.kd B.fn B.ds.p B.bl.p n H'):db (eW B) H H':=fun b o e m=>by
 obtain⟨dr,e1,rfl⟩:=h;rw[ac fun z=>m (.inl z)];exact e
theorem fm.past (S:fm a B H n (x::t) Kn) (hx: ¬ju x) (h:OS.past a H B.r B.q B.kd B.fn B.ds.p B.bl.p n H'):fm a B H' (n+1) t Kn:=by
 have R:=S.rd.step h;obtain⟨dr,e1,rfl⟩:=h;rw[07];rw[09]
 have hy:=S.R8
 have hz:=S.RB
 have nk:B.kd≠B.r:=fun w=>by rw[w,e1] at k1;cases k1
 have nf:B.fn≠B.r:=fun w=>by rw[w,e1] at f1;cases f1
 have nd:B.ds.p≠B.r:=fun w=>by rw[w,e1] at hy;cases hy
 have nb:B.bl.p≠B.r:=fun w=>by rw[w,e1] at hz;cases hz
 refine#[R,(S.wh.tail hx).2,#[#[kk,by rw[ac nk];exact k1,k2,k3],#[ff,by rw[ac nf];exact f1,f2],?_,#[ff,by rw[ac nf];exact f1,S.kn.fl f1]],(by rw[ac nd];exact hy),(by rw[ac nb];exact hz),S.O8,fun b xs h=>by
  have e2:=S.fr b xs h;rw[ac fun w=>by rw[w,e1] at e2;cases e2]
  exact e2]
 have:=S.kn.len;rw[EZ] at this;lia
theorem fm.ahk (S:fm a B H n t Kn) (free:Kn.values.contains u=false) (room:Kn.values.length+1+t.length<=4000) (e:H B.kd=some (.dK kk)):
  fm a B (aF H B.kd (.dK (dy kk (nk u) (.bl true)))) n t (Kn.with u):=by
 rw[02];rw[010];obtain⟨kk',k1,k2,k3⟩:=S.kn.vals;rw[09];have hy:=S.R8;have hz:=S.RB;obtain rfl:kk'=kk:=by rw[e] at k1;cases k1;rfl
 rw[016];have nr:B.r≠B.kd:=fun w=>by rw[w,e] at er;cases er
 have nq:B.q≠B.kd:=fun w=>by rw[w,e] at h1;cases h1
 refine#[[071],S.wh,#[#[_,ae,?_,fun v=>?_],#[ff,by rw[ac d1.symm];exact f1,f2],by show Kn.values.length+1+t.length<=4000;exact room,#[ff,by rw[ac d1.symm];exact f1,S.kn.fl f1]],(by rw[ac d2.symm];exact hy),(by rw[ac d3.symm];exact hz),S.O8,fun b xs h=>by
  have e2:=S.fr b xs h;rw[018];exact e2]
 ·rw[ac fun w=>by rw[w,e] at ex;cases ex]
  exact ex
 ·have:=cB kk' (nk u) (.bl true)
  show _<=Kn.values.length+1
  lia
 ·rw[qm,k3]
  show _=(u::Kn.values).contains v
  rw[FY]
  congr 1
  rw[GD,FH,beq_iff_eq]
theorem fm.forget (S:fm a B H n t (Kn.with u)) (free:Kn.values.contains u=false) (e:H B.kd=some (.dK kk)):
  has kk u=true/\fm a B (aF H B.kd (.dK (fD kk (nk u)))) n t Kn:=by
 rw[02];rw[010];obtain⟨kk',k1,k2,k3⟩:=S.kn.vals;rw[09];have hy:=S.R8;have hz:=S.RB;obtain rfl:kk'=kk:=by rw[e] at k1;cases k1;rfl
 rw[016];have nr:B.r≠B.kd:=fun w=>by rw[w,e] at er;cases er
 have nq:B.q≠B.kd:=fun w=>by rw[w,e] at h1;cases h1
 have hu:has kk' u=true:=by
  rw[k3];show(u::Kn.values).contains u=true;rw[FY,Gr]
  rfl
 have len:Kn.values.length+1+t.length<=4000:=S.kn.len
 have k2:kk'.length<=Kn.values.length+1:=k2;refine#[hu,[071],S.wh,#[#[_,ae,?_,fun v=>?_],#[ff,by rw[ac d1.symm];exact f1,f2],by lia,#[ff,by rw[ac d1.symm];exact f1,S.kn.fl f1]],(by rw[ac d2.symm];exact hy),(by rw[ac d3.symm];exact hz),S.O8,fun b xs h=>by
  have e2:=S.fr b xs h;rw[018];exact e2]
 ·rw[ac fun w=>by rw[w,e] at ex;cases ex]
  exact ex
 ·have:(fD kk' (nk u)).length<kk'.length:=by
   unfold fD;refine UZ (Nz _ _) fun w=>?_;rw[Pb] at w;unfold has bN at hu;rw[Hv,Mx] at hu;obtain⟨p,hp,e1⟩:=hu;have:=w p hp;simp only[M9] at this e1;exact this e1
  lia
 ·rw[tI,k3]
  show(!decide (v=u)&&(u::Kn.values).contains v)=_
  rw[FY];by_cases w:v=u
  ·rw[w,Gb rfl,free];rfl
  ·rw[FA w,show(v == u)=false from beq_eq_false_iff_ne.mpr w];rfl
theorem fm.fresh (S:fm a B H n t Kn) (h:H b=none): ¬eW B b:=by
 obtain⟨dr,e1⟩:=S.rd.ins;obtain⟨kk,k1,_⟩:=S.kn.vals;obtain⟨ff,f1,_⟩:=S.kn.funs;have hy:=S.R8;have hz:=S.RB;rintro(rfl|rfl|rfl|rfl|rfl|⟨xs,hx⟩)
 ·rw[e1] at h;cases h
 ·rw[k1] at h;cases h
 ·rw[f1] at h;cases h
 ·rw[hy] at h;cases h
 ·rw[hz] at h;cases h
 ·rw[S.fr _ _ hx] at h;cases h
end
section
variable {H H' H0:Hp}{B:Rb}{n:E1}{t:EG}{Kn:EK}{M M':EJ->Prop}
def Rb.more (B:Rb) (l:EJ) (xs:EA V):Rb:= { B with bl:=#[B.bl.p,B.bl.c,fun b ys=>B.bl.x b ys\/(b=l/\ys=xs)] }
theorem fm.more (S:fm a B H n t Kn) (h:H l=some [049]):fm a (B.more l xs) H n t Kn:=
 #[S.rd,S.wh,S.kn,S.R8,S.RB,S.O8,fun b ys z=>z.elim (S.fr b ys) fun⟨e1,e2⟩=>by rw[e1,e2];exact h]
theorem fm.less (S:fm a (B.more l xs) H n t Kn):fm a B H n t Kn:=
 #[S.rd,S.wh,S.kn,S.R8,S.RB,S.O8,fun b ys z=>S.fr b ys (.inl z)]
theorem fm.P0 (S:fm a (B.more l xs) H n t Kn):H l=some [049]:=S.fr l xs (.inr #[rfl,rfl])
theorem cu (m:eW B b):eW (B.more l xs) b:=by
 rcases m with h|h|h|h|h|⟨ys,h⟩
 ·exact .inl h
 ·exact .inr (.inl h)
 ·exact .inr [054]
 ·exact .inr (.inr [054])
 ·exact .inr (.inr (.inr [054]))
 ·exact .inr (.inr (.inr (.inr (.inr #[ys, .inl h]))))
theorem c9 (m:eW (B.more l xs) b):b=l\/eW B b:=by
 rcases m with h|h|h|h|h|⟨ys,h|⟨h,_⟩⟩
 ·exact .inr (.inl h)
 ·exact .inr [054]
 ·exact .inr (.inr [054])
 ·exact .inr (.inr (.inr [054]))
 ·exact .inr (.inr (.inr (.inr [054])))
 ·exact .inr (.inr (.inr (.inr (.inr (.inr #[ys,h])))))
 ·exact .inl h
theorem fj:eW (B.more l xs) l:= .inr (.inr (.inr (.inr (.inr #[xs, .inr #[rfl,rfl]]))))
theorem eQ (h:M l):db M H (aF H l o):=fun b o' e m=>by
 rw[ac fun z=>m (by rw[z];exact h)];exact e
theorem fm.write (S:fm a (B.more l xs) H n t Kn) (apart: ∀zs,¬B.bl.x l zs) (hq:l≠B.q):fm a (B.more l ys) (aF H l (.lst ys)) n t Kn:=by
 have hl:=S.P0;rw[02];rw[010];rw[07];rw[09]
 have up: ∀ {b:EJ}{o:HO},H b=some o->(∀zs,o≠ .lst zs)->aF H l (.lst ys) b=some o:=fun e no=>by
  rw[ac fun w=>by rw[w,hl] at e;exact no _ (E5 e).symm];exact e
 refine#[#[#[dr,up er [038]],as,all,(by show aF H l (.lst ys) B.q=_;rw[ac hq.symm];exact h1),Paired.M7 h2 fun b x ⟨dx,ex⟩=>#[dx,up ex [038]],h3],S.wh,
  #[#[kk,up k1 [038],k2,k3],#[ff,up f1 [038],f2],S.kn.len,#[ff,up f1 [038],S.kn.fl f1]],up S.R8 [038],up S.RB [038],S.O8,fun b zs z=>?_]
 rcases z with z|⟨e1,e2⟩
 ·rw[ac fun w=>apart zs (by rw[<-w];exact z)]
  exact S.fr b zs (.inl z)
 ·rw[e1,e2]
  exact ae
end
theorem xI:aaw=FZ.map fun u=>V.str (sb u):=by decide+kernel
theorem dE:cN (.word u)=!Vbemac.KEYS.contains u:=by
 show(!tZ (.str (sb u)) aaw)=_
 congr 1
 rw[xI];unfold tZ;rw[Sr,EA.contains_eq_any_beq]
 congr 1
 funext z
 show(sb z == sb u)=(u == z)
 rw[GD,beq_iff_eq,beq_iff_eq];exact#[fun e=>(eI e).symm,fun e=>by rw[e]]
theorem CP (T:aU K mg a) (XC:XT K a):T.Zd.O P w mg base 6 (wb a):=by
 have G_p:=lY (P:=P) (w:=w) (base:=base) T XC;refine fO T.Zd.F agf [03] [02];obtain⟨r,q,kd,fn,ds,bl,n,x,t,v,rfl,R,hb,hf,hg⟩:=h;rw[08];refine#[_,(ax (cy (kU (df (cx (pv 0) T.Fy T.d_p.c G_p [07] aA [031]))) (ah (aJ rZ)) br)
   (ax (gG (pv 0) aj nB)
   (ah (aJ rZ)))),?_]
 refine#[r,dr,_,rfl,er,rfl,r,q,kd,fn,ds,bl,n,x,t,v,rfl,R,hb,fun nb=>[022]];cases e:lQ v x.1 with
 |false=>exact cf (hf nb e)
 |true=>
  refine bK ?_;exact#[r,_,dr,_,_,rfl,er,T.Fy,T.JY,rfl,_,_,rfl,rfl,dr,_,er,(by show 6<1000;decide),hg nb e _ #[dr,er,rfl]]
theorem jc (T:aU K mg a) (XC:XT K a):T.Zg.O P w mg base 7 (vY a):=by
 have G_z:=gR (P:=P) (w:=w) (base:=base) T XC;rw[007];rw[012]
 have G_t:=qB (P:=P) (w:=w) (base:=base) T XC;refine fO T.Zg.F agg [03] [02];obtain⟨r,q,kd,fn,ds,bl,g,n,⟨x,xp⟩,t,gg,rfl,R,eg,hb,hn,h4,hg⟩:=h;rw[08];refine#[_,(ax (bi (bQ (pv 0) T.Fy T.d_z.c G_z [07] aA))
   (ax (cy (fB (mX (dj hr) (ak [036] rfl) (pv 1))) (ah (bi (cx (pv 0) T.Fy T.Vq.c Us [07] aA (aa (aR (by rfl) T.Ob) ag)))) br)
   (ah (aJ (bQ (pv 0) T.Fy T.d_t.c G_t [07] aA))))),?_]
 refine#[r,dr,_,rfl,er,rfl,r,q,kd,fn,ds,bl,n,(x,xp),t,rfl,R,hb,hn,fun nb e=>?_];cases x with
 |word u=>
  refine#[r,dr,_,rfl,er,rfl,r,q,kd,fn,ds,bl,n,(.word u,xp),t,rfl,R,hb,fun _ p ⟨dx,et⟩=>#[p,_,dx,_,_,rfl,et,T.HU,T.IP,rfl,?_]];refine#[g,_,rfl,gv.k (k:=nk u) eg,_,rfl,aP (fun e1=>?_) fun e1=>?_]
  ·refine#[r,dr,_,rfl,er,rfl,r,q,kd,fn,ds,bl,n,(.word u,xp),t,4,rfl,R,?_]
   rw[EI nb];exact h4 u rfl e e1
  ·exact#[r,dr,_,rfl,er,rfl,r,q,kd,fn,ds,bl,n,(.word u,xp),t,rfl,R,hb,fun _=>hg u rfl e e1]
 |num m=>cases e
 |sign u=>cases e
 |eof=>cases e
 |bad=>exact E7 rfl nb
theorem fE {α:Type}{p:EU α}{n:E1}{t:EG}{Qo:α->EG->Prop}{Qe:E1->FT->Prop}(e:p t=E9 n t) (nb:E4 t≠ .bad) (h:W p t Qo Qe):Qe n (HC t):=by
 have e:p t= .error (n,HC t):=by rw[e];unfold E9;rw[EI nb]
 rw[iW e] at h;exact h
theorem ahl {α:Type}{p p':EU α}{t:EG}{Qo:α->EG->Prop}{Qe:E1->FT->Prop}(e:p t=p' t) (h:W p t Qo Qe):W p' t Qo Qe:=by
 unfold W at h ⊢;rw[<-e];exact h
abbrev QE (a:bf) (B:Rb) (H0:Hp) (E:XK):E1->FT->Prop:=fun k x=> ∀H',db (eW B) H0 H'->nF a.Hd E H' k x
theorem cU {t:EG} :VS ((.word u,xp)::t)=if FZ.contains u=true then E9 2 ((.word u,xp)::t) else .ok (u,t):=rfl
theorem ip {Kn:EK}{t:EG}(h:FZ.contains u=true):Ge Kn ((.word u,xp)::t)=E9 2 ((.word u,xp)::t):=by
 unfold Ge;rw[cU,EL h]
 rfl
theorem ee {Kn:EK}{t:EG}(h:FZ.contains u=false):Ge Kn ((.word u,xp)::t)=if Kn.taken u=true then E9 4 ((.word u,xp)::t) else .ok (u,t):=by
 unfold Ge;rw[cU,EI [042]]
structure Zf (β:Type) where
 a:bf
 E:XK
 B:Rb
 L:E1
 H0:Hp
 Ro:β->EG->Prop
inductive CB (X:Cx) (x:Fh) (ps:EA Fh) (sp:Sp):Prop
 |mk {k:E1}{f:EJ}{fd:FL}(F:bS X.prog X.w X.K X.mg X.base (fW X.prog X.w) k f fd ps sp) (hr:bW k X.A) (d:CD X.K X.mg x f fd ps) (hg:Gl X x):CB X x ps sp
structure RX (X:Cx) (a:bf) (E:XK):Prop where
 T:aU X.K X.mg a
 C:XT X.K a
 hr:bW 8 X.A
 up:dh (fW X.prog X.w) X E
 lv:Pc (model X.prog X.w) X.A X.env X.xe
 nd:X.N.Nodup
 n0:X.N[0]?=some ("reader":Fh)
 v0:oH X.env.scope "reader"
structure RS {β:Type}(Z:Zf β) (F:EA (Fk×V)) (b:FR) (H:Hp) (t:EG) (Kn:EK) (p:EU β):Prop where
 S: ∃n,fm Z.a Z.B H n t Kn
 k:db (eW Z.B) Z.H0 H
 f: ∀ {i:E1}{x:Fk×V},F[i]?=some x->jd Z.a (eW Z.B) H x
 l:t.length+b.toNat<=Z.L
 w:W p t Z.Ro (QE Z.a Z.B Z.H0 Z.E)
section
variable {β:Type}{Z:Zf β}{H H':Hp}{p p':EU β}
theorem RS.go (R:RS Z F b H t Kn p) (S:fm Z.a Z.B H' n t' WQ) (k:db (eW Z.B) H H') (l:t'.length+b'.toNat<=Z.L) (w:W p' t' Z.Ro (QE Z.a Z.B Z.H0 Z.E)):RS Z F b' H' t' WQ p':=
 #[#[n,S],R.k.trans k,fun e=>jd.Hj k.two (R.f e),l,w]
theorem RS.and (R:RS Z F b H t Kn p) (h:jd Z.a (eW Z.B) H e):RS Z (e::F) b H t Kn p:=
 #[R.S,R.k,fun {i x} q=>match i,q with
  |0,q=>by cases q;exact h
  |i+1,q=>R.f (i:=i) q,R.l,R.w]
theorem RS.as (R:RS Z F b H t Kn p) (e:p t=p' t):RS Z F b H t Kn p':=#[R.S,R.k,R.f,R.l,ahl e R.w]
theorem RS.one (R:RS Z F b H (x::t) Kn p):t.length+1<=Z.L:=Fj (Ju _ _) R.l
theorem RS.past (R:RS Z F b H (x::t) Kn p) (S:fm Z.a Z.B H n (x::t) Kn) (hx: ¬ju x) (h:OS.past Z.a H Z.B.r Z.B.q Z.B.kd Z.B.fn Z.B.ds.p Z.B.bl.p n H') (w:W p' t Z.Ro (QE Z.a Z.B Z.H0 Z.E)):RS Z F true H' t Kn p':=
 R.go (S.past hx h) (uy h) R.one w
end
structure XpP (v:Fh) (p:EU Mo) (x:F5×FT) (r:EG):Prop where
 bad:x.1= .bad->p (x::r)= .error (1,x.2)
 no:x.1≠ .bad->lQ v x.1=false->p (x::r)= .error (2,x.2)
 yes:x.1≠ .bad->lQ v x.1=true->p (x::r)= .ok ((),r)/\ ¬ju x
theorem d7.p {v:Fh}{s:String}(l:d7 v (ED s)) (r:EG) (ok:fZ x.1):XpP v (FC s) x r:=by
 refine#[fun b=>be s (x::r) b,fun nb e=>?_,fun nb e=>?_]
 ·rw[cO ok l] at e
  show(if FD (x::r) s=true then _ else E9 2 (x::r))=_
  rw[EI (by show¬(x.1 == .sign (ED s))=true;rw[e];exact EE)];unfold E9;rw[EI (show¬E4 (x::r)= .bad from nb)]
  rfl
 ·rw[cO ok l] at e
  refine#[?_,fun z=>?_]
  ·show(if FD (x::r) s=true then _ else E9 2 (x::r))=_
   rw[EL (by show(x.1 == .sign (ED s))=true;exact e)]
   rfl
  ·have:=beq_iff_eq.mp e
   exact z.elim (fun z=>by rw[this] at z;cases z) nb
theorem cY.p {v:Fh}{s:String}(l:cY v (ED s)) (r:EG) (ok:fZ x.1):XpP v (GN s) x r:=by
 refine#[fun b=>eR s (x::r) b,fun nb e=>?_,fun nb e=>?_]
 ·rw[bX ok l] at e
  show(if EV (x::r) s=true then _ else E9 2 (x::r))=_
  rw[EI (by show¬(x.1 == .word (ED s))=true;rw[e];exact EE)];unfold E9;rw[EI (show¬E4 (x::r)= .bad from nb)]
  rfl
 ·rw[bX ok l] at e
  refine#[?_,fun z=>?_]
  ·show(if EV (x::r) s=true then _ else E9 2 (x::r))=_
   rw[EL (by show(x.1 == .word (ED s))=true;exact e)]
   rfl
  ·have:=beq_iff_eq.mp e
   exact z.elim (fun z=>by rw[this] at z;cases z) nb
theorem Ar {v:Fh}(r:EG) (e:lQ v x.1=true) (nb:x.1≠ .bad) (nf: ¬ju x):XpP v F3 x r:=
 #[fun b=>E7 b nb,fun _ z=>(by rw[e] at z;cases z),fun _ _=>#[rfl,nf]]
theorem RS.tok {β:Type}{Z:Zf β}{F:EA (Fk×V)}{b:FR}{H:Hp}{t:EG}{Kn:EK}{p:EU β}(R:RS Z F b H t Kn p):fZ (E4 t):=by
 rw[00];obtain⟨x,t',rfl,tok,Ql,_,_⟩:=S.wh.first;exact tok
section
variable {X:Cx}{β:Type}{Z:Zf β}{F:EA (Fk×V)}{b:FR}{H:Hp}{t:EG}{Kn:EK}{D:eG}{ss:EA Stmt}{σ:L2.St}{p0 p1 p2 p3 p4 p5:Pos}{j:E1}{v y:Fh}{s:String}{E:XK}{Q:VK}{B:Rb}{n:E1}{m:Fh}{f:EJ}{fd:FL}{ps:EA Fh}{sp:Sp}{k:E1}{CX:pX}{E':XK}{p:EU β}
theorem RX.rd (Y:RX X a E):PE X [005] (k8 0):=dU Y.n0 Y.v0
theorem RX.m1 (Y:RX X a E) (d:MD X.K a.FX m f fd ps) (G:bS X.prog X.w X.K X.mg X.base CX k f fd ps sp) (hk:k<=8) (up:dh CX X E') (S:fm a B H n t Kn) (hm:(qJ B.q B.kd B.fn B.ds.p B.bl.p n).lookup m=none) (q:Pe X e (some (.ref B.r)::σ) H fun v H1=>sp [.ref B.r,v] H1 Q E')
  (hp:ig p2 p4) (JS:Fb [e] X.env=[[000]]):Pe X (.Call (.Attribute [005] m p2) [e] [] p4) (some (.ref B.r)::σ) H Q:=by
 rw[02];exact#[_,cx Y.rd Y.T.Fy d G (Y.hr.mono hk) up (aa dn ag JS) JS rfl (eE hp (by rw[JS];rfl)),B.r,dr,_,rfl,er,hm,q]
theorem RX.m0 (Y:RX X a E) (d:MD X.K a.FX m f fd ps) (G:bS X.prog X.w X.K X.mg X.base CX k f fd ps sp) (hk:k<=8) (up:dh CX X E') (S:fm a B H n t Kn) (hm:(qJ B.q B.kd B.fn B.ds.p B.bl.p n).lookup m=none) (q:sp [.ref B.r] H Q E')
  (hp:ig p2 p4):Pe X (.Call (.Attribute [005] m p2) [] [] p4) (some (.ref B.r)::σ) H Q:=by
 rw[02];exact#[_,bQ Y.rd Y.T.Fy d G (Y.hr.mono hk) up (eE hp rfl),B.r,dr,_,rfl,er,hm,q]
theorem vW {e:G8}{te:TE}{u:EU Mo}{g:Mo->EU β}(Y:RX X Z.a Z.E) (R:RS Z F b H t Kn (u>>=g)) (he:PE X e te) (hv: ∀Q:VK,Q (.str v) H->te (some (.ref Z.B.r)::σ) H Q) (l: ∀ {x:F5×FT} r,t=x::r->fZ x.1->XpP v u x r) (q: ∀H' t',RS Z F true H' t' Kn (g ())->Bd X ss D (some (.ref Z.B.r)::σ) H') (hp:ig p2 p4:=by rfl) (JS:Fb [e] X.env=[[000]]:=by rfl):
  Bd X (.Expr (.Call (.Attribute [005] "expect" p2) [e] [] p4) p5::ss) D (some (.ref Z.B.r)::σ) H:=by
 rw[004];have hW:=R.w;rw[js] at hW;have l:=l t' rfl tok;refine bw (Y.m1 Y.T.Zc.c (yz Y.T Y.C) [01] Y.up S rfl #[_,he,hv _ #[Z.B.r,Z.B.q,Z.B.kd,Z.B.fn,Z.B.ds,Z.B.bl,n,x,t',v,rfl,S.rd,fun b=>?_,fun nb e=>?_,fun nb e H' hp=>?_]] hp JS)
 ·rw[iW (l.bad b)] at hW;exact hW H R.k
 ·rw[iW (l.no nb e)] at hW;exact hW H R.k
 ·obtain⟨h1,h2⟩:=l.yes nb e
  rw[yP h1] at hW;exact q H' t' (R.past S h2 hp hW)
theorem ma {te:TE}(Y:RX X Z.a Z.E) (R:RS Z F b H t Kn p) (he:PE X e te) (hv: ∀Q:VK,Q (.str v) H->te (some (.ref Z.B.r)::σ) H Q) (hb:E4 t= .bad->QE Z.a Z.B Z.H0 Z.E 1 (HC t)) (q:E4 t≠ .bad->Q (.bl (lQ v (E4 t))) H) (hp:ig p2 p4:=by rfl) (JS:Fb [e] X.env=[[000]]:=by rfl):
  Pe X (.Call (.Attribute [005] "sees" p2) [e] [] p4) (some (.ref Z.B.r)::σ) H Q:=by
 rw[004];exact Y.m1 Y.T.d_p.c (lY Y.T Y.C) [01] Y.up S rfl #[_,he,hv _ #[Z.B.r,Z.B.q,Z.B.kd,Z.B.fn,Z.B.ds,Z.B.bl,n,x,t',v,rfl,S.rd,fun b=>hb (Ql.trans b) H R.k,q]] hp JS
theorem qb {u:EU Mo}{g:Mo->EU β}(Y:RX X Z.a Z.E) (R:RS Z F b H t Kn (u>>=g)) (l: ∀ {x:F5×FT} r,t=x::r->fZ x.1->XpP v u x r) (q: ∀H' t',RS Z F true H' t' Kn (g ())->Bd X ss D (some (.ref Z.B.r)::σ) H') (hp:ig p2 p4:=by rfl):
  Bd X [057] D (some (.ref Z.B.r)::σ) H:=vW Y R dH [05] l q hp
theorem cC {g:Mo->EU β}(Y:RX X Z.a Z.E) (lit:d7 v (ED s)) (R:RS Z F b H t Kn (FC s>>=g)) (q: ∀H' t',RS Z F true H' t' Kn (g ())->Bd X ss D (some (.ref Z.B.r)::σ) H') (hp:ig p2 p4:=by rfl):
  Bd X [057] D (some (.ref Z.B.r)::σ) H:=qb Y R (fun r _ ok=>lit.p r ok) q hp
theorem kY {g:Mo->EU β}(Y:RX X Z.a Z.E) (lit:cY v (ED s)) (R:RS Z F b H t Kn (GN s>>=g)) (q: ∀H' t',RS Z F true H' t' Kn (g ())->Bd X ss D (some (.ref Z.B.r)::σ) H') (hp:ig p2 p4:=by rfl):
  Bd X [057] D (some (.ref Z.B.r)::σ) H:=qb Y R (fun r _ ok=>lit.p r ok) q hp
theorem iQ (Y:RX X Z.a Z.E) (R:RS Z F b H t Kn p) (st:aI p) (q:E4 t≠ .bad->Q (.bl (lQ v (E4 t))) H) (hp:ig p2 p4:=by rfl):
  Pe X (.Call (.Attribute [005] "sees" p2) [.Constant (.str v) j p3] [] p4) (some (.ref Z.B.r)::σ) H Q:=ma Y R dH [05] (fun b=>st.K6 b R.w) q hp
theorem iV (Y:RX X Z.a Z.E) (R:RS Z F b H t Kn p) (nb:E4 t≠ .bad) (q:Q (.bl (lQ v (E4 t))) H) (hp:ig p2 p4:=by rfl):
  Pe X (.Call (.Attribute [005] "sees" p2) [.Constant (.str v) j p3] [] p4) (some (.ref Z.B.r)::σ) H Q:=ma Y R dH [05] (fun b=>E7 b nb) (fun _=>q) hp
theorem X7 {c:F5->FR}(Y:RX X Z.a Z.E) (d:MD X.K Z.a.FX m f fd ps) (G:bS X.prog X.w X.K X.mg X.base (fW X.prog X.w) k f fd ps (rN Z.a c)) (hk:k<=8) (hm: ∀n,(qJ Z.B.q Z.B.kd Z.B.fn Z.B.ds.p Z.B.bl.p n).lookup m=none) (R:RS Z F b H t Kn p) (st:aI p) (q:E4 t≠ .bad->Q (.bl (c (E4 t))) H) (hp:ig p2 p4:=by rfl):
  Pe X (.Call (.Attribute [005] m p2) [] [] p4) (some (.ref Z.B.r)::σ) H Q:=by
 rw[004];exact Y.m0 d G hk Y.up S (hm n) #[Z.B.r,Z.B.q,Z.B.kd,Z.B.fn,Z.B.ds,Z.B.bl,n,x,t',rfl,S.rd,fun b=>st.K6 (Ql.trans b) R.w H R.k,q] hp
theorem iG {g:Mo->EU β}(Y:RX X Z.a Z.E) (R:RS Z F b H (x::r) Kn (F3>>=g)) (nf: ¬ju x) (q: ∀H',RS Z F true H' r Kn (g ())->Q (ib x.1) H') (hp:ig p2 p4:=by rfl):
  Pe X (.Call (.Attribute [005] "take" p2) [] [] p4) (some (.ref Z.B.r)::σ) H Q:=by
 rw[00];exact Y.m0 Y.T.d_t.c (qB Y.T Y.C) [01] Y.up S rfl #[Z.B.r,Z.B.q,Z.B.kd,Z.B.fn,Z.B.ds,Z.B.bl,n,x,r,rfl,S.rd,fun b=>E7 (.inr b) nf,fun _ H' hp=>q H' (R.past S nf hp R.w)] hp
theorem qW {e:G8}{i:E1}(Y:RX X Z.a Z.E) (he:PE X e (tC (.int i))) (R:RS Z F b H t Kn p) (nb:E4 t≠ .bad) (h:p t=E9 i t) (hp:ig p2 p4:=by rfl) (JS:Fb [e] X.env=[[000]]:=by rfl):
  Pe X (.Call (.Attribute [005] "fail" p2) [e] [] p4) (some (.ref Z.B.r)::σ) H Q:=by
 rw[004];refine Y.m1 Y.T.Vq.c (fG Y.T Y.C) [01] Y.up S rfl #[_,he,Z.B.r,Z.B.q,Z.B.kd,Z.B.fn,Z.B.ds,Z.B.bl,n,x,t',i,rfl,S.rd,?_] hp JS;rw[EI (show¬x.1= .bad from nb)];exact fE h nb R.w H R.k
theorem p_g (Y:RX X Z.a Z.E) (R:RS Z F b H t Kn p) (st:aI p) (h:E4 t≠ .bad->cN (E4 t)=false->p t=E9 2 t) (q:E4 t≠ .bad->cN (E4 t)=true->Q .HZ H) (hp:ig p2 p4:=by rfl):
  Pe X (.Call (.Attribute [005] "need_name" p2) [] [] p4) (some (.ref Z.B.r)::σ) H Q:=by
 rw[004];exact Y.m0 Y.T.d_z.c (gR Y.T Y.C) [01] Y.up S rfl #[Z.B.r,Z.B.q,Z.B.kd,Z.B.fn,Z.B.ds,Z.B.bl,n,x,t',rfl,S.rd,fun b=>st.K6 (Ql.trans b) R.w H R.k,fun nb e=>fE (h nb e) nb R.w H R.k,q] hp
theorem vG (Y:RX X Z.a Z.E) (R:RS Z F b H t Kn p) (hb:E4 t= .bad->QE Z.a Z.B Z.H0 Z.E 1 (HC t)) (q:E4 t≠ .bad->Q (ib (E4 t)) H) (hp:ig p2 p4:=by rfl):
  Pe X (.Attribute (.Call (.Attribute [005] "current" p2) [] [] p4) "value" p5) (some (.ref Z.B.r)::σ) H Q:=by
 rw[004];refine#[_,ak dn rfl,Y.m0 Y.T.Vp.c (cZ Y.T Y.C) [01] Y.up S rfl #[Z.B.r,Z.B.q,Z.B.kd,Z.B.fn,Z.B.ds,Z.B.bl,n,x,t',rfl,S.rd,fun b=>hb (Ql.trans b) H R.k,fun nb c ⟨dx,et⟩=>#[c,_,dx,_,_,rfl,et,Y.T.HU,Y.T.IP,rfl,q nb]] hp]
theorem ahm (Y:RX X Z.a Z.E) (R:RS Z F b H t Kn p) (st:aI p) (q:E4 t≠ .bad->Q (ib (E4 t)) H) (hp:ig p2 p4:=by rfl):
  Pe X (.Attribute (.Call (.Attribute [005] "current" p2) [] [] p4) "value" p5) (some (.ref Z.B.r)::σ) H Q:=vG Y R (fun b=>st.K6 b R.w) q hp
theorem RS.cons (R:RS Z F b H t Kn p): ∃x r,t=x::r:=by
 rw[00];obtain⟨x,t',e,_⟩:=S.wh.first;exact#[x,t',e]
theorem aaO (Y:RX X Z.a Z.E) (R:RS Z F b H (x::r) Kn p) (nf: ¬ju x) (q:Q (.bl (lB (E4 r))) H) (hp:ig p2 p4:=by rfl):
  Pe X (.Call (.Attribute [005] "number_follows" p2) [] [] p4) (some (.ref Z.B.r)::σ) H Q:=by
 rw[00];obtain⟨y,r',rfl,_⟩:=(S.wh.tail nf).2.first;exact Y.m0 Y.T.Zb.c (jL Y.T) [01] aY S rfl #[Z.B.r,Z.B.q,Z.B.kd,Z.B.fn,Z.B.ds,Z.B.bl,n,x,y,r',rfl,S.rd,q] hp
theorem aaP {te:TE}{C:FR->Hp->Prop}(Y:RX X Z.a Z.E) (R:RS Z F b H t Kn p) (he:PE X e te) (hv: ∀Q:VK,Q (.str (sb u)) H->te (some (.ref Z.B.r)::σ) H Q) (q:C ((Kn.funs.find? fun f=>f.1 == u).isSome) H):
  Pt X (.Compare e [.In] [.Attribute [005] "functions" p2] p3) (some (.ref Z.B.r)::σ) H C:=by
 rw[021];rw[09];refine#[_,fB (mX (dj Y.hr) he (ak Y.rd rfl)),hv _ #[Z.B.r,_,dr,_,_,rfl,er,Y.T.Fy,Y.T.HV,rfl,Z.B.fn,_,rfl,gv.k (k:=nk u) f1,_,rfl,?_]];rw[f2,Hv];exact q
theorem aaQ {te:TE}{C:FR->Hp->Prop}(Y:RX X Z.a Z.E) (R:RS Z F b H t Kn p) (he:PE X e te) (hv: ∀Q:VK,Q (.str (sb u)) H->te (some (.ref Z.B.r)::σ) H Q) (q:C (!Kn.values.contains u) H):
  Pt X (.Compare e [.NotIn] [.Attribute [005] "known" p2] p3) (some (.ref Z.B.r)::σ) H C:=by
 rw[021];rw[07];refine#[_,fB (iU (dj Y.hr) he (ak Y.rd rfl)),hv _ #[Z.B.r,_,dr,_,_,rfl,er,Y.T.Fy,Y.T.JC,rfl,Z.B.kd,_,rfl,gv.k (k:=nk u) k1,_,rfl,?_]];have:=k3 u;unfold has at this;rw[this];exact q
theorem rF (i:E1) {g:EC->EU β}(Y:RX X Z.a Z.E) (R:RS Z F b H t Kn (Ge Kn>>=g)) (q: ∀u H' t',cY (sb u) u->FZ.contains u=false->Kn.taken u=false->RS Z F true H' t' Kn (g u)->Bd X ss D ((some (.ref Z.B.r)::σ).set i (some (.str (sb u)))) H')
  (h:Sl X i y:=by exact#[rfl,Gx rfl,rfl]) (hp:ig p2 p4:=by rfl):
  Bd X (.Assign [.Name y p0] (.Call (.Attribute [005] "take_free_name" p2) [] [] p4) p5::ss) D (some (.ref Z.B.r)::σ) H:=by
 rw[021];rw[023];rw[07];rw[09];have hW:=R.w;rw[js] at hW;have tk: ∀u,(has kk u||has ff u)=Kn.taken u:=fun u=>by
  unfold Na;rw[k3]
  congr 1
  unfold has;rw[f2,Hv,GD,Mx,Lh]
 refine aN i Y.nd (Y.m0 Y.T.Ze.c (ke Y.T Y.C) [01] Y.up S rfl #[Z.B.r,Z.B.q,Z.B.kd,Z.B.fn,Z.B.ds,Z.B.bl,n,(x,xp),t',kk,ff,rfl,S.rd,k1,f1,fun b=>(fP Kn).K6 (Ql.trans b) hW H R.k,fun nb e=>?_,fun u ex e e4=>?_,fun u ex e e4 H' hp=>?_] hp) h
 ·refine fE (p:=Ge Kn) (n:=2) (t:=(x,xp)::t') ?_ nb hW H R.k
  cases x with
  |word u=>
   rw[dE] at e;have Rm:FZ.contains u=true:=by cases h:FZ.contains u;rw[h] at e;cases e;rfl
   exact ip Rm
  |num m=>rfl
  |sign s=>rfl
  |eof=>rfl
  |bad=>exact E7 rfl nb
 ·obtain rfl:x= .word u:=ex
  rw[dE] at e;have Rm:FZ.contains u=false:=by cases h:FZ.contains u;rfl;rw[h] at e;cases e
  refine fE (p:=Ge Kn) (n:=4) (t:=(.word u,xp)::t') ?_ [032] hW H R.k;rw[ee Rm,EL (by rw[<-tk];exact e4)]
 ·obtain rfl:x= .word u:=ex
  rw[dE] at e;have Rm:FZ.contains u=false:=by cases h:FZ.contains u;rfl;rw[h] at e;cases e
  have ft:Kn.taken u=false:=by rw[<-tk];exact e4
  have en:Ge Kn ((.word u,xp)::t')= .ok (u,t'):=by
   rw[ee Rm,EI (by rw[ft];exact EE)]
  rw[yP en] at hW;exact q u H' t' #[rfl,tok.1,tok.2] Rm ft (R.past S (fun z=>z.elim [032] fun z=>nomatch z) hp hW)
theorem ja (i:E1) {g:EC->EU β}(Y:RX X Z.a Z.E) (R:RS Z F b H t Kn (Ge Kn>>=g)) (q: ∀u H' t',Kn.taken u=false->RS Z F true H' t' Kn (g u)->Bd X ss D ((some (.ref Z.B.r)::σ).set i (some (.str (sb u)))) H')
  (h:Sl X i y:=by exact#[rfl,Gx rfl,rfl]) (hp:ig p2 p4:=by rfl):
  Bd X (.Assign [.Name y p0] (.Call (.Attribute [005] "take_free_name" p2) [] [] p4) p5::ss) D (some (.ref Z.B.r)::σ) H:=rF i Y R (fun u H' t' _ _=>q u H' t') h hp
theorem jD (h:Kn.taken u=false):Kn.values.contains u=false:=(Lx.mp h).1
theorem gB {te:TE}(Y:RX X Z.a Z.E) (he:PE X e te) (hv: ∀Q:VK,Q (.str (sb u)) H->te (some (.ref Z.B.r)::σ) H Q) (ft:Kn.taken u=false) (hm:Kn.values.length+Z.L<=4000) (R:RS Z F true H t Kn p)
  (q: ∀H',RS Z F true H' t (Kn.with u) p->Bd X ss D (some (.ref Z.B.r)::σ) H') (hp:ig p2 p4:=by rfl) (JS:Fb [e] X.env=[[000]]:=by rfl):
  Bd X (.Expr (.Call (.Attribute [005] "learn" p2) [e] [] p4) p5::ss) D (some (.ref Z.B.r)::σ) H:=by
 rw[021];rw[07];have l:=R.l;have l:t.length+1<=Z.L:=l;refine bw (Y.m1 Y.T.Zh.c (Cu Y.T) [01] aY S rfl #[_,he,hv _ #[Z.B.r,dr,Z.B.q,Z.B.kd,Z.B.fn,Z.B.ds,Z.B.bl,n,u,kk,rfl,er,k1,FP (show kk.length<=4000 by lia) [01],?_]] hp JS);exact q _ (R.go (S.ahk (jD ft) (by lia) k1) (eQ (.inr (.inl rfl))) l R.w)
theorem ll {te:TE}(Y:RX X Z.a Z.E) (he:PE X e te) (hv: ∀Q:VK,Q (.str (sb u)) H->te (some (.ref Z.B.r)::σ) H Q) (ft:Kn.taken u=false) (R:RS Z F b H t (Kn.with u) p)
  (q: ∀H',RS Z F b H' t Kn p->Bd X ss D (some (.ref Z.B.r)::σ) H') (hp:ig p2 p4:=by rfl) (JS:Fb [e] X.env=[[000]]:=by rfl):
  Bd X (.Expr (.Call (.Attribute [005] "forget" p2) [e] [] p4) p5::ss) D (some (.ref Z.B.r)::σ) H:=by
 rw[021];rw[07];obtain⟨hu,S'⟩:=S.forget (jD ft) k1;refine bw (Y.m1 Y.T.Wj.c (pE Y.T) [01] aY S rfl #[_,he,hv _ #[Z.B.r,dr,Z.B.q,Z.B.kd,Z.B.fn,Z.B.ds,Z.B.bl,n,u,kk,rfl,er,k1,hu,?_]] hp JS);exact q _ (R.go S' (eQ (.inr (.inl rfl))) R.l R.w)
theorem RX.call2 {sp:Sp}{te:TE}(Y:RX X a E) (c:CB X x ["reader","depth"] sp) (he:PE X e te) (hx:(x == [003])=false) (JS:Fb [e] X.env=[[000]]):PE X (.Call (.Name x p1) [.Name "reader" p2,e] [] p4) (BR sp [] E (Bm (k8 0) (Bm te zQ))):=by
 obtain⟨G,hr,d,hg⟩:=c;exact aL G hr hg d Y.up (aa Y.rd (aa he ag JS) (by show _::Fb [e] X.env=_;rfl)) hx rfl (by rw[JS];rfl)
end
def RoX (a:bf) (B:Rb) (H0:Hp) (L:E1) (Kn:EK) (Q:VK) (e:ER) (t:EG):Prop:= ∀H' v n,t.length<L->fm a B H' n t Kn->db (eW B) H0 H'->au a (eW B) H' e v->Q v H'
def Rz (w2:FR) (a:bf) (B:Rb) (H0:Hp) (L:E1) (Kn:EK) (Q:VK) (E:XK) (e:ER) (t:EG):Prop:=if w2=true/\E4 t= .bad then QE a B H0 E 1 (HC t) else RoX a B H0 L Kn Q e t
inductive aV (a:bf) (w2:FR) (p:E1->E1->EK->EU ER) (c:E1) (ok:E1->EK->EG->Prop) (vs:EA V) (H:Hp) (Q:VK) (E:XK):Prop
 |mk (B:Rb) (n:E1) (t:EG) (Kn:EK) (d:E1) (fuel:E1) (_:vs=[.ref B.r, .int d]) (_:d<=12) (_:ok d Kn t) (_:fm a B H n t Kn) (_:16*t.length+c<=fuel) (_:W (p fuel (12-d) Kn) t (Rz w2 a B H t.length Kn Q E) (QE a B H E)):aV a w2 p c ok vs H Q E
def Lv (j:E1):E1->EK->EG->Prop:=fun d _ _=>13<=d+j
def LvS (j:E1) (s:EC):E1->EK->EG->Prop:=fun d _ t=>13<=d+j/\E4 t= .sign s
def LvW (j:E1) (s:EC):E1->EK->EG->Prop:=fun d _ t=>13<=d+j/\E4 t= .word s
def LvC (j:E1):E1->EK->EG->Prop:=fun d K t=>13<=d+j/\ ∃u f,E4 t= .word u/\u≠ED "sum"/\FZ.contains u=false/\K.funs.find? (fun f=>f.1 == u)=some f
section
variable {k:E1}{w2:FR}{pp:E1->E1->EK->EU ER}{c:E1}{ok:E1->EK->EG->Prop}{x Gz:Fh}{st:Stmt}{f:EJ}{fd:FL}{N:EA Fh}{ps:EA Fh}
theorem kt {s:EM}{H:Hp}{E:XK}(T:aU K mg a) (XC:XT K a) (hk:8<=k) (S:az N ("reader"::ps) (af st)) (hr:bW k (A.deeper [011])):
  RX (fg (fW P w) P w K mg base N Gz (af st) f Gp A outer s H E) a E:=
 #[T,XC,hr.mono hk,aA,Iq,S.nd,by
  have e:=S.pre;cases N with
  |nil=>cases e
  |cons x l=>exact FN some (IZ e).1,(S.par "reader" EO).elim .inl fun z=> .inr (.inl z)]
set_option cleanup.letToHave false in
theorem uX (T:aU K mg a) (XC:XT K a) (hk:8<=k) (F:oJ K x Gz st f fd) (S:az N ["reader","depth"] (af st))
  (Jc: ∀(Gp:EH) (A:Gk) (outer:EA Env) (s:EM) (H:Hp) (B:Rb) (t:EG) (Kn:EK) (d fuel:E1) (Q:VK) (E:XK),bW k (A.deeper [011])->d<=12->ok d Kn t->16*t.length+c<=fuel->Kn.values.length+t.length<=4000->
   let X:=fg (fW P w) P w K mg base N Gz (af st) f Gp A outer s H E
   let D:eG:= { nx:=fun _ H'=>Q .HZ H',rt:=Q }
   let Z:Zf ER:=#[a,E,B,t.length,H,Rz w2 a B H t.length Kn Q E]
   RX X a E->RS Z [] false H t Kn (pp fuel (12-d) Kn)->Bd X (a7 st) D (L2.start N [.ref B.r, .int d]) H):bS P w K mg base (fW P w) (k+1) f fd ["reader","depth"] (aV a w2 pp c ok):=by
 rw[017];obtain⟨B,n,t,Kn,d,fuel,rfl,hd,ho,St,hf,hW⟩:=h;exact Jc Gp A outer s H B t Kn d fuel Q E hr hd ho hf St.kn.len [063] #[#[n,St],db.refl,fun {i x} e=>(by cases e),E6 _,hW]
end
section
variable {X:Cx}{β:Type}{Z:Zf β}{F:EA (Fk×V)}{b:FR}{H:Hp}{t:EG}{Kn:EK}{D:eG}{ss:EA Stmt}{σ:L2.St}{p0 p1 p2 p3 p4 p5:Pos}{j:E1}{v y:Fh}{s:String}{E:XK}{d:E1}
theorem RS.done {H0:Hp}{w2:FR}{Q:VK}{v:V}(R:RS #[a,E,B,L,H0,Rz w2 a B H0 L Kn Q E] F true H t Kn (pure e)) (h:au a (eW B) H e v) (nb:w2=true->E4 t≠ .bad:=by intro z;cases z):Q v H:=by
 rw[00];have w:=R.w;rw[BW] at w;have w:Rz w2 a B H0 L Kn Q E e t:=w;unfold Rz at w;rw[EI fun z=>nb z.1 z.2] at w;exact w H v n R.l S R.k h
theorem RS.tail {w2:FR}{Q:VK}{pp:E1->E1->EK->EU ER}{c f:E1}{ok:E1->EK->EG->Prop}(R:RS #[a,E,B,t.length,H,Rz w2 a B H t.length Kn Q E] F b H t Kn (pp f (12-d) Kn)) (hd:d<=12) (ho:ok d Kn t) (hf:16*t.length+c<=f):aV a w2 pp c ok [.ref B.r, .int d] H Q E:=by
 rw[00];exact#[B,n,t,Kn,d,f,rfl,hd,ho,S,hf,R.w]
theorem zi (i:E1) {g:E1->EU β}(Y:RX X Z.a Z.E) (hd:d<=12) (nb:E4 t≠ .bad) (R:RS Z F b H t Kn (GS (12-d)>>=g)) (q:d<12->RS Z F b H t Kn (g (12-(d+1)))->Bd X ss D ((some (.ref Z.B.r)::some (.int d)::σ).set i (some [059])) H)
  (h:Sl X i y:=by exact#[rfl,Gx rfl,rfl]) (h1:X.N[1]?=some ("depth":Fh):=by rfl) (v1:oH X.env.scope "depth":=by exact Gx rfl) (hg:Gl X "deeper":=by rfl):
  Bd X (.Assign [.Name y p0] (.Call (.Name "deeper" p1) [.Name "reader" p2, .Name "depth" p3] [] p4) p5::ss) D (some (.ref Z.B.r)::some (.int d)::σ) H:=by
 rw[00];rw[023];have hW:=R.w;rw[js] at hW;have nx:x≠ .bad:=nb;refine aN i Y.nd (h:=h) #[_,Y.call2 #[akU Y.T Y.C,Y.hr.mono [01],Y.T.d_f.c,hg] (dU h1 v1) [01] rfl,Z.B.r,Z.B.q,Z.B.kd,Z.B.fn,Z.B.ds,Z.B.bl,n,(x,xp),t',d,rfl,S.rd,fun e=>?_,fun e=>?_]
 ·rw[EI nx]
  exact fE (p:=GS (12-d)) (n:=6) (by unfold GS;rw[EL (by lia)]) nb hW H R.k
 ·have ed:GS (12-d) ((x,xp)::t')= .ok (12-(d+1),(x,xp)::t'):=by unfold GS;rw[EI (by lia),show 12-d-1=12-(d+1) by lia]
  rw[yP ed] at hW;exact q (by lia) #[R.S,R.k,R.f,R.l,hW]
def En (Z:Zf β) (g:ER->EU β):Prop:= ∀e r,E4 r= .bad->W (g e) r Z.Ro (QE Z.a Z.B Z.H0 Z.E)->QE Z.a Z.B Z.H0 Z.E 1 (HC r)
theorem oi {g:ER->EU β}(h: ∀e,aI (g e)):En Z g:=fun e _ nb w=>(h e).K6 nb w
theorem alg {H0:Hp}{Q:VK}{g:ER->ER} :En #[a,E,B,L,H0,Rz true a B H0 L Kn Q E] (fun y=>pure (g y)):=fun e r nb w=>by
 rw[BW] at w;have w:Rz true a B H0 L Kn Q E (g e) r:=w;unfold Rz at w;rw[EL #[rfl,nb]] at w;exact w
theorem RS.T3 {w2:FR}{g:ER->EU β}{pp:E1->E1->EK->EU ER}{c f:E1}{ok:E1->EK->EG->Prop}{Q:VK}(R:RS Z F b H t Kn (pp f (12-d) Kn>>=g)) (st:w2=true->En Z g) (hd:d<=12) (ho:ok d Kn t) (hf:16*t.length+c<=f)
  (q: ∀e v H' t',(w2=true->E4 t'≠ .bad)->RS Z ((.e e,v)::F) true H' t' Kn (g e)->Q v H'):aV Z.a w2 pp c ok [.ref Z.B.r, .int d] H Q Z.E:=by
 rw[00];have hW:=R.w;rw[js] at hW;have l:t.length<=Z.L:=Fj (Ju _ _) R.l;refine#[Z.B,n,t,Kn,d,f,rfl,hd,ho,S,hf,hW.mono (fun e r w=>?_) fun _ _ z H' k=>z H' (R.k.trans k)];unfold Rz;by_cases nb:w2=true/\E4 r= .bad
 ·rw[EL nb]
  exact fun H' k=>st nb.1 e r nb.2 w H' (R.k.trans k)
 ·rw[EI nb]
  exact fun H' v n' l' S' k' h=>q e v H' r (fun h z=>nb #[h,z]) ((R.go (b':=true) S' k' (show r.length+1<=Z.L by lia) w).and h)
theorem RS.call {g:ER->EU β}{pp:E1->E1->EK->EU ER}{c f:E1}{ok:E1->EK->EG->Prop}{Q:VK}(R:RS Z F b H t Kn (pp f (12-d) Kn>>=g)) (st:En Z g) (hd:d<=12) (ho:ok d Kn t) (hf:16*t.length+c<=f)
  (q: ∀e v H' t',E4 t'≠ .bad->RS Z ((.e e,v)::F) true H' t' Kn (g e)->Q v H'):aV Z.a true pp c ok [.ref Z.B.r, .int d] H Q Z.E:=R.T3 (fun _=>st) hd ho hf fun e v H' t' nb=>q e v H' t' (nb rfl)
theorem RS.ahn {g:ER->EU β}{pp:E1->E1->EK->EU ER}{c f:E1}{ok:E1->EK->EG->Prop}{Q:VK}(R:RS Z F b H t Kn (pp f (12-d) Kn>>=g)) (hd:d<=12) (ho:ok d Kn t) (hf:16*t.length+c<=f)
  (q: ∀e v H' t',RS Z ((.e e,v)::F) true H' t' Kn (g e)->Q v H'):aV Z.a false pp c ok [.ref Z.B.r, .int d] H Q Z.E:=R.T3 [032] hd ho hf fun e v H' t' _=>q e v H' t'
theorem d9 (i:E1) {x:Fh}{g:ER->EU β}{pp:E1->E1->EK->EU ER}{c f:E1}{ok:E1->EK->EG->Prop}{te:TE}(Y:RX X Z.a Z.E) (cl:CB X x ["reader","depth"] (aV Z.a true pp c ok)) (he:PE X e te) (hv: ∀Q:VK,Q (.int d) H->te (some (.ref Z.B.r)::σ) H Q)
  (R:RS Z F true H t Kn (pp f (12-d) Kn>>=g)) (st:En Z g) (hd:d<=12) (ho:ok d Kn t) (hf:16*Z.L+c<=f+16)
  (q: ∀e v H' t',RS Z ((.e e,v)::F) true H' t' Kn (g e)->Bd X ss D ((some (.ref Z.B.r)::σ).set i (some v)) H')
  (h:Sl X i y:=by exact#[rfl,Gx rfl,rfl]) (hx:(x == [003])=false:=by decide) (JS:Fb [e] X.env=[[000]]:=by rfl):
  Bd X (.Assign [.Name y p0] (.Call (.Name x p1) [.Name "reader" p2,e] [] p4) p5::ss) D (some (.ref Z.B.r)::σ) H:=by
 have l:t.length+1<=Z.L:=R.l;refine aN i Y.nd #[_,Y.call2 cl he hx JS,?_] h;exact hv _ (R.call st hd ho (by lia) fun e v H' t' _ R'=>q e v H' t' R')
theorem RX.make {c:Fh}{C:EJ}{fs:EA Fh}{e:G8}{es:EA G8}{tt:TA}(Y:RX X a E) (nb:NB X c C fs) (ha:PA X (e::es) tt) (hg:Gl X c) (hx:(c == [003])=false) (he:Fb (e::es) X.env=[000]::Fb es X.env) (Ma:(Ie p4 [034]).any (·.1)=false):
  PE X (.Call (.Name c p1) (e::es) [] p4) (Bb C (lw C fs) [] E0 tt):=by
 obtain⟨M,G,b,hm⟩:=nb;exact g7 M G (Y.hr.mono [01]) hg hm b .nil aY ha hx he Ma
theorem jp {c:Fh}{C:EJ}{fs:EA Fh}{e:G8}{es:EA G8}{Q:VK}(Y:RX X a E) (nb:NB X c C fs) (q:Pa X (e::es) σ H fun ws H1=> ∀x dx,H1 x=none->H1 dx=none->dx≠x->lw C fs (.ref x::(ws++[])) (aF (aF H1 dx (.own x)) x (.ins C dx [])) (fun v H2=>v= .HZ/\Q (.ref x) H2) E0)
  (hg:Gl X c:=by rfl) (hx:(c == [003])=false:=by decide) (he:Fb (e::es) X.env=[000]::Fb es X.env:=by rfl) (Ma:(Ie p4 [034]).any (·.1)=false:=by rfl):Pe X (.Call (.Name c p1) (e::es) [] p4) σ H Q:=#[_,Y.make nb rH hg hx he Ma,q]
theorem RS.new {p:EU β}{Q:VK}(R:RS Z F b H t Kn p) (hl:ws.length=fs.length) (q: ∀u H',bC (eW Z.B) H' C (fs.zip ws) u->RS Z F b H' t Kn p->Q u H'):
  ∀x dx,H x=none->H dx=none->dx≠x->lw C fs (.ref x::(ws++[])) (aF (aF H dx (.own x)) x (.ins C dx [])) (fun v H2=>v= .HZ/\Q (.ref x) H2) E0:=fun x dx hx Ur ne=>by
 rw[00];refine#[x,dx,ws++[],rfl,by rw[Gw];exact hl,ae,fun H' h1 h2=>#[rfl,?_]];rw[Gw] at h1;have sm:a9 H H':=fun b o e=>h2 b o (by rw[ac (ai e hx),ac (ai e Ur)];exact e) (ai e hx);exact q _ H' #[x,dx,rfl,S.fresh hx,h1] (R.go (S.same sm) (OS.a9.keeps sm) R.l R.w)
theorem hJ {p:EU β}{c:Fh}(Y:RX X Z.a Z.E) (nb:NB X c C fs) (ha:PA X (e::es) tt) (hv: ∀Q:EA V->Hp->Prop,Q ws H->tt σ H Q) (R:RS Z F b H t Kn p) (hl:ws.length=fs.length) (q: ∀u H',bC (eW Z.B) H' C (fs.zip ws) u->RS Z F b H' t Kn p->D.rt u H')
  (hg:Gl X c:=by rfl) (hx:(c == [003])=false:=by decide) (he:Fb (e::es) X.env=[000]::Fb es X.env:=by rfl) (Ma:(Ie p4 [034]).any (·.1)=false:=by rfl):
  Bd X [.Return (some (.Call (.Name c p1) (e::es) [] p4)) p5] D σ H:=eF (aJ (Y.make nb ha hg hx he Ma)) (hv _ (R.new hl q))
end
theorem xA:d7 "(" (ED "("):=[008]
theorem uZ:d7 ")" (ED ")"):=[008]
theorem uQ:cY "sum" (ED "sum"):=[007]
theorem X8:cY "in" (ED "in"):=[007]
theorem X9:d7 ".." (ED ".."):=[008]
theorem Ya:d7 ":" (ED ":"):=[008]
theorem tH {Kn:EK}{t:EG} :F9 (f+1) d Kn ((.word (ED "sum"),xp)::t)=
  (GS d>>=fun e=>F3>>=fun _=>FC "(">>=fun _=>Ge Kn>>=fun x=>GN "in">>=fun _=>Ff f e Kn>>=fun lo=>FC "..">>=fun _=>Ff f e Kn>>=fun hi=>FC ":">>=fun _=>
   Ff f e (Kn.with x)>>=fun y=>FC ")">>=fun _=>pure (.sum x lo hi y):EU ER) ((.word (ED "sum"),xp)::t):=by
 rw[F9];show(if ED "sum"=ED "sum" then _ else _)=_
 rw[EL rfl]
theorem vV:cY "if" (ED "if"):=[007]
theorem D5:cY "then" (ED "then"):=[007]
theorem qk:cY "else" (ED "else"):=[007]
theorem DC {Kn:EK}{t:EG} :Ff (f+1) d Kn ((.word (ED "if"),xp)::t)=
  (GS d>>=fun e=>F3>>=fun _=>Ff f e Kn>>=fun c=>GN "then">>=fun _=>Ff f e Kn>>=fun x=>GN "else">>=fun _=>Ff f e Kn>>=fun y=>pure (.pick c x y):EU ER) ((.word (ED "if"),xp)::t):=by
 rw[Ff];show(if EV ((.word (ED "if"),xp)::t) "if"=true then _ else _)=_
 rw[EL (by unfold EV;exact Gr _)]
theorem uU {Kn:EK}{t:EG} :F9 (f+1) d Kn ((.sign (ED "("),xp)::t)=
  (GS d>>=fun e=>F3>>=fun _=>Ff f e Kn>>=fun x=>FC ")">>=fun _=>pure x:EU ER) ((.sign (ED "("),xp)::t):=by
 rw[F9];show(if FD ((.sign (ED "("),xp)::t) "("=true then _ else _)=_
 rw[EL (by unfold FD;exact Gr _)]
theorem eY {β:Type}{Z:Zf β}{F:EA (Fk×V)}{b:FR}{H:Hp}{t:EG}{Kn:EK}{p:EU β}(R:RS Z F b H t Kn p) (h:E4 t= .word u): ∃xp r,t=(.word u,xp)::r:=by
 rw[00];obtain⟨⟨x,xp⟩,r,rfl,_,_,_,_⟩:=S.wh.first;exact#[xp,r,by rw[show x= .word u from h]]
theorem wj {β:Type}{Z:Zf β}{F:EA (Fk×V)}{b:FR}{H:Hp}{t:EG}{Kn:EK}{p:EU β}(R:RS Z F b H t Kn p) (h:E4 t= .sign u): ∃xp r,t=(.sign u,xp)::r:=by
 rw[00];obtain⟨⟨x,xp⟩,r,rfl,_,_,_,_⟩:=S.wh.first;exact#[xp,r,by rw[show x= .sign u from h]]
theorem AQ (h:16*L+c<=f) (hc:6<=c): ∃g,f=g+1/\16*L+12<=g+16:=#[f-1,by lia,by lia]
section
variable {β:Type}{Z:Zf β}{H:Hp}
theorem iH {g:Mo->EU β}(Y:RX X Z.a Z.E) (l:cY v (ED s)) (R:RS Z F b H ((.word (ED s),xp)::t) Kn (F3>>=g)) (q: ∀H' t',RS Z F true H' t' Kn (g ())->Bd X ss D (some (.ref Z.B.r)::σ) H') (hp:ig p2 p4:=by rfl):
  Bd X [057] D (some (.ref Z.B.r)::σ) H:=
 qb Y R (fun r e ok=>by
  cases e;exact Ar t (by rw[bX ok l];exact Gr _) [062] (by intro z;cases z with|inl z=>cases z|inr z=>cases z)) q hp
theorem B3 {g:Mo->EU β}(Y:RX X Z.a Z.E) (l:d7 v (ED s)) (R:RS Z F b H ((.sign (ED s),xp)::t) Kn (F3>>=g)) (q: ∀H' t',RS Z F true H' t' Kn (g ())->Bd X ss D (some (.ref Z.B.r)::σ) H') (hp:ig p2 p4:=by rfl):
  Bd X [057] D (some (.ref Z.B.r)::σ) H:=
 qb Y R (fun r e ok=>by
  cases e;exact Ar t (by rw[cO ok l];exact Gr _) [062] (by intro z;cases z with|inl z=>cases z|inr z=>cases z)) q hp
end
theorem aho (T:aU K mg a) (XC:XT K a) (hk:8<=k)
  (G:T.RM.O P w base k (aV a true Ff 12 (Lv j))):
  T.Wo.O P w base (k+1) (aV a false F9 6 (LvW (j+1) (ED "sum"))):=by
 refine uX T XC hk T.Wo.F ago fun Gp A outer s H B t Kn d fuel Q E hr hd ho hf hm=>?_;intro X D Z Y R;obtain⟨hl,h0⟩:=ho;obtain⟨xp,r,rfl⟩:=eY R h0;obtain⟨f,rfl,hF⟩:=AQ hf [01];rw[024];refine zi 2 Y hd [062] (R.as tH) fun lt R=>?_;refine iH Y uQ R fun H t R=>?_;refine cC Y xA R fun H t R=>?_;refine ja 3 Y R fun u H t ft R=>?_;refine kY Y X8 R fun H t R=>?_;refine d9 4 Y c (pv 2) [05] R (oi fun x=>(be "..").bind) lt hl hF fun e1 v1 H t R=>?_;refine cC Y X9 R fun H t R=>?_;refine d9 5 Y c (pv 2) [05] R (oi fun x=>(be ":").bind) lt hl hF fun e2 v2 H t R=>?_;refine cC Y Ya R fun H t R=>?_;refine gB Y (pv 3) [05] ft hm R fun H R=>?_;refine d9 6 Y c (pv 2) [05] R (oi fun x=>(be ")").bind) lt hl hF fun e3 v3 H t R=>?_;refine ll Y (pv 3) [05] ft R fun H R=>?_;refine cC Y uZ R fun H t R=>?_;refine hJ Y (aay T) (aa (pv 3) (aa (pv 4) (aa (pv 5) (aa (pv 6) ag)))) [05] R rfl fun u H i R=>R.done ?_;unfold au;exact#[v1,v2,v3,i,R.f (i:=2) rfl,R.f (i:=1) rfl,R.f (i:=0) rfl]
theorem ahp (T:aU K mg a) (XC:XT K a) (hk:8<=k)
  (G:T.RM.O P w base k (aV a true Ff 12 (Lv j))):
  T.Wn.O P w base (k+1) (aV a false F9 6 (LvS (j+1) (ED "("))):=by
 refine uX T XC hk T.Wn.F agn fun Gp A outer s H B t Kn d fuel Q E hr hd ho hf hm=>?_;intro X D Z Y R;obtain⟨hl,h0⟩:=ho;obtain⟨xp,r,rfl⟩:=wj R h0;obtain⟨f,rfl,hF⟩:=AQ hf [01];rw[024];refine zi 2 Y hd [062] (R.as uU) fun lt R=>?_;refine B3 Y xA R fun H t R=>?_;refine d9 3 Y c (pv 2) [05] R (oi fun x=>(be ")").bind) lt hl hF fun e v H t R=>?_;refine cC Y uZ R fun H t R=>?_;exact aK (bv 3 (R.done (R.f (i:=0) rfl)))
theorem ahq (T:aU K mg a) (XC:XT K a) (hk:8<=k)
  (G:T.RM.O P w base k (aV a true Ff 12 (Lv j))):
  T.Wl.O P w base (k+1) (aV a true Ff 12 (LvW (j+1) (ED "if"))):=by
 refine uX T XC hk T.Wl.F agk fun Gp A outer s H B t Kn d fuel Q E hr hd ho hf hm=>?_;intro X D Z Y R;obtain⟨hl,h0⟩:=ho;obtain⟨xp,r,rfl⟩:=eY R h0;obtain⟨f,rfl,hF⟩:=AQ hf [01];rw[024];refine zi 2 Y hd [062] (R.as DC) fun lt R=>?_;refine iH Y vV R fun H t R=>?_;refine d9 3 Y c (pv 2) [05] R (oi fun x=>(eR "then").bind) lt hl hF fun e1 v1 H t R=>?_;refine kY Y D5 R fun H t R=>?_;refine d9 4 Y c (pv 2) [05] R (oi fun x=>(eR "else").bind) lt hl hF fun e2 v2 H t R=>?_;refine kY Y qk R fun H t R=>?_;have l:t.length+1<=Z.L:=R.l;refine aK (jp Y (yK T) (aO (bv 3 (aO (bv 4 (aO #[_,Y.call2 c (pv 2) [01] rfl,R.call alg lt hl (by lia) fun e3 v3 H t nb R=>cD (R.new rfl fun u H i R=>R.done ?_ fun _=>nb)]))))));unfold au;exact#[v1,v2,v3,i,R.f (i:=2) rfl,R.f (i:=1) rfl,R.f (i:=0) rfl]
end OS
namespace OS
open Vbemac
def ors (f d:E1) (Kn:EK):EU ER:=do
 let x<-ands f d Kn
 let l<-moreOr f d Kn
 return (match l with
  | .nil=>x
  |l=> .either x l)
abbrev Pairs:=EA (FJ×Exp)
def uW:Pairs->Exps->Exps
 |[],l=>l
 |x::r,l=> .cons x.2 (uW r l)
def vD:Pairs->Rest->Rest
 |[],l=>l
 |x::r,l=> .cons x.1 x.2 (vD r l)
theorem rS:uW (es++[x]) l=uW es (.cons x.2 l):=by
 induction es with
 |nil=>rfl
 |cons y r ih=>show Exps.cons y.2 (uW (r++[x]) l)=_;rw[ih];rfl
theorem rR:vD (es++[x]) l=vD es (.cons x.1 x.2 l):=by
 induction es with
 |nil=>rfl
 |cons y r ih=>show Rest.cons y.1 y.2 (vD (r++[x]) l)=_;rw[ih];rfl
theorem bG {α β:Type}{p:P α}{g:α->P β}{x:α}(h:p t= .ok (x,r)):(p>>=g) t=g x r:=by
 show Fi p g t=_
 unfold Fi;rw[h]
 rfl
theorem jN {α β:Type}{p q:P α}{g:α->P β}(e:p t=q t'):(p>>=g) t=(q>>=g) t':=by
 show Fi p g t=Fi q g t'
 unfold Fi;rw[e]
structure ChP (p sub:E1->E1->Known->P Exp) (c c':E1) (sg:EA FJ) (once:FR) (res:Exp->Pairs->Exp) where
 q:E1->E1->Known->Exp->Pairs->P Exp
 start: ∀ {fuel d:E1}{Kn:Known}{n:E1},16*n+c<=fuel-> ∃f,16*n+c'<=f/\p fuel d Kn=(sub f d Kn>>=fun e=>q f d Kn e [])
 ON: ∀f d Kn e es,gZ (q f d Kn e es)
 stop: ∀ {f d:E1}{Kn:Known}{e:Exp}{es:Pairs}{t:L9},1<=f->(once=true->es.length<=1)->(once=true/\es≠[]\/ ∀op,peek t= .sign op->op∉sg)->q f d Kn e es t= .ok (res e es,t)
 go: ∀ {f d:E1}{Kn:Known}{e:Exp}{es:Pairs}{x:Tok×Pos}{t:L9}{op:FJ},16*(t.length+1)+c'<=f->(once=true->es=[])->x.1= .sign op->op∈sg-> ∃f',16*t.length+c'<=f'/\q f d Kn e es (x::t)=(sub f' d Kn>>=fun e2=>q f' d Kn e (es++[(op,e2)])) t
def Eb (e:Exp):Exps->Exp
 | .nil=>e
 |l=> .either e l
def bth (e:Exp):Exps->Exp
 | .nil=>e
 |l=> .both e l
def sms (e:Exp):Rest->Exp
 | .nil=>e
 |l=> .sums e l
def oG (e:Exp):Rest->Exp
 | .nil=>e
 |l=> .prods e l
def S0:EA FJ:=[text "||"]
def S1:EA FJ:=[text "&&"]
def S2:EA FJ:=["==","!=","<=",">=","<",">"].map text
def S3:EA FJ:=["+","-"].map text
def S4:EA FJ:=["*","/","%"].map text
theorem aaR {f d:E1}{Kn:Known} :ors f d Kn=(ands f d Kn>>=fun x=>moreOr f d Kn>>=fun l=>pure (Eb x l):P Exp):=by
 unfold ors
 congr 1
theorem D8 {f d:E1}{Kn:Known} :ands (f+1) d Kn=(compared f d Kn>>=fun x=>moreAnd f d Kn>>=fun l=>pure (bth x l):P Exp):=by
 rw[ands]
 congr 1
theorem BJ {f d:E1}{Kn:Known} :added (f+1) d Kn=(times f d Kn>>=fun x=>moreAdded f d Kn>>=fun l=>pure (sms x l):P Exp):=by
 rw[added]
 congr 1
theorem B6 {f d:E1}{Kn:Known} :times (f+1) d Kn=(unary f d Kn>>=fun x=>moreTimes f d Kn>>=fun l=>pure (oG x l):P Exp):=by
 rw[times]
 congr 1
theorem nQ {t:L9}{s:String}{l:EA FJ}(h: ∀op,peek t= .sign op->op∉l) (m:text s∈l):Ll t s=false:=by
 unfold Ll;rw[beq_eq_false_iff_ne];exact fun z=>h _ z m
theorem jo (h: ∀op,peek t= .sign op->op∉l.map text):KW l t= .ok (none,t):=by
 unfold KW;cases e:peek t with
 |sign s=>
  dsimp only;rw[EI (by rw[FK];exact h s e)]
 |_=>rfl
theorem kQ (e:x.1= .sign op) (h:op∈l.map text):KW l (x::t)= .ok (some op,t):=by
 unfold KW;have e:peek (x::t)= .sign op:=e;rw[e];dsimp only;rw[EL (by rw[FK];exact h)]
 rfl
theorem vq {f d:E1}{Kn:Known}{t:L9}(h:Ll t "||"=false):moreOr (f+1) d Kn t= .ok (.nil,t):=by
 rw[moreOr];show(Fi (ifSign "||") _) t=_;unfold Fi ifSign;rw[h]
 rfl
theorem sw {f d:E1}{Kn:Known}{t:L9}(h:Ll t "&&"=false):moreAnd (f+1) d Kn t= .ok (.nil,t):=by
 rw[moreAnd];show(Fi (ifSign "&&") _) t=_;unfold Fi ifSign;rw[h]
 rfl
theorem xS {f d:E1}{Kn:Known}{x:Tok×Pos}{t:L9}(h:Ll (x::t) "||"=true):moreOr (f+1) d Kn (x::t)=(ands f d Kn>>=fun a=>moreOr f d Kn>>=fun l=>pure (.cons a l):P Exps) t:=by
 rw[moreOr];show(Fi (ifSign "||") _) (x::t)=_;unfold Fi ifSign;rw[h]
 rfl
theorem u9 {f d:E1}{Kn:Known}{x:Tok×Pos}{t:L9}(h:Ll (x::t) "&&"=true):moreAnd (f+1) d Kn (x::t)=(compared f d Kn>>=fun a=>moreAnd f d Kn>>=fun l=>pure (.cons a l):P Exps) t:=by
 rw[moreAnd];show(Fi (ifSign "&&") _) (x::t)=_;unfold Fi ifSign;rw[h]
 rfl
theorem o6 {f d:E1}{Kn:Known}{t:L9}(h: ∀op,peek t= .sign op->op∉S3):moreAdded (f+1) d Kn t= .ok (.nil,t):=by
 rw[moreAdded];show(Fi (KW ["+","-"]) _) t=_;unfold Fi;rw[jo h]
 rfl
theorem oX {f d:E1}{Kn:Known}{t:L9}(h: ∀op,peek t= .sign op->op∉S4):moreTimes (f+1) d Kn t= .ok (.nil,t):=by
 rw[moreTimes];show(Fi (KW ["*","/","%"]) _) t=_;unfold Fi;rw[jo h]
 rfl
theorem qG {f d:E1}{Kn:Known}{x:Tok×Pos}{t:L9}{op:FJ}(e:x.1= .sign op) (h:op∈S3):moreAdded (f+1) d Kn (x::t)=(times f d Kn>>=fun a=>moreAdded f d Kn>>=fun l=>pure (.cons op a l):P Rest) t:=by
 rw[moreAdded];show(Fi (KW ["+","-"]) _) (x::t)=_;unfold Fi;rw[kQ e h]
 rfl
theorem qw {f d:E1}{Kn:Known}{x:Tok×Pos}{t:L9}{op:FJ}(e:x.1= .sign op) (h:op∈S4):moreTimes (f+1) d Kn (x::t)=(unary f d Kn>>=fun a=>moreTimes f d Kn>>=fun l=>pure (.cons op a l):P Rest) t:=by
 rw[moreTimes];show(Fi (KW ["*","/","%"]) _) (x::t)=_;unfold Fi;rw[kQ e h]
 rfl
def my (f d:E1) (Kn:Known) (a:Exp):P Exp:=KW ["==","!=","<=",">=","<",">"]>>=fun s=>match s with
 |none=>pure a
 |some op=>added f d Kn>>=fun b=>pure (.cmp op a b)
theorem sV {f d:E1}{Kn:Known} :compared (f+1) d Kn=(added f d Kn>>=fun x=>my f d Kn x:P Exp):=by
 rw[compared]
 rfl
theorem vi (f d:E1) (Kn:Known) (a:Exp):gZ (my f d Kn a):=(sv _).bind fun s=>by
 cases s with
 |none=>exact fK _
 |some op=>exact(jZ f d Kn).bind.ON
theorem yk {f d:E1}{Kn:Known}{a:Exp}{t:L9}(h: ∀op,peek t= .sign op->op∉S2):my f d Kn a t= .ok (a,t):=by
 unfold my;show(Fi (KW ["==","!=","<=",">=","<",">"]) _) t=_;unfold Fi;rw[jo h]
 rfl
theorem Cy {f d:E1}{Kn:Known}{a:Exp}{x:Tok×Pos}{t:L9}{op:FJ}(e:x.1= .sign op) (h:op∈S2):my f d Kn a (x::t)=(added f d Kn>>=fun b=>pure (.cmp op a b):P Exp) t:=by
 unfold my;show(Fi (KW ["==","!=","<=",">=","<",">"]) _) (x::t)=_;unfold Fi;rw[kQ e h]
 rfl
theorem wU {x:Tok×Pos}{t:L9}{op:FJ}{s:String}(e:x.1= .sign op) (h:op∈[text s]):Ll (x::t) s=true:=by
 unfold Ll;obtain rfl:=Fd.mp h;exact beq_iff_eq.mpr e
def alh:ChP ors ands 11 11 S0 false (fun e es=>Eb e (uW es .nil)) where
 q f d Kn e es:=moreOr f d Kn>>=fun l=>pure (Eb e (uW es l))
 start {fuel d Kn n} hf:=#[fuel,by lia,by rw[aaR];rfl]
 ON f d Kn e es:=(sN f d Kn).bind fun l=>fK _
 stop {f d Kn e es t} hf _ h:=by
  rw[05];rcases h with⟨h,_⟩|h
  ·cases h
  ·exact bG (vq (nQ h (Fd.mpr rfl)))
 go {f d Kn e es x t op} hf _ e1 h:=by
  rw[05];refine#[f,by lia,?_];rw[jN (xS (wU e1 h)),bind_assoc];refine FN (fun g=>(ands f d Kn>>=g:P Exp) t) (funext fun a=>?_);rw[bind_assoc];simp only[rS]
  rfl
def ahr:ChP ands compared 11 10 S1 false (fun e es=>bth e (uW es .nil)) where
 q f d Kn e es:=moreAnd f d Kn>>=fun l=>pure (bth e (uW es l))
 start {fuel d Kn n} hf:=by
  obtain⟨f,rfl⟩: ∃f',fuel=f'+1:=[076];exact#[f,by lia,by rw[D8];rfl]
 ON f d Kn e es:=(rf f d Kn).bind fun l=>fK _
 stop {f d Kn e es t} hf _ h:=by
  rw[05];rcases h with⟨h,_⟩|h
  ·cases h
  ·exact bG (sw (nQ h (Fd.mpr rfl)))
 go {f d Kn e es x t op} hf _ e1 h:=by
  rw[05];refine#[f,by lia,?_];rw[jN (u9 (wU e1 h)),bind_assoc];refine FN (fun g=>(compared f d Kn>>=g:P Exp) t) (funext fun a=>?_);rw[bind_assoc];simp only[rS]
  rfl
def ahs:ChP added times 9 8 S3 false (fun e es=>sms e (vD es .nil)) where
 q f d Kn e es:=moreAdded f d Kn>>=fun l=>pure (sms e (vD es l))
 start {fuel d Kn n} hf:=by
  obtain⟨f,rfl⟩: ∃f',fuel=f'+1:=[076];exact#[f,by lia,by rw[BJ];rfl]
 ON f d Kn e es:=(oz f d Kn).bind fun l=>fK _
 stop {f d Kn e es t} hf _ h:=by
  rw[05];rcases h with⟨h,_⟩|h
  ·cases h
  ·exact bG (o6 h)
 go {f d Kn e es x t op} hf _ e1 h:=by
  rw[05];refine#[f,by lia,?_];rw[jN (qG e1 h),bind_assoc];refine FN (fun g=>(times f d Kn>>=g:P Exp) t) (funext fun a=>?_);rw[bind_assoc];simp only[rR]
  rfl
def aht:ChP times unary 8 7 S4 false (fun e es=>oG e (vD es .nil)) where
 q f d Kn e es:=moreTimes f d Kn>>=fun l=>pure (oG e (vD es l))
 start {fuel d Kn n} hf:=by
  obtain⟨f,rfl⟩: ∃f',fuel=f'+1:=[076];exact#[f,by lia,by rw[B6];rfl]
 ON f d Kn e es:=(ou f d Kn).bind fun l=>fK _
 stop {f d Kn e es t} hf _ h:=by
  rw[05];rcases h with⟨h,_⟩|h
  ·cases h
  ·exact bG (oX h)
 go {f d Kn e es x t op} hf _ e1 h:=by
  rw[05];refine#[f,by lia,?_];rw[jN (qw e1 h),bind_assoc];refine FN (fun g=>(unary f d Kn>>=g:P Exp) t) (funext fun a=>?_);rw[bind_assoc];simp only[rR]
  rfl
def ahu (e:Exp):Pairs->Exp
 |[]=>e
 |x::_=> .cmp x.1 e x.2
def ali (f d:E1) (Kn:Known) (e:Exp):Pairs->P Exp
 |[]=>my f d Kn e
 |x::_=>pure (.cmp x.1 e x.2)
def ahv:ChP compared added 10 9 S2 true ahu where
 q:=ali
 start {fuel d Kn n} hf:=by
  obtain⟨f,rfl⟩: ∃f',fuel=f'+1:=[076];exact#[f,by lia,by rw[sV];rfl]
 ON f d Kn e es:=by
  cases es with
  |nil=>exact vi f d Kn e
  |cons x r=>exact fK _
 stop {f d Kn e es t} hf _ h:=by
  cases es with
  |nil=>
   rcases h with⟨_,h⟩|h
   ·exact E7 rfl h
   ·exact yk h
  |cons x r=>rfl
 go {f d Kn e es x t op} hf h0 e1 h:=by
  obtain rfl:=h0 rfl;exact#[f,by lia,Cy e1 h]
end OS
namespace OS
open PySem PySem.Spec L2
open PyProof.Rows hiding St
variable {P:Fz}{w:Ga}{K:EF}{mg:Fh->ET EH}{base:Gn}{a:bf}
theorem Yb {u:EC}{xp:FT} : ¬ju (.word u,xp):=by intro z;cases z with|inl z=>cases z|inr z=>cases z
theorem nfS {u:EC}{xp:FT} : ¬ju (.sign u,xp):=by intro z;cases z with|inl z=>cases z|inr z=>cases z
theorem nfN {xp:FT} : ¬ju (.num m,xp):=by intro z;cases z with|inl z=>cases z|inr z=>cases z
theorem rM (h:lB x=true): ∃m,x= .num m:=by
 cases x with
 |num m=>exact#[m,rfl]
 |_=>cases h
theorem gL (h:cN x=true): ∃u,x= .word u/\FZ.contains u=false:=by
 cases x with
 |word u=>rw[dE] at h;exact#[u,rfl,by cases e:FZ.contains u;rfl;rw[e] at h;cases h]
 |_=>cases h
theorem Ba {A:Type} [BEq A] [LawfulBEq A] {x y:A}(h:(x == y)=false):x≠y:=beq_eq_false_iff_ne.mp h
theorem tS:F9 (f+1) d Kn ((.num m,xp)::t)=(F3>>=fun _=>pure (.num m):EU ER) ((.num m,xp)::t):=by rw[F9];rfl
theorem uP (h0:lB x=false) (h1:x≠ .sign (ED "(")) (h2:x≠ .word (ED "sum")) (h3:cN x=false):F9 (f+1) d Kn ((x,xp)::t)=E9 2 ((x,xp)::t):=by
 rw[F9];cases x with
 |num m=>cases h0
 |sign u=>
  show(if FD ((.sign u,xp)::t) "("=true then _ else E9 2 ((.sign u,xp)::t))=_
  rw[EI (show¬FD ((.sign u,xp)::t) "("=true from fun z=>h1 (beq_iff_eq.mp z))]
 |word u=>
  rw[dE] at h3;show(if u=ED "sum" then _ else if FZ.contains u=true then _ else _)=_
  rw[EI fun z=>h2 (by rw[z]),EL (by cases e:FZ.contains u;rw[e] at h3;cases h3;rfl)]
 |eof=>rfl
 |bad=>rfl
theorem qt (ns:GV u≠ .word (ED "sum")) (hk:FZ.contains u=false) (hf:(Kn.funs.find? fun f=>f.1 == u).isSome=false):F9 (f+1) d Kn ((.word u,xp)::t)=if Kn.values.contains u=true then .ok (.name u,t) else E9 3 ((.word u,xp)::t):=by
 rw[F9];show(if u=ED "sum" then _ else if FZ.contains u=true then _ else _)=_
 rw[EI fun z=>ns (by rw[z]),EI (by rw[hk];exact EE),ET.isSome_eq_false_iff.mp hf |> ET.isNone_iff_eq_none.mp]
 rfl
theorem ahw (T:aU K mg a) (XC:XT K a) (hk:8<=k)
  (G1:T.Wn.O P w base k (aV a false F9 6 (LvS j (ED "("))))
  (G2:T.Wo.O P w base k (aV a false F9 6 (LvW j (ED "sum"))))
  (G3:T.d_V.O P w base k (aV a false F9 6 (LvC j))):
  T.Wm.O P w base (k+1) (aV a false F9 6 (Lv j)):=by
 refine uX T XC hk T.Wm.F agm fun Gp A outer s H B t Kn d fuel Q E hr hd hl hf hm=>?_;intro X D Z Y R;obtain⟨⟨x,xp⟩,r,rfl⟩:=R.cons;have tok:fZ x:=R.tok;have st:=iu fuel (12-d) Kn;refine bF (dv (X7 Y T.Za.c (qX T XC) [01] (fun _=>rfl) R st fun nb=>#[_,rfl,aP [015] fun e0=>?_]))
 ·obtain⟨m,rfl⟩:=rM e
  obtain⟨f,rfl,_⟩:=AQ hf [01];exact aK (jp Y (xM T) (aO (iG Y (R.as tS) nfN fun H R=>cD (R.new rfl fun u H i R=>R.done (by unfold au;exact i)))))
 refine bF (dv (iV Y R nb #[_,rfl,aP [015] fun e1=>?_]))
 ·obtain rfl:x=_:=beq_iff_eq.mp ((cO tok xA).symm.trans e)
  exact aK #[_,Y.call2 #[G1,hr,T.Wn.c,rfl] (pv 1) [01] rfl,R.tail hd #[hl,rfl] hf]
 refine bF (dv (iV Y R nb #[_,rfl,aP [015] fun e2=>?_]))
 ·obtain rfl:x=_:=beq_iff_eq.mp ((bX tok uQ).symm.trans e)
  exact aK #[_,Y.call2 #[G2,hr,T.Wo.c,rfl] (pv 1) [01] rfl,R.tail hd #[hl,rfl] hf]
 have h1:=Ba ((cO tok xA).symm.trans e1)
 have h2:=Ba ((bX tok uQ).symm.trans e2);obtain⟨f,rfl,_⟩:=AQ hf [01];refine bw (p_g Y R st (fun _ e=>uP e0 h1 h2 e) fun _ e=>?_)
 obtain⟨u,rfl,hu⟩:=gL e;refine aN 2 Y.nd (ahm Y R st fun _=>?_);refine bF (aaP Y R (pv 2) [05] (aP [015] fun e3=>?_))
 ·obtain⟨g,hg⟩:=Ka.mp e
  exact aK #[_,Y.call2 #[G3,hr,T.d_V.c,rfl] (pv 1) [01] rfl,R.tail hd #[hl,u,g,rfl,fun z=>h2 (by rw[z]),hu,hg] hf]
 have ep:=qt (f:=f) (d:=12-d) (xp:=xp) (t:=r) h2 hu e3;refine bF (aaQ Y R (pv 2) [05] (aP [015] fun e4=>?_))
 ·refine bw (qW Y (aR (by rfl) T.PF) R nb ?_)
  rw[U8] at e;rw[ep,e]
  rfl
 ·refine aK (jp Y (DP T) (aO (iG Y (R.as (p':=F3>>=fun _=>pure (.name u)) ?_) Yb fun H R=>cD (R.new rfl fun u H i R=>R.done (by unfold au;exact i)))))
  rw[OP] at e4;rw[ep,e4]
  rfl
theorem alj:d7 "-" (ED "-"):=[008]
theorem alk:d7 "!" (ED "!"):=[008]
theorem dY {t:EG} :FD (x::t) s=(x.1 == .sign (ED s)):=rfl
theorem yY {f d:E1}{Kn:EK}{xp:FT}{t:EG} :Gj (f+1) d Kn ((.sign (ED "!"),xp)::t)=
  (GS d>>=fun e=>F3>>=fun _=>Gj f e Kn>>=fun x=>pure (.not x):EU ER) ((.sign (ED "!"),xp)::t):=by
 rw[Gj];show(if FD ((.sign (ED "!"),xp)::t) "-"=true then _ else if FD ((.sign (ED "!"),xp)::t) "!"=true then _ else _)=_
 rw[EI (by rw[dY];show¬(Iu (ED "!") == .sign (ED "-"))=true;decide+kernel),EL (by rw[dY];exact Gr _)]
theorem yR {f d:E1}{Kn:EK}{xp:FT}{t:EG}(h: ∀m,E4 t≠ .num m):Gj (f+1) d Kn [064]=
  (GS d>>=fun e=>F3>>=fun _=>Gj f e Kn>>=fun x=>pure (.neg x):EU ER) [064]:=by
 rw[Gj];show(if FD [064] "-"=true then(match E4 t with
   | .num n=>_
   |_=>_) else _)=_
 rw[EL (by rw[dY];exact Gr _)];cases e:E4 t with
 |num m=>exact E7 e (h m)
 |_=>rfl
theorem xT {f d m:E1}{Kn:EK}{xp:FT}{t:EG}(h:E4 t= .num m):Gj (f+1) d Kn [064]= .ok (.neg (.num m),t.drop 1):=by
 rw[Gj];show(if FD [064] "-"=true then(match E4 t with
   | .num n=>_
   |_=>_) else _)=_
 rw[EL (by rw[dY];exact Gr _),h]
 rfl
theorem ms {f d:E1}{Kn:EK}{t:EG}(h1:(x.1 == .sign (ED "-"))=false) (h2:(x.1 == .sign (ED "!"))=false):Gj (f+1) d Kn (x::t)=F9 f d Kn (x::t):=by
 rw[Gj];show(if FD (x::t) "-"=true then _ else if FD (x::t) "!"=true then _ else _)=_
 rw[EI (by rw[dY,h1];exact EE),EI (by rw[dY,h2];exact EE)]
theorem Dk {f d m:E1}{Kn:EK}{xp:FT}{t:EG} :Gj (f+2) d Kn ((.num m,xp)::t)= .ok (.num m,t):=by
 rw[ms rfl rfl,F9]
 rfl
theorem uS {f d m:E1}{Kn:EK}{xp:FT}{t:EG}(hf:2<=f) (w:t≠[]) (h:E4 t= .num m):Gj (f+1) d Kn [064]=(F3>>=fun _=>Gj f d Kn>>=fun x=>pure (.neg x):EU ER) [064]:=by
 rw[xT h];obtain⟨g,rfl⟩: ∃g,f=g+2:=#[f-2,by lia];cases t with
 |nil=>exact E7 rfl w
 |cons y r=>
  obtain⟨y,yp⟩:=y;obtain rfl:y= .num m:=h;show _=(Gj (g+2) d Kn>>=fun x=>pure (.neg x):EU ER) ((.num m,yp)::r)
  rw[bG Dk]
  rfl
theorem gJ (okT okC:E1->EK->EG->Prop) (T:aU K mg a) (XC:XT K a) (hk:8<=k)
  (h0: ∀d Kn t,okT d Kn t->13<=d+j) (h1: ∀d Kn s xp t,okT d Kn ((.sign s,xp)::t)->d<12->okC (d+1) Kn t) (h2: ∀d Kn s xp t m,okT d Kn ((.sign s,xp)::t)->E4 t= .num m->okC d Kn t)
  (G1:T.Wm.O P w base k (aV a false F9 6 (Lv j)))
  (G2:T.VX.O P w base k (aV a false Gj 7 okC)):
  T.VX.O P w base (k+1) (aV a false Gj 7 okT):=by
 refine uX T XC hk T.VX.F aak fun Gp A outer s H B t Kn d fuel Q E hr hd ho hf hm=>?_;intro X D Z Y R;obtain⟨⟨x,xp⟩,r,rfl⟩:=R.cons;have tok:fZ x:=R.tok;have st:=j8 fuel (12-d) Kn;have vm:=cO tok alj;have vn:=cO tok alk;obtain⟨f,rfl⟩: ∃f,fuel=f+1:=[076];rw[EZ] at hf;have tail: ∀(c:EC) (d2:E1) (mk:ER->ER),x= .sign c->(∀ {H:Hp}{e:ER}{u v:V},bC (eW B) H a.Ke [("sign",ib (.sign c)),("operand",u)] v->au a (eW B) H e u->au a (eW B) H (mk e) v)->d2<=12->okC d2 Kn r->
   RS Z [] false H ((x,xp)::r) Kn (F3>>=fun _=>Gj f (12-d2) Kn>>=fun y=>pure (mk y))->Bd X ((a7 s_l).drop 3) D [some (.ref B.r),some (.int d),some (.int d2),none] H:=by
  intro c d2 mk ex hmk hd2 hC R;subst ex;refine aN 3 Y.nd (iG Y R nfS fun H R=>?_);exact aK (jp Y (zU T) (aO (bv 3 (aO #[_,Y.call2 #[G2,hr,T.VX.c,rfl] (pv 2) [01] rfl,R.ahn hd2 hC (by lia) fun e v H t R=>cD (R.new rfl fun u H i R=>R.done (hmk i (R.f (i:=0) rfl)))]))))
 refine bF (Bq (jf (dv (iQ Y R st fun nb=>[022]))));have vm:lQ "-" (E4 ((x,xp)::r))=_:=vm;have vn:lQ "!" (E4 ((x,xp)::r))=_:=vn;rw[vm];cases em:(x == Iu (ED "-")) with
 |true=>
  obtain rfl:x=_:=beq_iff_eq.mp em;refine bK (bK ?_);refine aN 2 Y.nd (bv 1 ?_);refine bF (afh (dv (iV Y R nb [022])));rw[vn];refine bK (jf (dv (aaO Y R nfS [022])));cases ey:lB (E4 r) with
  |true=>
   obtain⟨m,e⟩:=rM ey;refine bK (tail _ d _ rfl (fun i h=>by unfold au;exact#[_,i,h]) hd (h2 _ _ _ _ _ m ho e) (R.as (uS (by lia) (fun z=>by rw[z] at e;cases e) e)))
  |false=>
   refine cf (zi 2 Y hd [062] (R.as (yR fun m z=>by rw[z] at ey;cases ey)) fun lt R=>uL ?_);exact tail _ (d+1) _ rfl (fun i h=>by unfold au;exact#[_,i,h]) lt (h1 _ _ _ _ _ ho lt) R
 |false=>
  refine cf (jf (dv (iV Y R nb [022])));rw[vn];cases en:(x == Iu (ED "!")) with
  |true=>
   obtain rfl:x=_:=beq_iff_eq.mp en;refine bK ?_;refine aN 2 Y.nd (bv 1 ?_);refine bF (afh (dv (iV Y R nb [022])));rw[vn,en];refine cf (cf (zi 2 Y hd [062] (R.as yY) fun lt R=>uL ?_));exact tail _ (d+1) _ rfl (fun i h=>by unfold au;exact#[_,i,h]) lt (h1 _ _ _ _ _ ho lt) R
  |false=>exact cf (aK #[_,Y.call2 #[G1,hr,T.Wm.c,rfl] (pv 1) (by decide) rfl,RS.tail (R.as (ms em en)) hd (h0 _ _ _ ho) (by rw[EZ];lia)])
def Zf.mo {β:Type}(Z:Zf β) (L:EJ) (us:EA V):Zf β:= { Z with B:=Z.B.more L us }
theorem db.wide {M M':EJ->Prop}{H H':Hp}(k:db M H H') (h: ∀b,M b->M' b):db M' H H':=fun b o e m=>k b o e fun z=>m (h b z)
section
variable {β:Type}{Z:Zf β}{H:Hp}{p:EU β}{Q:VK}
structure ut (Z:Zf β) (L:EJ):Prop where
 n0:Z.H0 L=none
 nm: ¬eW Z.B L
 nx: ∀zs,¬Z.B.bl.x L zs
 nq:L≠Z.B.q
theorem RS.nwl (R:RS Z F b H t Kn p) (h:H L=none):ut Z L:=by
 rw[00];have nm:=S.fresh h;refine#[?_,nm,fun zs z=>(by rw[S.fr L zs z] at h;cases h),fun z=>(by obtain⟨as,all,h1,_⟩:=S.rd.toks;rw[z,h1] at h;cases h)];cases e:Z.H0 L with
 |none=>rfl
 |some o=>rw[R.k L o e nm] at h;cases h
theorem RS.more {us:EA V}(R:RS Z F b H t Kn p) (h:H L=none):RS (Z.mo L us) F b (aF H L (.lst us)) t Kn p:=by
 rw[00];have N:=R.nwl h;have sm:a9 H (aF H L (.lst us)):=b3 h;refine#[#[n,(S.same sm).more ae],(R.k.trans (OS.a9.keeps sm)).wide fun b=>cu,fun e=>jd.Hj (fun b o e m=>#[fun z=>(c9 z).elim (fun z=>by rw[z,h] at e;cases e) m,sm b o e]) (R.f e),R.l,R.w.mono (fun _ _ z=>z) fun _ _ z H' k=>z H' fun b o e m=>k b o e fun z=>(c9 z).elim (fun z=>by rw[z,N.n0] at e;cases e) m]
theorem RS.P0 (R:RS (Z.mo L us) F b H t Kn p):H L=some (.lst us):=by
 rw[00];exact S.P0
theorem RS.push {v:V}(N:ut Z L) (R:RS (Z.mo L us) F b H t Kn p):RS (Z.mo L (us++[v])) F b (aF H L (.lst (us++[v]))) t Kn p:=by
 rw[00];have mm: ∀c,eW (Z.B.more L us) c->eW (Z.B.more L (us++[v])) c:=fun c h=>(c9 h).elim (fun z=>by rw[z];exact fj) fun z=>cu z;have mm': ∀c,eW (Z.B.more L (us++[v])) c->eW (Z.B.more L us) c:=fun c h=>(c9 h).elim (fun z=>by rw[z];exact fj) fun z=>cu z;refine#[#[n,S.write N.nx N.nq],(R.k.wide mm).trans (eQ fj),fun e=>jd.Hj (fun c o e m=>#[fun z=>m (mm' c z),by rw[ac fun z=>m (by rw[z];exact fj)];exact e]) (R.f e),R.l,R.w.mono (fun _ _ z=>z) fun _ _ z H' k=>z H' (k.wide mm')]
theorem RS.less (N:ut Z L) (R:RS (Z.mo L us) F b H t Kn p):RS Z F b H t Kn p:=by
 rw[00];refine#[#[n,S.less],fun b o e m=>R.k b o e fun z=>(c9 z).elim (fun z=>by rw[z,N.n0] at e;cases e) m,fun e=>jd.Hj (fun b o e m=>#[fun z=>m (cu z),e]) (R.f e),R.l,R.w.mono (fun _ _ z=>z) fun _ _ z H' k=>z H' (k.wide fun b=>cu)]
theorem ut.mo (N:ut Z L') (ne:L'≠L):ut (Z.mo L us) L':=#[N.n0,fun z=>(c9 z).elim ne N.nm,fun zs z=>z.elim (N.nx zs) fun z=>ne z.1,N.nq]
theorem RS.swap (R:RS ((Z.mo L us).mo L' VG) F b H t Kn p):RS ((Z.mo L' VG).mo L us) F b H t Kn p:=by
 rw[00];have m1: ∀c,eW ((Z.B.more L us).more L' VG) c->eW ((Z.B.more L' VG).more L us) c:=fun c h=>(c9 h).elim (fun z=>by rw[z];exact cu fj) fun z=>(c9 z).elim (fun z=>by rw[z];exact fj) fun z=>cu (cu z);have m2: ∀c,eW ((Z.B.more L' VG).more L us) c->eW ((Z.B.more L us).more L' VG) c:=fun c h=>(c9 h).elim (fun z=>by rw[z];exact cu fj) fun z=>(c9 z).elim (fun z=>by rw[z];exact fj) fun z=>cu (cu z);exact#[#[n,S.rd,S.wh,S.kn,S.R8,S.RB,S.O8,fun c zs z=>S.fr c zs (z.elim (fun z=>z.elim (fun z=> .inl (.inl z)) .inr) fun z=> .inl (.inr z))],R.k.wide m1,fun e=>jd.Hj (fun c o e m=>#[fun z=>m (m2 c z),e]) (R.f e),R.l,R.w.mono (fun _ _ z=>z) fun _ _ z H' k=>z H' (k.wide m2)]
theorem mn (i:E1) (Y:RX X Z.a Z.E) (R:RS Z F b H t Kn p) (q: ∀L H',ut Z L->RS (Z.mo L []) F b H' t Kn p->Bd X ss D (σ.set i (some (.ref L))) H') (h:Sl X i y:=by exact#[rfl,Gx rfl,rfl]):Bd X (.Assign [.Name y p0] (.List [] p1) p5::ss) D σ H:=
 aN i Y.nd (mf fun L h=>q L _ (R.nwl h) (R.more h)) h
theorem qV {te:TE}(N:ut Z L) (R:RS (Z.mo L us) F b H t Kn p) (he:PE X e te) (hv: ∀R:VK,R (.ref L) H->te σ H R) (q:Pe X f σ H fun v H1=> ∃F' b' t' WQ p',us.length<FE/\RS (Z.mo L us) F' b' H1 t' WQ p'/\(∀H2,RS (Z.mo L (us++[v])) F' b' H2 t' WQ p'->Bd X ss D σ H2))
  (hb:HM e "append" X.env (eval e X.env)=eval e X.env:=by rfl) (JS:Fb [f] X.env=[(false,eval f X.env)]:=by rfl) (hp:ig p2 p4:=by rfl):
  Bd X (.Expr (.Call (.Attribute e "append" p2) [f] [] p4) p5::ss) D σ H:=by
 refine iM he hv R.P0 (q.mono fun v H1 z=>?_) hb JS hp;obtain⟨F',b',t',WQ,p',h1,R',h2⟩:=z;exact#[us,R'.P0,h1,h2 _ (R'.push N)]
theorem kP (Y:RX X Z.a Z.E) (R:RS Z F b H t Kn p) (lit:d7 v (ED s)) (st:aI p) (h:FD t s=true->p t=E9 5 t) (q:FD t s=false->Bd X ss D (some (.ref Z.B.r)::σ) H) (hg:Gl X "refuse_here":=by rfl):
  Bd X (.Expr (.Call (.Name "refuse_here" p1) [.Name "reader" p2, .Constant (.str v) j p3] [] p4) p5::ss) D (some (.ref Z.B.r)::σ) H:=by
 rw[004];refine bw #[_,aL (agO Y.T Y.C) (Y.hr.mono [01]) hg Y.T.Zi.c Y.up (aa Y.rd (aa dH ag)),Z.B.r,Z.B.q,Z.B.kd,Z.B.fn,Z.B.ds,Z.B.bl,n,x,t',v,rfl,S.rd,fun b=>st.K6 (Ql.trans b) R.w H R.k,fun nb e=>?_,fun nb e=>?_]
 ·rw[cO tok lit] at e
  exact fE (h e) nb R.w H R.k
 ·rw[cO tok lit] at e
  exact q e
end
end OS
namespace OS
open Vbemac
def cF (f e:E1) (K:Known) (m:E1):P Exps:=fun u=>
 if m=0 then(if Ll u ","=true then fail 5 u else(sign ")">>=fun _=>pure .nil:P Exps) u)
 else(if Ll u ")"=true then fail 5 u else(sign ",">>=fun _=>arguments f e K m:P Exps) u)
def wY:EA Exp->Exps->Exps
 |[],l=>l
 |e::r,l=> .cons e (wY r l)
theorem sW {es:EA Exp}{x:Exp}{l:Exps} :wY (es++[x]) l=wY es (.cons x l):=by
 induction es with
 |nil=>rfl
 |cons y r ih=>show Exps.cons y (wY (r++[x]) l)=_;rw[ih];rfl
theorem dM (f e:E1) (K:Known) (m:E1):aI (cF f e K m):=fun t h=>by
 unfold cF;rw[cX h,cX h];by_cases c:m=0
 ·rw[EL c,EI EE]
  exact(be ")").bind t h
 ·rw[EI c,EI EE]
  exact(be ",").bind t h
theorem qS {f d:E1}{Kn:Known}{u:FJ}{xp:Pos}{t:L9}{g:FJ×E1}(hs:u≠text "sum") (hk:KEYS.contains u=false) (hf:Kn.funs.find? (fun f=>f.1 == u)=some g):
  primary (f+1) d Kn ((.word u,xp)::t)=(deeper d>>=fun e=>next>>=fun _=>sign "(">>=fun _=>(if g.2=0 then(sign ")">>=fun _=>pure (.call u .nil)) else(arguments f e Kn g.2>>=fun l=>pure (.call u l))):P Exp) ((.word u,xp)::t):=by
 rw[primary];show(if u=text "sum" then _ else _)=_
 rw[EI hs,EI (by rw[hk];exact EE)];simp only[hf]
end OS
namespace OS
open PySem PySem.Spec L2
open PyProof.Rows hiding St
variable {P:Fz}{w:Ga}{K:EF}{mg:Fh->ET EH}{base:Gn}{a:bf}
section
open Vbemac (arguments)
theorem xn:d7 "," (ED ","):=[008]
section
variable {α β γ:Type}{p q:EU α}{g:α->EU β}{h:β->EU γ}
theorem aS (e:p t=q t):(p>>=g) t=(q>>=g) t:=by
 show Fi p g t=Fi q g t
 unfold Fi;rw[e]
end
def Zf.at {β:Type}(Z:Zf β) (l:E1):Zf β:= { Z with L:=l }
section
variable {β:Type}{Z:Zf β}{F:EA (Fk×V)}{b:FR}{H:Hp}{t:EG}{Kn:EK}{p:EU β}{L:EJ}{l:E1}
theorem RS.at (R:RS Z F b H t Kn p):RS (Z.at t.length) F false H t Kn p:=#[R.S,R.k,R.f,E6 _,R.w]
theorem RS.back (h:l<=Z.L) (R:RS (Z.at l) F true H t Kn p):RS Z F true H t Kn p:=#[R.S,R.k,R.f,Fj R.l h,R.w]
end
theorem oE {K:EK}{t:EG}(h:FD t ","=false):cF f e K 0 t=(FC ")">>=fun _=>pure .nil:EU Jw) t:=by
 unfold cF;rw[EL rfl,EI [042]]
theorem oC {K:EK}{t:EG}(hm:m≠0) (h:FD t ")"=false):cF f e K m t=(FC ",">>=fun _=>arguments f e K m:EU Jw) t:=by
 unfold cF;rw[EI hm,EI [042]]
theorem g9 {K:EK}{t:EG}(h:if m=0 then FD t ","=true else FD t ")"=true):cF f e K m t=E9 5 t:=by
 unfold cF;by_cases c:m=0
 ·rw[EL c] at h ⊢; rw[EL h]
 ·rw[EI c] at h ⊢; rw[EL h]
theorem aaS {K:EK}{t:EG}(h:FD t ")"=true):arguments (f+1) e K n t=E9 5 t:=by
 rw[arguments];show(if FD t ")"=true then _ else _)=_
 rw[EL h]
theorem Dm {K:EK}{t:EG}(hn:1<=n) (h:FD t ")"=false):arguments (f+1) e K n t=(Ff f e K>>=fun a=>cF f e K (n-1)>>=fun l=>pure (.cons a l):EU Jw) t:=by
 rw[arguments];show(if FD t ")"=true then _ else _)=_
 rw[EI [042]];show Fi _ _ t=Fi _ _ t;unfold Fi
 congr 1
 funext #[a,u]
 show(if n<=1 then _ else _:EU Jw) u=(cF f e K (n-1)>>=fun l=>pure (.cons a l):EU Jw) u
 by_cases n1:n<=1
 ·rw[EL n1,show n-1=0 by lia]
  show(if FD u ","=true then E9 5 u else _)=_
  by_cases c:FD u ","=true
  ·rw[EL c,aS (g9 (by rw[EL rfl];exact c))]
   rfl
  ·rw[EI c,aS (oE (by cases h:FD u ",";rfl;exact E7 h c)),bind_assoc]
   rfl
 ·rw[EI n1]
  show(if FD u ")"=true then E9 5 u else _)=_
  by_cases c:FD u ")"=true
  ·rw[EL c,aS (g9 (by rw[EI (by lia)];exact c))]
   rfl
  ·rw[EI c,aS (oC (by lia) (by cases h:FD u ")";rfl;exact E7 h c)),bind_assoc]
def vZ (f e:E1) (Kn:EK) (u:EC) (wanted:E1):EA ER->EU ER
 |[]=>if wanted=0 then(FC ")">>=fun _=>pure (.call u .nil)) else(arguments f e Kn wanted>>=fun l=>pure (.call u l))
 |x::es=>cF f e Kn (wanted-(x::es).length)>>=fun l=>pure (.call u (wY (x::es) l))
theorem vz {f e w:E1}{Kn:EK}{t:EG}(lt:es.length<w) (hc:FD t ")"=false):
  (arguments (f+1) e Kn (w-es.length)>>=fun l=>pure (.call u (wY es l)):EU ER) t=(Ff f e Kn>>=fun a=>vZ f e Kn u w (es++[a])) t:=by
 rw[aS (Dm (by lia) hc),bind_assoc];refine FN (fun g=>(Ff f e Kn>>=g:EU ER) t) (funext fun a=>?_);rw[bind_assoc];have n:w-es.length-1=w-(es++[a]).length:=by rw[Fc,IT];lia
 have e1:(fun l=>(pure (SQ u (wY es (.cons a l))):EU ER))=fun l=>pure (.call u (wY (es++[a]) l)):=funext fun l=>by rw[sW]
 rw[n];show(cF f e Kn _>>=fun l=>(pure (SQ u (wY es (.cons a l))):EU ER))=_
 rw[e1];cases es with
 |nil=>rfl
 |cons y r=>rfl
abbrev fkE (ps:EA (ER×V)):EA (Fk×V):=ps.map fun x=>(.e x.1,x.2)
theorem xm {a:bf}{M:EJ->Prop}{H:Hp}{l:Jw}{ws:EA V}(hl:cv a M H l ws): ∀ {ps:EA (ER×V)},(∀ {i:E1}{x:Fk×V},(fkE ps)[i]?=some x->jd a M H x)->cv a M H (wY (ps.map (·.1)).reverse l) ((ps.map (·.2)).reverse++ws)
 |[],_=>hl
 | (e,v)::ps,h=>by
  rw[Fe,Fe,Gf,Gf,sW,F4];refine xm (l:= .cons e l) ?_ fun {i x} q=>h (i:=i+1) q;unfold cv;exact#[v,ws,rfl,h (i:=0) rfl,hl]
theorem nh {Z:Zf ER}{F:EA (Fk×V)}{b:FR}{H:Hp}{t:EG}{Kn K:EK}{f e w:E1}{u:EC}{x:ER×V}{r:EA (ER×V)}(R:RS Z F b H t Kn (vZ f e K u w ((x::r).map (·.1)).reverse)):RS Z F b H t Kn (cF f e K (w-((x::r).map (·.1)).reverse.length)>>=fun l=>pure (.call u (wY ((x::r).map (·.1)).reverse l))):=by
 cases h:((x::r).map (·.1)).reverse with
 |nil=>rw[EA.reverse_eq_nil_iff] at h;cases h
 |cons y l=>rw[h] at R;exact R
theorem ahx {b:FR}{A B:Prop}(e:b=true) (h:A):if b=true then A else B:=by rw[EL e];exact h
theorem qI (f e:E1) (K:EK) (u:EC) (w:E1) (es:EA ER) (x:ER):aI (vZ f e K u w (es++[x])):=by
 cases es with
 |nil=>exact(dM _ _ _ _).bind
 |cons y r=>exact(dM _ _ _ _).bind
theorem ahy {β:Type}{Z:Zf β}{F:EA (Fk×V)}{b:FR}{H:Hp}{t:EG}{Kn:EK}{p:EU β}{Q:VK}{te:TE}{g:EC×E1}(Y:RX X Z.a Z.E) (R:RS Z F b H t Kn p) (he:PE X e te) (hv: ∀Q:VK,Q (.str (sb u)) H->te (some (.ref Z.B.r)::σ) H Q) (hg:Kn.funs.find? (fun f=>f.1 == u)=some g) (q:Q (.int (g.2:E1)) H) (hs:Db e:=by exact fun _ _=>rfl):
  Pe X (.Subscript (.Attribute [005] "functions" p2) e p3) (some (.ref Z.B.r)::σ) H Q:=by
 rw[021];rw[09];have f2:=f2 u;rw[hg] at f2;exact#[_,jO (dj Y.hr) (ak Y.rd rfl) he hs,Z.B.r,_,dr,_,_,rfl,er,Y.T.Fy,Y.T.HV,rfl,hv _ #[Z.B.fn,_,rfl, .inl #[ff,nk u, .inl f1,rfl,f2.symm],q]]
inductive Yc (Z:Zf ER) (L:EJ) (Kn:EK) (u:EC) (w e:E1) (σ0:L2.St) (m:E1) (σ:L2.St) (H:Hp):Prop
 |mk (ps:EA (ER×V)) (t:EG) (f:E1) (_:m=w-ps.length) (_:σ=σ0) (_:ps.length<=w) (_:ps.length+t.length<=Z.L) (_:16*t.length+12<=f) (_:ps=[]->16*t.length+13<=f) (_:RS (Z.mo L (ps.map (·.2)).reverse) (fkE ps) true H t Kn (vZ f e Kn u w (ps.map (·.1)).reverse)):Yc Z L Kn u w e σ0 m σ H
inductive ahz (Z:Zf ER) (L:EJ) (Kn:EK) (u:EC) (w e:E1) (σ0:L2.St) (ps:EA (ER×V)) (l:E1) (σ:L2.St) (H:Hp):Prop
 |mk (t:EG) (f:E1) (_:σ=σ0) (_:t.length<=l) (_:16*t.length+12<=f) (_:RS (Z.mo L (ps.map (·.2)).reverse) (fkE ps) true H t Kn (arguments (f+1) e Kn (w-(ps.map (·.1)).reverse.length)>>=fun l=>pure (.call u (wY (ps.map (·.1)).reverse l)))):ahz Z L Kn u w e σ0 ps l σ H
section
variable {k j:E1}
theorem alm (T:aU K mg a) (XC:XT K a) (hk:8<=k)
  (G:T.RM.O P w base k (aV a true Ff 12 (Lv j))):
  T.d_V.O P w base (k+1) (aV a false F9 6 (LvC (j+1))):=by
 refine uX T XC hk T.d_V.F akB fun Gp A outer s H B t Kn d fuel Q E hr hd ho hf hm=>?_;intro X D Z Y R;obtain⟨hl,u,g,h0,hs,hu,hg⟩:=ho;obtain⟨xp,r,rfl⟩:=eY R h0;obtain⟨f,rfl⟩: ∃f,fuel=f+1:=[076];rw[024];refine zi 2 Y hd [062] (R.as (qS hs hu hg)) fun lt R=>?_;refine aN 3 Y.nd (iG Y R Yb fun H R=>?_);refine cC Y xA R fun H t R=>?_;have l1:t.length+1<=Z.L:=R.l;refine aN 4 Y.nd (ahy Y R (pv 3) [05] hg ?_);refine mn 5 Y R fun L H N R=>?_;have hL:(r.length+1:E1)<=Z.L:=E6 _;have hm:Kn.values.length+Z.L<=4000:=hm;have hf:16*Z.L+6<=f+1:=hf;refine fT Y.lv (Yc Z L Kn u g.2 (12-(d+1)) [some (.ref B.r),some (.int d),some [059],some (.str (sb u)),some (.int (g.2:E1)),some (.ref L)]) _ #[[],t,f,rfl,rfl,Fs _,by show 0+t.length<=_;lia,by lia,fun _=>by lia,R] ?_;rintro m σ H ⟨ps,t,f,rfl,rfl,h1,h2,h3,h4,R⟩;refine cR jY (ij T.JP R.P0 (pv 5) [05] (bv 4 #[_,_,rfl,rfl,_,rfl,aP [015] fun e=>?_]))
 ·have lt':ps.length<g.2:=by have:=Ft e;rw[F7,EY] at this;lia
  have len:((ps.map (·.1)).reverse:EA ER).length=ps.length:=by rw[F7,EY]
  refine gi (ahz Z L Kn u g.2 (12-(d+1)) [some (.ref B.r),some (.int d),some [059],some (.str (sb u)),some (.int (g.2:E1)),some (.ref L)] ps t.length) ?_ ?_
  ·rintro σ H ⟨t1,f1,rfl,l1,hf1,R⟩
   refine kP Y R uZ (lf _ _ _ _).bind (fun h=>(aS (aaS h)).trans rfl) fun hc=>?_;have R:=R.as (vz (by rw[len];exact lt') hc);refine qV N R (pv 5) [05] #[_,Y.call2 c (pv 2) [01] rfl,R.at.call (oi fun x=>qI _ _ _ _ _ _ _) lt hl (by lia) fun e1 v1 H t2 _ R2=>#[_,_,_,_,_,by rw[F7,EY];exact FP (show ps.length<=4000 by lia) [01],RS.back (Z:=Z.mo L _) (l:=t1.length) (by show t1.length<=Z.L;lia) R2,fun H3 R3=>?_]];have l2:t2.length+1<=t1.length:=R2.l;refine gb #[_,(show g.2-((e1,v1)::ps).length<g.2-ps.length by rw[EZ];lia),(e1,v1)::ps,t2,f1,rfl,rfl,(by rw[EZ];lia),(by rw[EZ];lia),(by lia),[032],?_];rw[Fe,Fe,Gf,Gf];exact R3
  ·refine cR ga (ij T.JP R.P0 (pv 5) [05] (cM [029]))
   cases ps with
   |nil=>
    refine bK ?_;have R:RS _ (fkE []) true H t Kn (if g.2=0 then _ else _):=R
    rw[EI (by have:0<g.2:=lt';lia)] at R;rw[05];exact#[t,f,rfl,E6 _,E1.le_of_succ_le_succ (h4 rfl),R]
   |cons x r=>
    refine ahx (Gb (by rw[F7,EY,EZ];lia)) ?_;have R:=nh R;refine kP Y R uZ (dM _ _ _ _).bind (fun h=>(aS (g9 (by rw[EI (by rw[len];lia)];exact h))).trans rfl) fun hc=>?_;refine cC (Z:=(Z.mo L ((x::r).map (·.2)).reverse).at t.length) Y xn (R.at.as ((aS (oC (by rw[len];lia) hc)).trans (congrFun (bind_assoc _ _ _) t))) fun H t2 R2=>cc ?_;have l2:t2.length+1<=t.length:=R2.l;rw[05];exact#[t2,f,rfl,by lia,by lia,RS.back (Z:=Z.mo L _) (l:=t.length) (by show t.length<=Z.L;lia) R2]
 ·have eq:ps.length=g.2:=by have:=Fw e;rw[F7,EY] at this;lia
  have len:((ps.map (·.1)).reverse:EA ER).length=ps.length:=by rw[F7,EY]
  have R:RS (Z.mo L (ps.map (·.2)).reverse) (fkE ps) true H t Kn (if g.2=0 then(FC ")">>=fun _=>pure (.call u .nil)) else(cF f (12-(d+1)) Kn 0>>=fun l=>pure (.call u (wY (ps.map (·.1)).reverse l)))):=by
   cases ps with
   |nil=>
    have h0:g.2=0:=eq.symm
    have R:RS _ (fkE []) true H t Kn (if g.2=0 then _ else _):=R
    rw[EL h0] at R ⊢;exact R
   |cons x r=>
    have R:=nh R;rw[len,eq,PK] at R;rw[EI (by rw[<-eq,EZ];lia)];exact R
  have eN:RS (Z.mo L (ps.map (·.2)).reverse) (fkE ps) true H t Kn (FC ")">>=fun _=>pure (.call u (wY (ps.map (·.1)).reverse .nil)))->Bd X ((a7 s_V).drop 7) D [some (.ref B.r),some (.int d),some [059],some (.str (sb u)),some (.int (g.2:E1)),some (.ref L)] H:=fun R=>by
   refine cC Y uZ R fun H t R=>?_;have hL:=R.P0;refine aK (jp Y (El T) (aO (bv 3 (aO (bv 5 (cD (R.new rfl fun v H i R=>?_)))))));have hL:=R.P0;have R:=R.less N;refine R.done ?_;unfold au;refine#[.ref L,_,bC.keep (fun b o e m=>#[fun z=>m (cu z),e]) i,#[L,rfl,N.nm,hL],?_];have:=xm (l:= .nil) (ws:=[]) (by unfold cv;rfl) R.f;rw[Gw] at this;exact this
  refine bF (cR ga (bv 4 (cM #[_,_,rfl,rfl,_,rfl,aP [015] fun e=>?_])))
  ·have h0:g.2≠0:=by have:=Ft e;lia
   rw[EI h0] at R;refine kP Y R xn (dM _ _ _ _).bind (fun h=>(aS (g9 (by rw[EL rfl];exact h))).trans rfl) fun hc=>uL (eN (R.as ?_));exact(aS (oE hc)).trans (congrFun (bind_assoc _ _ _) t)
  ·have h0:g.2=0:=by have:=Fw e;lia
   rw[EL h0] at R;obtain rfl:ps=[]:=MW.mp (eq.trans h0);exact eN R
end
end
theorem lG {α β:Type}{F:α->β->Prop} : ∀ {l:EA α}{m:EA β}{i:E1}{y:β},Paired F l m->m[i]?=some y-> ∃x,l[i]?=some x/\F x y
 |_,_,_,_, .nil,h=>by cases h
 |_,_,0,_, .cons r t,h=>#[_,rfl,by obtain rfl:=E5 h;exact r]
 |_,_,i+1,_, .cons r t,h=>lG (i:=i) t h
theorem zu.row {K:EF}{ad:EJ}{i:E1}{xs:EA V}{H:Hp}(h:zu K ad di) (e:di[i]?=some xs): ∃qs:EA EJ,qs.length=5/\rh K H ad (qs.map V.ref)/\ ∃q,zr (qs.map V.ref) (i:E1)=some (.ref q)/\rh K H q xs:=by
 obtain⟨qs,h1,h2⟩:=h;obtain⟨q,hq,hk⟩:=lG h2 e;refine#[qs,bM h2,h1.sq,q,?_,hk.sq];refine bo ?_;rw[FQ,hq]
 rfl
theorem BO {x:F5}(tok:fZ x) {sg:EA EC}(hs: ∀o∈sg,o∈F6) (h:tZ (ib x) (sg.map fun o=>V.str (dG o))=true): ∃op∈sg,x= .sign op:=by
 unfold tZ at h;rw[Sr,Lh] at h;obtain⟨o,ho,e⟩:=h;refine#[o,ho,(tP tok (x:=dG o) #[rfl,hs o ho]).mp ?_];have e:Eh (V.str (dG o)) (ib x)=true:=e;cases x with
 |word u=>exact FN some (beq_iff_eq.mp (show(dG o == sb u)=true from e)).symm
 |num n=>cases (show false=true from e)
 |sign u=>exact FN some (beq_iff_eq.mp (show(dG o == dG u)=true from e)).symm
 |eof=>exact FN some (beq_iff_eq.mp (show(dG o == sb [])=true from e)).symm
 |bad=>exact FN some (beq_iff_eq.mp (show(dG o == sb [])=true from e)).symm
theorem AY {op:EC}{sg:EA EC}(h:op∈sg):tZ (ib (.sign op)) (sg.map fun o=>V.str (dG o))=true:=by
 unfold tZ;rw[Sr,Lh];exact#[op,h,show(dG op == dG op)=true from Gr _]
theorem yT (x:F5):ji (ib x)=true:=by cases x<;>rfl
theorem uc (sg:EA EC):(sg.map fun o=>V.str (dG o)).all ji=true:=by
 rw[Sn,Lf];exact fun _ _=>rfl
section
variable {M:EJ->Prop}{H:Hp}
theorem uY: ∀ {es:Pairs}{us:EA V},Paired (fun(x:EC×ER) u=>au a M H x.2 u) es us->cv a M H (uW es .nil) us
 |_,_, .nil=>by unfold uW cv;rfl
 |_,_, .cons h t=>by unfold uW cv;exact#[_,_,rfl,h,uY t]
theorem ur: ∀ {es:Pairs}{us:EA V},Paired (fun(x:EC×ER) u=>au a M H x.2 u) es us->dz a M H (vD es .nil) us (es.map fun x=>V.str (dG x.1))
 |_,_, .nil=>by unfold vD dz;exact#[rfl,rfl]
 |_,_, .cons h t=>by unfold vD dz;exact#[_,_,_,rfl,rfl,h,ur t]
theorem qO {F:EC×ER->V->Prop}{o:EC} : ∀ {es:Pairs}{us:EA V},Paired F es us->(∀x∈es,x.1∈[o])->(es.map fun x=>V.str (dG x.1))=us.map fun _=>V.str (dG o)
 |_,_, .nil,_=>rfl
 |_,_, .cons h t,hx=>by
  rw[Fe,Fe,Fd.mp (hx _ (EO ..)),qO t fun y hy=>hx y (EN _ hy)]
end
theorem ahA:dG (ED "||")="||":=by decide+kernel
theorem aaT:dG (ED "&&")="&&":=by decide+kernel
structure o9 (s:E1) (sg:EA EC) (once:FR) (res:ER->Pairs->ER):Prop where
 Uu: ∀e,res e []=e
 at_: ∀ {a:bf}{M:EJ->Prop}{H:Hp}{e:ER}{es:Pairs}{v w:V}{us:EA V}{q g:V},es≠[]->(∀x∈es,x.1∈sg)->(once=true->es.length<=1)->bC M H a.Jj [("strength", .int (s:E1)),("operands",q),("signs",g)] w->
  bZ M H (v::us) q->bZ M H (es.map fun x=>V.str (dG x.1)) g->au a M H e v->Paired (fun(x:EC×ER) u=>au a M H x.2 u) es us->au a M H (res e es) w
theorem aaU:o9 0 S0 false (fun e es=>Eb e (uW es .nil)) where
 Uu e:=rfl
 at_ {a M H e es v w us q g} h0 hs _ hi hq hg he VH:=by
  cases es with
  |nil=>exact E7 rfl h0
  |cons y r=>
   rw[qO VH hs,ahA] at hg;show au a M H (.either e (uW (y::r) .nil)) w;unfold au;exact#[q,g,v,_,hi,hq,hg,he,uY VH]
theorem Ev:o9 1 S1 false (fun e es=>bth e (uW es .nil)) where
 Uu e:=rfl
 at_ {a M H e es v w us q g} h0 hs _ hi hq hg he VH:=by
  cases es with
  |nil=>exact E7 rfl h0
  |cons y r=>
   rw[qO VH hs,aaT] at hg;show au a M H (.both e (uW (y::r) .nil)) w;unfold au;exact#[q,g,v,_,hi,hq,hg,he,uY VH]
theorem DQ:o9 3 S3 false (fun e es=>sms e (vD es .nil)) where
 Uu e:=rfl
 at_ {a M H e es v w us q g} h0 hs _ hi hq hg he VH:=by
  cases es with
  |nil=>exact E7 rfl h0
  |cons y r=>
   show au a M H (.sums e (vD (y::r) .nil)) w
   unfold au;exact#[q,g,v,_,_,hi,hq,hg,he,ur VH]
theorem Ec:o9 4 S4 false (fun e es=>oG e (vD es .nil)) where
 Uu e:=rfl
 at_ {a M H e es v w us q g} h0 hs _ hi hq hg he VH:=by
  cases es with
  |nil=>exact E7 rfl h0
  |cons y r=>
   show au a M H (.prods e (vD (y::r) .nil)) w
   unfold au;exact#[q,g,v,_,_,hi,hq,hg,he,ur VH]
theorem Dp:o9 2 S2 true ahu where
 Uu e:=rfl
 at_ {a M H e es v w us q g} h0 hs h1 hi hq hg he VH:=by
  cases VH with
  |nil=>exact E7 rfl h0
  |cons h t=>
   cases t with
   |nil=>
    show au a M H (.cmp _ e _) w
    unfold au;exact#[q,g,v,_,hi,hq,hg,he,h]
   |cons h2 t2=>
    have:=h1 rfl;rw[EZ,EZ] at this;lia
inductive ud (a:bf) (w2:FR) (s:E1) (p:E1->E1->EK->EU ER) (c:E1) (ok:E1->EK->EG->Prop) (vs:EA V) (H:Hp) (Q:VK) (E:XK):Prop
 |mk (u v:V) (_:vs=[u,v, .int (s:E1)]) (_:aV a w2 p c ok [u,v] H Q E):ud a w2 s p c ok vs H Q E
def Em {β:Type}(Z:Zf β):Prop:= ∀e r,E4 r= .bad->Z.Ro e r->QE Z.a Z.B Z.H0 Z.E 1 (HC r)
theorem Em.mo {β:Type}{Z:Zf β}(h:Em Z) (N:ut Z L):Em (Z.mo L us):=fun e r b o H' k=>h e r b o H' fun c o e m=>k c o e fun z=>(c9 z).elim (fun z=>by rw[z,N.n0] at e;cases e) m
theorem Em.bad {β:Type}{Z:Zf β}{p:EU β}(h:Em Z) (hr:gZ p) (b:E4 t= .bad) (w:W p t Z.Ro (QE Z.a Z.B Z.H0 Z.E)):QE Z.a Z.B Z.H0 Z.E 1 (HC t):=by
 rcases hr t b with e|⟨x,e⟩
 ·rw[iW e] at w;exact w
 ·rw[yP e] at w;exact h x t b w
theorem enZ {a:bf}{E:XK}{H0:Hp}{Q:VK} :Em #[a,E,B,L,H0,Rz true a B H0 L Kn Q E]:=fun e r b w=>by
 have w:Rz true a B H0 L Kn Q E e r:=w;unfold Rz at w;rw[EL #[rfl,b]] at w;exact w
set_option cleanup.letToHave false in
theorem ahB {w2:FR}{pp:E1->E1->EK->EU ER}{c sn:E1}{ok:E1->EK->EG->Prop}{x Gz:Fh}{st:Stmt}{f:EJ}{fd:FL}{N:EA Fh}(T:aU K mg a) (XC:XT K a) (hk:8<=k) (F:oJ K x Gz st f fd) (S:az N ["reader","depth","strength"] (af st))
  (Jc: ∀(Gp:EH) (A:Gk) (outer:EA Env) (s:EM) (H:Hp) (B:Rb) (t:EG) (Kn:EK) (d fuel:E1) (Q:VK) (E:XK),bW k (A.deeper [011])->d<=12->ok d Kn t->16*t.length+c<=fuel->Kn.values.length+t.length<=4000->
   let X:=fg (fW P w) P w K mg base N Gz (af st) f Gp A outer s H E
   let D:eG:= { nx:=fun _ H'=>Q .HZ H',rt:=Q }
   let Z:Zf ER:=#[a,E,B,t.length,H,Rz w2 a B H t.length Kn Q E]
   RX X a E->RS Z [] false H t Kn (pp fuel (12-d) Kn)->Bd X (a7 st) D (L2.start N [.ref B.r, .int d, .int (sn:E1)]) H):bS P w K mg base (fW P w) (k+1) f fd ["reader","depth","strength"] (ud a w2 sn pp c ok):=by
 rw[017];obtain⟨_,_,rfl,B,n,t,Kn,d,fuel,h0,hd,ho,St,hf,hW⟩:=h;cases h0;exact Jc Gp A outer s H B t Kn d fuel Q E hr hd ho hf St.kn.len [063] #[#[n,St],db.refl,fun {i x} e=>(by cases e),E6 _,hW]
section
variable {H:Hp}{Q:VK}{E:XK}
theorem Cv (Y:RX X a E) (KT:zu X.K a.Hz di) (q:Q (.int 5) H) (h1:Gl X "len":=by rfl) (h2:Gl X "CHAIN_SIGNS":=by rfl):Pe X (.Call (.Name "len" p1) [.Name "CHAIN_SIGNS" p2] [] p3) σ H Q:=by
 obtain⟨qs,qs5,sqA,_⟩:=KT.row (H:=H) (i:=0) rfl;refine#[_,bD bL h1 Y.T.JP Hl (aa (iK h2 Y.T.N4) ag),_,_,rfl, .inr sqA,?_];rw[EY,qs5];exact q
theorem ahC {te:TE}(Y:RX X a E) (KT:zu X.K a.Hz di) (row:di[sn]?=some xs) (he:PE X e te) (hv: ∀Q:VK,Q (.int (sn:E1)) H->te σ H Q) (q: ∀c,rh X.K H c xs->Q (.ref c) H) (h2:Gl X "CHAIN_SIGNS":=by rfl) (hs:rc e:=by exact fun _ _=>rfl):Pe X (.Subscript (.Name "CHAIN_SIGNS" p1) e p3) σ H Q:=by
 obtain⟨qs,qs5,sqA,c,atq,sq⟩:=KT.row (H:=H) row;exact#[_,cJ ZV (iK h2 Y.T.N4) he hs,hv _ #[_,_,_,_,rfl,rfl,sqA,atq,q c sq]]
theorem RX.Yd {sp:Sp}{σ:L2.St}(Y:RX X a E) (c:CB X "read_chain" ["reader","depth","strength"] sp) (q:sp [u,v, .int ((sn+1:E1):Int)] H Q E) (h1:X.N[1]?=some ("depth":Fh):=by rfl) (v1:oH X.env.scope "depth":=by exact Gx rfl) (h2:X.N[2]?=some ("strength":Fh):=by rfl) (v2:oH X.env.scope "strength":=by exact Gx rfl):
  Pe X (.Call (.Name "read_chain" p1) [.Name "reader" p2, .Name "depth" p3, .BinOp (.Name "strength" p4) .Add (.Constant (.int 1) 0 p5) p6] [] p7) (some u::some v::some (.int (sn:E1))::σ) H Q:=by
 obtain⟨G,hr,d,hg⟩:=c;exact#[_,aL G hr hg d Y.up (aa Y.rd (aa (dU h1 v1) (aa (b7 dX (dU h2 v2) aj) ag))),_,_,rfl,rfl,q]
end
inductive ChI {p sub:E1->E1->EK->EU ER}{c c':E1}{sg:EA EC}{once:FR}{res:ER->Pairs->ER}(L:ChP p sub c c' sg once res) (Z:Zf ER) (A1 A2:EJ) (Kn:EK) (d:E1) (e:ER) (v:V) (σ0:L2.St) (m:E1) (σ:L2.St) (H:Hp):Prop
 |mk (F:EA (Fk×V)) (es:Pairs) (us:EA V) (t:EG) (f:E1) (_:m=t.length) (_:σ=σ0) (_:once=true->es=[]) (_:us.length+t.length<Z.L) (_: ∀x∈es,x.1∈sg) (_: ∃i:E1,F[i]?=some (.e e,v)) (_:Paired (fun(x:EC×ER) u=> ∃i:E1,F[i]?=some (.e x.2,u)) es us) (_:16*t.length+c'<=f)
  (_:RS ((Z.mo A1 (v::us)).mo A2 (es.map fun x=>V.str (dG x.1))) F true H t Kn (L.q f d Kn e es)):ChI L Z A1 A2 Kn d e v σ0 m σ H
theorem yA (T:aU K mg a) (XC:XT K a) (KT:zu K a.Hz di) (hk:8<=k)
  (G:T.VX.O P w base k (aV a false Gj 7 (Lv j))):
  T.Xb.O P w base (k+1) (ud a false 5 Gj 7 (Lv j)):=by
 refine ahB T XC hk T.Xb.F agl fun Gp A outer s H B t Kn d fuel Q E hr hd ho hf hm=>?_;intro X D Z Y R;exact bF (cR b8 (bv 2 (Cv Y KT #[rfl,_,rfl,cf (aK #[_,Y.call2 #[G,hr,T.VX.c,rfl] (pv 1) [01] rfl,R.tail hd ho hf])])))
theorem fb (T:aU K mg a) (XC:XT K a) (KT:zu K a.Hz di) (hk:8<=k) (hs:sn<5) (h2:sn=2->w2=true) {p sub:E1->E1->EK->EU ER}{res:ER->Pairs->ER}(VZ:1<=c')
  (L:ChP p sub c c' sg once res) (N:o9 sn sg once res) (row:di[sn]?=some (sg.map fun o=>V.str (dG o))) (sgS: ∀o∈sg,o∈F6) (Ye:once=decide (sn=2))
  (G:T.Xb.O P w base k (ud a w2 (sn+1) sub c' (Lv j))):
  T.Xb.O P w base (k+1) (ud a true sn p c (Lv j)):=by
 refine ahB T XC hk T.Xb.F agl fun Gp A outer s H B t Kn d fuel Q E hr hd ho hf hm=>?_;intro X D Z Y R;have cb:CB X "read_chain" ["reader","depth","strength"] (ud a w2 (sn+1) sub c' (Lv j)):=#[G,hr,T.Xb.c,rfl];refine bF (cR b8 (bv 2 (Cv Y KT [013])));rw[cj,FA (by lia)];refine bK ?_;obtain⟨f,hf1,hp⟩:=L.start (d:=12-d) (Kn:=Kn) (n:=t.length) hf;have z0:Em Z:=enZ;refine aN 3 Y.nd (vt (aO (Y.Yd cb #[_,_,rfl,(R.as (congrFun hp t)).T3 (fun _ e r b w=>z0.bad (L.ON _ _ _ _ _) b w) hd ho hf1 fun e v H t1 _ R=>cD #[by show 1<=FE;decide,fun A1 hA1=>?_]])));have N1:=R.nwl hA1;have l1:t1.length+1<=Z.L:=R.l;refine aN 4 Y.nd (mf fun A2 hA2=>?_);have ne:A2≠A1:=fun z=>by rw[z,ae] at hA2;cases hA2
 have N2:=R.nwl (L:=A2) (by rw[ac ne] at hA2;exact hA2)
 have N2': ∀ {us:EA V},ut (Z.mo A1 us) A2:=N2.mo ne
 have N1': ∀ {us:EA V},ut (Z.mo A2 us) A1:=N1.mo ne.symm
 have R:=(R.more (us:=[v]) hA1).more (us:=[]) hA2
 have hm:Kn.values.length+Z.L<=4000:=hm
 have eN: ∀ {F:EA (Fk×V)}{es:Pairs}{us:EA V}{t:EG}{f:E1}{H:Hp},1<=f->E4 t≠ .bad->(once=true->es.length<=1)->(once=true/\es≠[]\/ ∀op,E4 t= .sign op->op∉sg)->(∀x∈es,x.1∈sg)->(∃i:E1,F[i]?=some (.e e,v))->Paired (fun(x:EC×ER) u=> ∃i:E1,F[i]?=some (.e x.2,u)) es us->
   RS ((Z.mo A1 (v::us)).mo A2 (es.map fun x=>V.str (dG x.1))) F true H t Kn (L.q f (12-d) Kn e es)->Bd X ((a7 s_u).drop 4) D [some (.ref B.r),some (.int d),some (.int (sn:E1)),some (.ref A1),some (.ref A2)] H:=by
  intro F es us t f H hf nb h1 JS hsg m0 mp R;have R:=R.as (p':=pure (res e es)) (L.stop hf h1 JS);obtain⟨i0,m0⟩:=m0;refine bF (cR b8 (ij T.JP R.P0 (pv 4) [05] (cM [013])));rw[cj,EY];refine aP (fun h=>?_) fun h=>?_
  ·obtain rfl:es=[]:=MW.mp (by have:=Ft h;lia)
   have hA1:=(R.less N2').P0
   have R:=(R.less N2').less N1;rw[N.Uu] at R;exact aK #[_,cJ bA (pv 3) aj [002],A1,_,0,v,rfl,rfl,cP.of hA1,bo (j:=0) rfl,R.done (R.f m0) fun _=>nb]
  ·have z1:es≠[]:=fun z=>by rw[z] at h;cases h
   refine aK (jp Y (Bp T) (aO (bv 2 (aO (bv 3 (aO (bv 4 (cD (R.new rfl fun w H i R=>?_)))))))));have hA2:=R.P0;have hA1:=(R.less N2').P0;have R:=(R.less N2').less N1;exact R.done (N.at_ z1 hsg h1 (bC.keep (fun b o e m=>#[fun z=>m (cu (cu z)),e]) i) #[A1,rfl,N1.nm,hA1] #[A2,rfl,N2.nm,hA2] (R.f m0) (Paired.M7 mp fun x u ⟨i,h⟩=>R.f h)) fun _=>nb
 refine fT Y.lv (ChI L Z A1 A2 Kn (12-d) e v [some (.ref B.r),some (.int d),some (.int (sn:E1)),some (.ref A1),some (.ref A2)]) _ #[_,[],[],t1,f,rfl,rfl,fun _=>rfl,(by show 0+t1.length<_;lia),[038],#[0,rfl], .nil,by lia,R] ?_;rintro m σ H ⟨F,es,us,t,f,rfl,rfl,on0,ul,hsg,m0,mp,hf,R⟩;have z2:Em ((Z.mo A1 (v::us)).mo A2 (es.map fun x=>V.str (dG x.1))):=(z0.mo N1).mo N2'
 refine cR li (vG Y R (fun b=>z2.bad (L.ON _ _ _ _ _) b R.w) fun nb=>ahC Y KT row (pv 2) [05] fun c sq=>#[c,_,rfl, .inr sq,yT _,uc sg,_,rfl,aP (fun ein=>?_) fun ein=>?_]) rfl
 ·obtain⟨⟨x,xp⟩,r,rfl⟩:=R.cons
  obtain⟨op,WI,rfl⟩:=BO R.tok sgS ein;obtain⟨f6,hf6,h6⟩:=L.go (x:=(.sign op,xp)) (by rw[EZ] at hf;exact hf) on0 rfl WI;have lu:us.length=es.length:=(bM mp).symm;rw[EZ] at ul;refine qV N2' R (pv 4) [05] (iG Y (R.as (p':=F3>>=fun _=>sub f6 (12-d) Kn>>=fun e2=>L.q f6 (12-d) Kn e (es++[(op,e2)])) h6) nfS fun H R=>#[_,_,_,_,_,by rw[EY];exact FP (show es.length<=4000 by lia) [01],R,fun H R=>?_]);have R:=R.swap;have z3:Em (((Z.mo A2 ((es.map fun x=>V.str (dG x.1))++[ib (.sign op)])).mo A1 (v::us)).at r.length):=(z0.mo N2).mo N1'
  refine qV N1' R (pv 3) [05] (Y.Yd cb #[_,_,rfl,RS.T3 (Z:=((Z.mo A2 ((es.map fun x=>V.str (dG x.1))++[ib (.sign op)])).mo A1 (v::us)).at r.length) R.at (fun _ e r b w=>z3.bad (L.ON _ _ _ _ _) b w) hd ho hf6 fun e2 v2 H t2 nb2 R2=>#[_,_,_,_,_,FP (show(v::us).length<=4000 by rw[EZ];lia) [01],RS.back (Z:=(Z.mo A2 _).mo A1 _) (l:=r.length) (by show r.length<=Z.L;lia) R2,fun H R=>?_]]);have l2:t2.length+1<=r.length:=R2.l;have R:RS ((Z.mo A1 (v::(us++[v2]))).mo A2 ((es++[(op,e2)]).map fun x=>V.str (dG x.1))) ((.e e2,v2)::F) true H t2 Kn (L.q f6 (12-d) Kn e (es++[(op,e2)])):=by
   rw[GG];exact R.swap
  have ahD: ∀x∈es++[(op,e2)],x.1∈sg:=fun x hx=>(Fp.mp hx).elim (hsg x) fun z=>by rw[Fd.mp z];exact WI
  have m0': ∃i:E1,((.e e2,v2)::F)[i]?=some (.e e,v):=m0.elim fun i h=>#[i+1,h]
  have mp':Paired (fun(x:EC×ER) u=> ∃i:E1,((.e e2,v2)::F)[i]?=some (.e x.2,u)) (es++[(op,e2)]) (us++[v2]):=iz (Paired.M7 mp fun x u h=>h.elim fun i h=>#[i+1,h]) #[0,rfl]
  refine bF (cR b8 (bv 2 #[_,aR (by rfl) T.Ra,rfl,_,rfl,?_]));rw[cj];refine aP (fun h=>?_) fun h=>?_
  ·have s2:sn=2:=by have:=Ft h;lia
   have on1:once=true:=by rw[Ye,s2];rfl
   have es0:=on0 on1;exact A4 (eN (by lia) (nb2 (h2 s2)) (fun _=>by rw[es0];exact E6 _) (.inl #[on1,fun z=>by rw[Sa] at z;cases z.2]) ahD m0' mp' R)
  ·have on1:once≠true:=by rw[Ye,FA fun z=>by have:=Fw h;rw[z] at this;exact this rfl];exact EE
   exact gb #[_,(show t2.length<r.length+1 by lia),_,_,us++[v2],t2,f6,rfl,rfl,fun z=>E7 z on1,(by rw[Fc,IT];lia),ahD,m0',mp',by lia,R]
 ·exact eN (by lia) nb (fun z=>by rw[on0 z];exact Fs _) (.inr fun op ho hm=>by
   rw[ho,AY hm] at ein;cases ein) hsg m0 mp R
theorem yi (h:EV t "if"=false):Ff (f+1) d Kn t=ors f d Kn t:=by
 rw[Ff];show(if EV t "if"=true then _ else _)=_
 rw[EI [042]]
 rfl
theorem aln (T:aU K mg a) (XC:XT K a) (hk:8<=k)
  (G1:T.Wl.O P w base k (aV a true Ff 12 (LvW j (ED "if"))))
  (G2:T.Xb.O P w base k (ud a true 0 ors 11 (Lv j))):
  T.RM.O P w base (k+1) (aV a true Ff 12 (Lv j)):=by
 refine uX T XC hk T.RM.F agj fun Gp A outer s H B t Kn d fuel Q E hr hd ho hf hm=>?_;intro X D Z Y R;refine bF (dv (iQ Y R (lM _ _ _) fun nb=>[022]));rw[bX R.tok vV];rw[03]
 ·exact aK #[_,Y.call2 #[G1,hr,T.Wl.c,rfl] (pv 1) [01] rfl,R.tail hd #[ho,beq_iff_eq.mp e] hf]
 ·obtain⟨f,rfl⟩: ∃f,fuel=f+1:=[076]
  exact aK #[_,aL G2 hr (by rfl) T.Xb.c Y.up (aa Y.rd (aa (pv 1) (aa aj ag))),_,_,rfl,RS.tail (R.as (yi e)) hd ho (by lia)]
theorem ahE {CX:pX}{k:E1}{sp1 sp2:Sp}(F1:bS P w K mg base CX k f fd ps sp1) (F2:bS P w K mg base CX k f fd ps sp2):bS P w K mg base CX k f fd ps (fun vs H Q E=>sp1 vs H Q E\/sp2 vs H Q E):=
 #[fun vs H Q E h=>h.elim (F1.len vs H Q E) (F2.len vs H Q E),fun A outer s H args us vs Q E hr he hb hv h=>h.elim (F1.run A outer s H args us vs Q E hr he hb hv) (F2.run A outer s H args us vs Q E hr he hb hv)]
theorem yF {p:E1->E1->EK->EU ER}{ok1 ok2:E1->EK->EG->Prop}{H:Hp}{Q:VK}{E:XK}(h:aV a w2 p c (fun d K t=>ok1 d K t\/ok2 d K t) vs H Q E):aV a w2 p c ok1 vs H Q E\/aV a w2 p c ok2 vs H Q E:=by
 obtain⟨B,n,t,Kn,d,fuel,e,hd,ok,S,hf,hW⟩:=h;rcases ok with ok|ok
 ·exact .inl #[B,n,t,Kn,d,fuel,e,hd,ok,S,hf,hW]
 ·exact .inr #[B,n,t,Kn,d,fuel,e,hd,ok,S,hf,hW]
theorem jV {p:E1->E1->EK->EU ER}{H:Hp}{Q:VK}{E:XK}(h:aV a w2 p c (Lv 0) vs H Q E):False:=by
 obtain⟨B,n,t,Kn,d,fuel,e,hd,ok,S,hf,hW⟩:=h;have ok:13<=d+0:=ok;lia
theorem kq:(∀o∈S0,o∈F6)/\(∀o∈S1,o∈F6)/\(∀o∈S2,o∈F6)/\(∀o∈S3,o∈F6)/\(∀o∈S4,o∈F6):=by decide+kernel
theorem alo:di[0]?=some (S0.map fun o=>V.str (dG o)):=by decide+kernel
theorem alp:di[1]?=some (S1.map fun o=>V.str (dG o)):=by decide+kernel
theorem alq:di[2]?=some (S2.map fun o=>V.str (dG o)):=by decide+kernel
theorem alr:di[3]?=some (S3.map fun o=>V.str (dG o)):=by decide+kernel
theorem als:di[4]?=some (S4.map fun o=>V.str (dG o)):=by decide+kernel
theorem alu (T:aU K mg a) (XC:XT K a) (KT:zu K a.Hz di): ∀j:E1,
  T.RM.O P w base (8+11*j) (aV a true Ff 12 (Lv j))/\
  T.VX.O P w base (8+11*j) (aV a false Gj 7 (Lv j)):=by
 intro j
 induction j with
 |zero=>exact#[fO T.RM.F agj (fun _ _ _ _ h=>(jV h).elim) (fun _ _ _ _ _ _ _ _ _ h=>(jV h).elim),fO T.VX.F aak (fun _ _ _ _ h=>(jV h).elim) (fun _ _ _ _ _ _ _ _ _ h=>(jV h).elim)]
 |succ j ih=>
  obtain⟨E0,U0⟩:=ih;have hk:8<=8+11*j:=by lia
  rw[show 8+11*(j+1)=8+11*j+11 by lia];generalize 8+11*j=k at hk E0 U0 ⊢;have B:=ahp T XC hk E0;have Su:=aho T XC hk E0;have Ca:=alm T XC hk E0;have Ch:=ahq T XC hk E0;have Pr:=ahw T XC (by lia) B Su Ca;have UF:T.VX.O P w base (k+1+1) (aV a false Gj 7 (fun _ _ _=>False)):=
   fO T.VX.F aak (fun _ _ _ _ h=>by obtain⟨B,n,t,Kn,d,fuel,e,hd,ok,_⟩:=h;exact ok.elim) (fun _ _ _ _ _ _ _ _ _ h=>by obtain⟨B,n,t,Kn,d,fuel,e,hd,ok,_⟩:=h;exact ok.elim)
  have UN:=gJ (j:=j+1) (fun d _ t=>13<=d+(j+1)/\ ∃m,E4 t= .num m) (fun _ _ _=>False) T XC (by lia) (fun d Kn t h=>h.1) (fun d Kn s xp t h _=>by obtain⟨_,m,z⟩:=h;cases z) (fun d Kn s xp t m h _=>by obtain⟨_,m,z⟩:=h;cases z) Pr UF
  have UB:=(ahE (U0.mono (by lia:k<=k+1+1+1)) UN).imp fun vs H Q E h=>yF h
  have Un:=gJ (j:=j+1) (Lv (j+1)) (fun d K t=>Lv j d K t\/(13<=d+(j+1)/\ ∃m,E4 t= .num m)) T XC (by lia) (fun d Kn t h=>h) (fun d Kn s xp t h lt=> .inl (by have h:13<=d+(j+1):=h;show 13<=d+1+j;lia)) (fun d Kn s xp t m h z=> .inr #[h,m,z]) (Pr.mono (by lia:k+1+1<=k+1+1+1)) UB
  have C5:=yA T XC KT (by lia) Un
  have C4:=fb T XC KT (by lia) (sn:=4) [01] (fun z=>by cases z) [01] aht Ec als kq.2.2.2.2 rfl C5
  have C3:=fb T XC KT (by lia) (sn:=3) [01] (fun z=>by cases z) [01] ahs DQ alr kq.2.2.2.1 rfl C4
  have C2:=fb T XC KT (by lia) (sn:=2) [01] (fun _=>rfl) [01] ahv Dp alq kq.2.2.1 rfl C3
  have C1:=fb T XC KT (by lia) (sn:=1) [01] (fun z=>by cases z) [01] ahr Ev alp kq.2.1 rfl C2
  have C0:=fb T XC KT (by lia) (sn:=0) [01] (fun z=>by cases z) [01] alh aaU alo kq.1 rfl C1
  have Ex:=aln T XC (by lia) (Ch.mono (by lia)) C0;exact#[Ex.mono (by lia),Un.mono (by lia)]
end OS
namespace OS
open Vbemac
section
variable {K:Known}
theorem Bv (h:He t "let"=true):stmt (k+1) d K B t=(next>>=fun _=>newName K>>=fun x=>sign "=">>=fun _=>expr k DEEP K>>=fun e=>sign ";">>=fun _=>pure (.bind x e,K.with x,B):P (Stmt×Known×Blocks)) t:=by
 rw[stmt];show(if He t "let"=true then _ else _)=_
 rw[EL h]
theorem Cl (h1:He t "let"=false) (h:He t "for"=true):stmt (k+1) d K B t=(deeper d>>=fun n=>next>>=fun _=>newName K>>=fun x=>key "in">>=fun _=>expr k DEEP K>>=fun lo=>sign "..">>=fun _=>expr k DEEP K>>=fun hi=>
  sign "{">>=fun _=>stmts k n [046] B>>=fun l=>pure (.loop x lo hi l.1,K,l.2):P (Stmt×Known×Blocks)) t:=by
 rw[stmt];show(if He t "let"=true then _ else if He t "for"=true then _ else _)=_
 rw[EI [039],EL h]
def k7 (k n:E1) (K:Known) (c:Exp) (a:Stmts×Blocks):P (Stmt×Known×Blocks):=ifKey "else">>=fun m=>(if m=true then(sign "{">>=fun _=>stmts k n K a.2>>=fun b=>pure (.cond c a.1 b.1,K,b.2)) else pure (.cond c a.1 .nil,K,a.2))
theorem CZ (h1:He t "let"=false) (h2:He t "for"=false) (h:He t "if"=true):stmt (k+1) d K B t=(deeper d>>=fun n=>next>>=fun _=>expr k DEEP K>>=fun c=>sign "{">>=fun _=>stmts k n K B>>=fun a=>k7 k n K c a:P (Stmt×Known×Blocks)) t:=by
 rw[stmt];show(if He t "let"=true then _ else if He t "for"=true then _ else if He t "if"=true then _ else _)=_
 rw[EI [039],EI (by rw[h2];exact EE),EL h]
 rfl
def kr (m:ET FJ) (B:Blocks):Blocks:=match m with
 |some w=>w::B
 |none=>B
theorem vd (h1:He t "let"=false) (h2:He t "for"=false) (h3:He t "if"=false) (h:He t "block"=true):stmt (k+1) d K B t=(next>>=fun _=>maybeName B>>=fun m=>side>>=fun WR=>key "zone">>=fun _=>expr k DEEP K>>=fun z=>
  key "price">>=fun _=>expr k DEEP K>>=fun p=>key "amount">>=fun _=>newName K>>=fun x=>sign ":">>=fun _=>expr k DEEP [046]>>=fun q=>behind "under" (knownBlock B)>>=fun u=>behind "group" (expr k DEEP K)>>=fun g=>sign ";">>=fun _=>
  pure (.block m WR z p x q u g,K,kr m B):P (Stmt×Known×Blocks)) t:=by
 rw[stmt];show(if He t "let"=true then _ else if He t "for"=true then _ else if He t "if"=true then _ else if He t "block"=true then _ else _)=_
 rw[EI [039],EI (by rw[h2];exact EE),EI (by rw[h3];exact EE),EL h]
 rfl
theorem yS (h1:He t "let"=false) (h2:He t "for"=false) (h3:He t "if"=false) (h4:He t "block"=false):stmt (k+1) d K B t=(side>>=fun WR=>key "zone">>=fun _=>expr k DEEP K>>=fun z=>
  key "quarter">>=fun _=>expr k DEEP K>>=fun q=>key "price">>=fun _=>expr k DEEP K>>=fun p=>behind "to" (expr k DEEP K)>>=fun top=>key "amount">>=fun _=>expr k DEEP K>>=fun a=>sign ";">>=fun _=>
  pure (.step WR z q p top a,K,B):P (Stmt×Known×Blocks)) t:=by
 rw[stmt];show(if He t "let"=true then _ else if He t "for"=true then _ else if He t "if"=true then _ else if He t "block"=true then _ else _)=_
 rw[EI [039],EI (by rw[h2];exact EE),EI (by rw[h3];exact EE),EI (by rw[h4];exact EE)]
theorem yE (h:Ll t "}"=true):stmts (k+1) d K B t= .ok ((.nil,B),t.drop 1):=by
 rw[stmts];show(if Ll t "}"=true then _ else _)=_
 rw[EL h]
theorem BG (h:Ll t "}"=false):stmts (k+1) d K B t=(stmt k d K B>>=fun s=>stmts k d s.2.1 s.2.2>>=fun l=>pure (.cons s.1 l.1,l.2):P (Stmts×Blocks)) t:=by
 rw[stmts];show(if Ll t "}"=true then _ else _)=_
 rw[EI [042]]
end
section
variable {K:Known}
theorem xP (h:n≠0):params (k+1) n K t=(newName K>>=fun x=>ifSign ",">>=fun m=>(if m=true then(params k (n-1) [046]>>=fun l=>pure (x::l)) else(sign ")">>=fun _=>pure [x])):P (EA FJ)) t:=by
 rw[params];show(if n=0 then _ else _)=_
 rw[EI h]
theorem vI (h:n=0):params (k+1) n K t=fail 7 t:=by
 rw[params];show(if n=0 then _ else _)=_
 rw[EL h]
theorem zN (h:peek t= .eof):tops (k+1) K n D t= .ok ([],t):=by
 rw[tops];show(if peek t= .eof then _ else _)=_
 rw[EL h]
theorem vF (h0:peek t≠ .eof) (h:He t "const"=true):tops (k+1) K n D t=(next>>=fun _=>newName K>>=fun x=>sign "=">>=fun _=>expr k DEEP K>>=fun e=>sign ";">>=fun _=>tops k [046] n D>>=fun l=>pure (.const x e::l):P Sheet) t:=by
 rw[tops];show(if peek t= .eof then _ else if He t "const"=true then _ else _)=_
 rw[EI h0,EL h]
theorem Cq (h0:peek t≠ .eof) (h1:He t "const"=false) (h:He t "fun"=true) (hn:n≠0):tops (k+1) K n D t=(next>>=fun _=>newName K>>=fun x=>sign "(">>=fun _=>ifSign ")">>=fun none_=>
  (if none_=true then give [] else params k PARAMS [046])>>=fun ps=>sign "=">>=fun _=>expr k DEEP { K with values:=ps++K.values } >>=fun e=>sign ";">>=fun _=>tops k { K with funs:=(x,ps.length)::K.funs } (n-1) D>>=fun l=>pure (.func x ps e::l):P Sheet) t:=by
 rw[tops];show(if peek t= .eof then _ else if He t "const"=true then _ else if He t "fun"=true then(if n=0 then _ else _) else _)=_
 rw[EI h0,EI [039],EL h,EI hn]
theorem yc (h0:peek t≠ .eof) (h1:He t "const"=false) (h:He t "fun"=true) (hn:n=0):tops (k+1) K n D t=fail 7 t:=by
 rw[tops];show(if peek t= .eof then _ else if He t "const"=true then _ else if He t "fun"=true then(if n=0 then _ else _) else _)=_
 rw[EI h0,EI [039],EL h,EL hn]
def eD (D:EA FJ):P FJ:=fun u=>match anyName u with
 | .error e=> .error e
 | .ok (w,r)=>if D.contains w=true then fail 4 u else .ok (w,r)
theorem yn (h0:peek t≠ .eof) (h1:He t "const"=false) (h2:He t "fun"=false) (h:He t "desk"=true):tops (k+1) K n D t=(next>>=fun _=>eD D>>=fun x=>sign "{">>=fun _=>stmts k NEST K []>>=fun l=>tops k K n (x::D)>>=fun r=>pure (.desk x l.1::r):P Sheet) t:=by
 rw[tops];show(if peek t= .eof then _ else if He t "const"=true then _ else if He t "fun"=true then _ else if He t "desk"=true then _ else _)=_
 rw[EI h0,EI [039],EI (by rw[h2];exact EE),EL h]
 rfl
theorem yN (h0:peek t≠ .eof) (h1:He t "const"=false) (h2:He t "fun"=false) (h:He t "desk"=false):tops (k+1) K n D t=fail 2 t:=by
 rw[tops];show(if peek t= .eof then _ else if He t "const"=true then _ else if He t "fun"=true then _ else if He t "desk"=true then _ else _)=_
 rw[EI h0,EI [039],EI (by rw[h2];exact EE),EI [042]]
theorem lT (D:EA FJ):aI (eD D):=fun t e=>by unfold eD;rw[eB t e]
end
end OS
namespace OS
open Vbemac
def lC:Stmt->ET FJ
 | .bind x _=>some x
 |_=>none
def DY (K:Known) (s:Stmt) (K':Known):Prop:=match lC s with
 |some x=>K'=K.with x/\K.taken x=false
 |none=>K'=K
def jz (ss:EA Stmt):EA FJ:=ss.filterMap lC
def A9:EA Stmt->Stmts->Stmts
 |[],l=>l
 |s::r,l=> .cons s (A9 r l)
theorem so:A9 (ss++[x]) l=A9 ss (.cons x l):=by
 induction ss with
 |nil=>rfl
 |cons y r ih=>show Stmts.cons y (A9 (r++[x]) l)=_;rw[ih];rfl
structure gU (K:Known) (ss:EA Stmt) (K':Known):Prop where
 funs:K'.funs=K.funs
 vals:K'.values=(jz ss).reverse++K.values
 nodup:(jz ss).Nodup
 free: ∀x∈jz ss,x∉K.values
theorem gU.nil {K:Known} :gU K [] K:=#[rfl,rfl,Mb,fun _ z=>nomatch z]
theorem gU.snoc {K K1 K2:Known}(h:gU K ss K1) (h2:DY K1 s K2):gU K (ss++[s]) K2:=by
 unfold DY at h2;cases e:lC s with
 |none=>
  rw[e] at h2;have h2:K2=K1:=h2;have:jz (ss++[s])=jz ss:=by unfold jz;rw[SG];simp [e]
  rw[h2];exact#[h.funs,by rw[this];exact h.vals,by rw[this];exact h.nodup,by rw[this];exact h.free]
 |some x=>
  rw[e] at h2;obtain⟨rfl,ht⟩:=h2;have:jz (ss++[s])=jz ss++[x]:=by unfold jz;rw[SG];simp [e]
  unfold Known.taken at ht;rw[Lx] at ht;have nc:x∉K1.values:=fun z=>by rw[FK.mpr z] at ht;cases ht.1
  rw[h.vals] at nc;refine#[h.funs,?_,?_,?_]
  ·rw[this]
   show x::K1.values=_
   rw[h.vals,T6]
   rfl
  ·rw[this,KO]
   refine#[h.nodup,FI.mpr #[GZ,Mb],fun a ha b hb=>?_];rw[Fd.mp hb];intro z;exact nc (Fp.mpr (.inl (Js.mpr (by rw[<-z];exact ha))))
  ·rw[this]
   intro y hy z;rcases Fp.mp hy with hy|hy
   ·exact h.free y hy z
   ·rw[Fd.mp hy] at z
    exact nc (Fp.mpr (.inr z))
end OS
namespace OS
open Vbemac
abbrev gS:=Top×Known×E1×EA FJ
def aaV (k:E1) (K:Known) (n:E1) (D:EA FJ):P gS:=newName K>>=fun x=>sign "(">>=fun _=>ifSign ")">>=fun none_=>(if none_=true then give [] else params k PARAMS [046])>>=fun ps=>sign "=">>=fun _=>
 expr k DEEP { K with values:=ps++K.values } >>=fun e=>sign ";">>=fun _=>pure (.func x ps e,{ K with funs:=(x,ps.length)::K.funs },n-1,D)
def vo (k:E1) (K:Known) (n:E1) (D:EA FJ):P gS:=newName K>>=fun x=>sign "=">>=fun _=>expr k DEEP K>>=fun e=>sign ";">>=fun _=>pure (.const x e,K.with x,n,D)
def zI (k:E1) (K:Known) (n:E1) (D:EA FJ):P gS:=eD D>>=fun x=>sign "{">>=fun _=>stmts k NEST K []>>=fun l=>pure (.desk x l.1,K,n,x::D)
def ia (k:E1) (K:Known) (n:E1) (D:EA FJ):P gS:=fun t=>
 if He t "const"=true then(next>>=fun _=>vo k K n D:P gS) t
 else if He t "fun"=true then(if n=0 then fail 7 t else(next>>=fun _=>aaV k K n D:P gS) t)
 else if He t "desk"=true then(next>>=fun _=>zI k K n D:P gS) t
 else fail 2 t
theorem lK (k:E1) (K:Known) (n:E1) (D:EA FJ):aI (ia k K n D):=fun t e=>by
 unfold ia;rw[cq e,cq e,cq e,EI EE,EI EE,EI EE];exact aG 2 t e
end OS
namespace OS
open PySem PySem.Spec L2
open PyProof.Rows hiding St
variable {P:Fz}{w:Ga}{K:EF}{mg:Fh->ET EH}{base:Gn}{a:bf}
theorem ahF:d7 "=" (ED "="):=[008]
theorem AF:d7 ";" (ED ";"):=[008]
theorem ahG:d7 "{" (ED "{"):=[008]
theorem Yf:d7 "}" (ED "}"):=[008]
theorem xr:cY "sell" (ED "sell"):=[007]
theorem An:cY "buy" (ED "buy"):=[007]
theorem px:cY "amount" (ED "amount"):=[007]
def dQ (f:E1) (Kn:EK):EU ER:=FC "=">>=fun _=>Ff f GW Kn>>=fun e=>FC ";">>=fun _=>pure e
def du (s:String) (f:E1) (Kn:EK):EU ER:=GN s>>=fun _=>Ff f GW Kn
def i9 (f:E1) (Kn:EK):EU (EC×ER):=GN "amount">>=fun _=>Ge Kn>>=fun x=>FC ":">>=fun _=>Ff f GW (Kn.with x)>>=fun e=>pure (x,e)
def Eg {α β:Type}(Z:Zf β) (g:α->EU β):Prop:= ∀e r,E4 r= .bad->W (g e) r Z.Ro (QE Z.a Z.B Z.H0 Z.E)->QE Z.a Z.B Z.H0 Z.E 1 (HC r)
theorem Ej {α β:Type}{Z:Zf β}{g:α->EU β}(h: ∀e,aI (g e)):Eg Z g:=fun e _ nb w=>(h e).K6 nb w
theorem aaW {α β:Type}{Z:Zf β}{p:EU α}{g:α->EU β}{t:EG}(h:Eg Z g) (hr:gZ p) (b:E4 t= .bad) (w:W (p>>=g) t Z.Ro (QE Z.a Z.B Z.H0 Z.E)):QE Z.a Z.B Z.H0 Z.E 1 (HC t):=by
 rw[js] at w;rcases hr t b with e|⟨x,e⟩
 ·rw[iW e] at w;exact w
 ·rw[yP e] at w;exact h x t b w
inductive gn {α:Type}(a:bf) (args:EA V) (p:E1->EK->EU α) (c:E1) (en bt:FR) (mk:α->Fk) (vs:EA V) (H:Hp) (Q:VK) (E:XK):Prop
 |mk {β:Type}(B:Rb) (L:E1) (H0:Hp) (Ro:β->EG->Prop) (F:EA (Fk×V)) (b:FR) (t:EG) (Kn:EK) (f:E1) (g:α->EU β) (_:vs= .ref B.r::args) (_:16*t.length+c<=f) (_:en=true->Eg ⟨a,E,B,L,H0,Ro⟩ g) (_:RS ⟨a,E,B,L,H0,Ro⟩ F b H t Kn (p f Kn>>=g))
  (_: ∀x v H' t',RS #[a,E,B,L,H0,Ro] ((mk x,v)::F) (b||bt) H' t' Kn (g x)->Q v H'):gn a args p c en bt mk vs H Q E
inductive DZ {α:Type}(a:bf) (pp:Rb->EU α->Prop) (val:α->V) (vs:EA V) (H:Hp) (Q:VK) (E:XK):Prop
 |mk {β:Type}(B:Rb) (L:E1) (H0:Hp) (Ro:β->EG->Prop) (F:EA (Fk×V)) (b:FR) (t:EG) (Kn:EK) (p:EU α) (g:α->EU β) (_:vs=[.ref B.r]) (_:pp B p) (_:RS ⟨a,E,B,L,H0,Ro⟩ F b H t Kn (p>>=g))
  (_: ∀x H' t',RS #[a,E,B,L,H0,Ro] F true H' t' Kn (g x)->Q (val x) H'):DZ a pp val vs H Q E
section
variable {β:Type}{Z:Zf β}{H:Hp}{p:EU β}
theorem RS.room (R:RS Z F b H t Kn p):Kn.values.length+t.length<=4000:=by
 rw[00];exact S.kn.len
theorem RS.lL (R:RS Z F b H t Kn p):t.length<=Z.L:=Fj (Ju _ _) R.l
theorem RS.or {c:FR}(R:RS Z F true H t Kn p):RS Z F (c||true) H t Kn p:=by rw[Pk];exact R
theorem RS.cut (n:E1) (R:RS Z F b H t Kn p):RS Z (F.drop n) b H t Kn p:=#[R.S,R.k,fun {i x} e=>R.f (i:=n+i) (by rw[<-EA.getElem?_drop];exact e),R.l,R.w]
theorem RS.asf {α:Type}{q q':EU α}{g:α->EU β}(R:RS Z F b H t Kn (q>>=g)) (e:q t=q' t):RS Z F b H t Kn (q'>>=g):=R.as (aS e)
end
section
variable {k:E1}{x Gz:Fh}{st:Stmt}{f:EJ}{fd:FL}{N ps:EA Fh}{α:Type}{args:EA V}{p:E1->EK->EU α}{c:E1}{en bt:FR}{mk:α->Fk}{val:α->V}{pp:Rb->EU α->Prop}
set_option cleanup.letToHave false in
theorem Dz (T:aU K mg a) (XC:XT K a) (hk:8<=k) (F:oJ K x Gz st f fd) (S:az N ("reader"::ps) (af st)) (hl:args.length=ps.length)
  (Jc: ∀(Gp:EH) (A:Gk) (outer:EA Env) (s:EM) (H:Hp) {β:Type}(B:Rb) (L:E1) (H0:Hp) (Ro:β->EG->Prop) (F:EA (Fk×V)) (b:FR) (t:EG) (Kn:EK) (fu:E1) (g:α->EU β) (Q:VK) (E:XK),bW k (A.deeper [011])->16*t.length+c<=fu->
   let X:=fg (fW P w) P w K mg base N Gz (af st) f Gp A outer s H E
   let D:eG:= { nx:=fun _ H'=>Q .HZ H',rt:=Q }
   let Z:Zf β:=#[a,E,B,L,H0,Ro]
   (en=true->Eg Z g)->RX X a E->RS Z F b H t Kn (p fu Kn>>=g)->(∀x v H' t',RS Z ((mk x,v)::F) (b||bt) H' t' Kn (g x)->Q v H')->Bd X (a7 st) D (L2.start N (.ref B.r::args)) H):bS P w K mg base (fW P w) (k+1) f fd ("reader"::ps) (gn a args p c en bt mk):=by
 refine fO F S [061] [02]
 ·obtain⟨B,L,H0,Ro,F,b,t,Kn,fu,g,rfl,_⟩:=h
  exact FN Q0 hl
 ·obtain⟨B,L,H0,Ro,F,b,t,Kn,fu,g,rfl,h1,h2,R,q⟩:=h
  exact Jc Gp A outer s H B L H0 Ro F b t Kn fu g Q E hr h1 h2 [063] R q
set_option cleanup.letToHave false in
theorem ahH (T:aU K mg a) (XC:XT K a) (hk:8<=k) (F:oJ K x Gz st f fd) (S:az N ["reader"] (af st))
  (Jc: ∀(Gp:EH) (A:Gk) (outer:EA Env) (s:EM) (H:Hp) {β:Type}(B:Rb) (L:E1) (H0:Hp) (Ro:β->EG->Prop) (F:EA (Fk×V)) (b:FR) (t:EG) (Kn:EK) (p:EU α) (g:α->EU β) (Q:VK) (E:XK),bW k (A.deeper [011])->pp B p->
   let X:=fg (fW P w) P w K mg base N Gz (af st) f Gp A outer s H E
   let D:eG:= { nx:=fun _ H'=>Q .HZ H',rt:=Q }
   let Z:Zf β:=#[a,E,B,L,H0,Ro]
   RX X a E->RS Z F b H t Kn (p>>=g)->(∀x H' t',RS Z F true H' t' Kn (g x)->Q (val x) H')->Bd X (a7 st) D (L2.start N [.ref B.r]) H):bS P w K mg base (fW P w) (k+1) f fd ["reader"] (DZ a pp val):=by
 rw[017];obtain⟨B,L,H0,Ro,F,b,t,Kn,p,g,rfl,h1,R,q⟩:=h;exact Jc Gp A outer s H B L H0 Ro F b t Kn p g Q E hr h1 [063] R q
end
section
variable {β:Type}{Z:Zf β}{H:Hp}{E:XK}{Q:VK}{sp:Sp}{p:EU β}
theorem e6 (Y:RX X a E) (c:CB X x ["reader"] sp) (q:sp [.ref B] H Q E) (hx:(x == [003])=false:=by decide):Pe X (.Call (.Name x p1) [.Name "reader" p2] [] p4) (some (.ref B)::σ) H Q:=by
 obtain⟨G,hr,d,hg⟩:=c;exact#[_,aL G hr hg d Y.up (aa Y.rd ag) hx,q]
theorem wu (Y:RX X a E) (c:CB X x ["reader","word"] sp) (q:sp [.ref B, .str v] H Q E) (hx:(x == [003])=false:=by decide):Pe X (.Call (.Name x p1) [.Name "reader" p2, .Constant (.str v) j p3] [] p4) (some (.ref B)::σ) H Q:=by
 obtain⟨G,hr,d,hg⟩:=c;exact#[_,aL G hr hg d Y.up (aa Y.rd (aa dH ag)) hx,q]
end
abbrev mP (P:Fz) (w:Ga) (K:EF) (mg:Fh->ET EH) (base:Gn) (a:bf) (k:E1):Prop:=bS P w K mg base (fW P w) k a.f_c a.adS ["reader","depth"] (aV a true Ff 12 (Lv 13))
theorem yu {Kn:EK}{t:EG} :Lv 13 0 Kn t:=by show 13<=0+13;decide
theorem ahI (T:aU K mg a) (XC:XT K a) (hk:8<=k) (G:mP P w K mg base a k):
  T.Xc.O P w base (k+1) (gn a [] dQ 12 false true .e):=by
 refine Dz T XC hk T.Xc.F akC rfl fun Gp A outer s H β B L H0 Ro F b t Kn fu g Q E hr hf=>?_;intro X D Z _ Y R q;have c:CB X "read_exp" ["reader","depth"] (aV a true Ff 12 (Lv 13)):=[048];have lL:=R.lL;have hF:16*(Z.at t.length).L+12<=fu+16:=Fj hf (Ju _ _);have R:RS (Z.at t.length) F false H t Kn (FC "=">>=fun _=>Ff fu GW Kn>>=fun e=>FC ";">>=fun _=>g e):=by
  have:=R.at;simp only[dQ,bind_assoc,pure_bind] at this;exact this
 refine cC (Z:=Z.at t.length) Y ahF R fun H t R=>?_;refine d9 (Z:=Z.at _) (d:=0) 1 Y c aj [05] R (oi fun x=>(be ";").bind) (Fs _) yu hF fun e v H t R=>?_;refine cC (Z:=Z.at _) Y AF R fun H t R=>?_;exact aK (bv 1 (q e v H t (R.back lL).or))
theorem aaX {v:Fh}{s:String}(lit:cY v (ED s)) (T:aU K mg a) (XC:XT K a) (hk:8<=k) (G:mP P w K mg base a k):
  T.Wx.O P w base (k+1) (gn a [.str v] (du s) 12 true true .e):=by
 refine Dz T XC hk T.Wx.F akE rfl fun Gp A outer s0 H β B L H0 Ro F b t Kn fu g Q E hr hf=>?_;rw[014];have R:RS (Z.at t.length) F false H t Kn (GN s>>=fun _=>Ff fu GW Kn>>=g):=by
  have:=R.at;simp only[du,bind_assoc] at this;exact this
 refine vW (Z:=Z.at t.length) Y R (pv 1) [05] (fun r _ ok=>lit.p r ok) fun H t1 R=>?_;have l1:t1.length+1<=t.length:=R.l;exact aK #[_,Y.call2 [048] aj [01] rfl,RS.call (Z:=Z.at _) (d:=0) R (en rfl) (Fs _) yu (by lia) fun e v H t _ R=>q e v H t (R.back lL).or]
theorem qa {α:Type}{s:String}{p:EU α}{t:EG}(h:EV t s=true):GJ s p t=(GN s>>=fun _=>p>>=fun x=>pure (some x):EU (ET α)) t:=by
 unfold GJ;rw[EL h];have e:(GN s>>=fun _=>p>>=fun x=>pure (some x):EU (ET α)) t=(p>>=fun x=>pure (some x):EU (ET α)) (t.drop 1):=by
  show(Fi (GN s) _) t=_
  unfold Fi GN;rw[EL h]
  rfl
 rw[e];show _=(Fi p _) (t.drop 1);unfold Fi;cases p (t.drop 1) with
 |error e=>rfl
 |ok z=>rfl
theorem oj {α:Type}{s:String}{p:EU α}{t:EG}(h:EV t s=false):GJ s p t= .ok (none,t):=by
 unfold GJ;rw[EI [042]]
theorem ahJ {v:Fh}{s:String}(lit:cY v (ED s)) (T:aU K mg a) (XC:XT K a) (hk:8<=k)
  (G:T.Wx.O P w base k (gn a [.str v] (du s) 12 true true .e)):
  T.d_A.O P w base (k+1) (gn a [.str v] (fun f Kn=>GJ s (Ff f GW Kn)) 12 true false .o):=by
 refine Dz T XC hk T.d_A.F akF rfl fun Gp A outer s0 H β B L H0 Ro F b t Kn fu g Q E hr hf=>?_;intro X D Z en Y R q;have en:=en rfl;refine bF (jf (dv (ma Y R (pv 1) [05] (fun bd=>aaW en (f7 s _) bd R.w) fun nb=>[022])));rw[bX R.tok lit];cases Z4:(E4 t == GV (ED s)) with
 |false=>
  refine cf (aK (nZ (q none .HZ H t (RS.and ?_ rfl))));rw[Oo];exact R.as (bG (oj Z4))
 |true=>
  have R:RS Z F b H t Kn (du s fu Kn>>=fun x=>g (some x)):=by
   have:=R.asf (qa Z4);simp only[du,bind_assoc,pure_bind] at this ⊢;exact this
  refine bK (aK #[_,aL G hr (by rfl) T.Wx.c Y.up (aa Y.rd [031]),Z.B,Z.L,Z.H0,Z.Ro,F,b,t,Kn,fu,_,rfl,hf,fun _ x r b w=>en (some x) r b w,R,fun x v H' t' R=>q (some x) v H' t' ?_]);obtain⟨S,k,f,l,w⟩:=R;refine#[S,k,fun {i y} e=>?_,Fj (Ux (by cases b<;>decide) _) l,w];cases i with
  |zero=>cases e;exact f (i:=0) (x:=(.e x,v)) rfl
  |succ i=>exact f (i:=i+1) e
inductive wC (a:bf) (vs:EA V) (H:Hp) (Q:VK) (E:XK):Prop
 |mk (r q kd fn ds bl:EJ) (n:E1) (x:F5×FT) (t:EG) (d:E1) (_:vs=[.ref r, .int d]) (_:mZ a H r q kd fn ds bl n (x::t)) (_:(d=6->nF a.Hd E H (if x.1= .bad then 1 else 6) x.2)) (_:(d≠6->Q [059] H)):wC a vs H Q E
def Bk (bl:X3) (B:Hm):Prop:= ∀u,has bl.c u=B.contains u
theorem ahK (T:aU K mg a) (XC:XT K a):T.Zl.O P w base 6 (wC a):=by
 rw[012];refine fO T.Zl.F agy [03] [02];obtain⟨r,q,kd,fn,ds,bl,n,x,t,d,rfl,R,hf,hg⟩:=h;rw[08];refine#[_,(ax (cy (a8 b8 (pv 1) (aR (by rfl) T.QG) (aM _)) (ah (bi (cx (pv 0) T.Fy T.Vq.c Us [017] aA (aa (aR (by rfl) T.Qg) ag)))) br)
   (ah (aJ (b7 dX (pv 1) aj)))),?_]
 refine [013];rw[cj];rw[03]
 ·have:=Ft e
  exact#[r,dr,_,rfl,er,rfl,r,q,kd,fn,ds,bl,n,x,t,6,rfl,R,hf (by lia)]
 ·have:=Fw e
  exact#[_,_,rfl,rfl,hg (by lia)]
section
variable {β:Type}{Z:Zf β}{H:Hp}
theorem sF (i:E1) {g:E1->EU β}(Y:RX X Z.a Z.E) (hd:d<=6) (nb:E4 t≠ .bad) (R:RS Z F b H t Kn (GS (6-d)>>=g)) (q:d<6->RS Z F b H t Kn (g (6-(d+1)))->Bd X ss D ((some (.ref Z.B.r)::some (.int d)::σ).set i (some [059])) H)
  (h:Sl X i y:=by exact#[rfl,Gx rfl,rfl]) (h1:X.N[1]?=some ("depth":Fh):=by rfl) (v1:oH X.env.scope "depth":=by exact Gx rfl) (hg:Gl X "deeper_braces":=by rfl):
  Bd X (.Assign [.Name y p0] (.Call (.Name "deeper_braces" p1) [.Name "reader" p2, .Name "depth" p3] [] p4) p5::ss) D (some (.ref Z.B.r)::some (.int d)::σ) H:=by
 rw[00];rw[023];have hW:=R.w;rw[js] at hW;have nx:x≠ .bad:=nb;refine aN i Y.nd (h:=h) #[_,Y.call2 #[ahK Y.T Y.C,Y.hr.mono [01],Y.T.Zl.c,hg] (dU h1 v1) [01] rfl,Z.B.r,Z.B.q,Z.B.kd,Z.B.fn,Z.B.ds,Z.B.bl,n,(x,xp),t',d,rfl,S.rd,fun e=>?_,fun e=>?_]
 ·rw[EI nx]
  exact fE (p:=GS (6-d)) (n:=6) (by unfold GS;rw[EL (by lia)]) nb hW H R.k
 ·have ed:GS (6-d) ((x,xp)::t')= .ok (6-(d+1),(x,xp)::t'):=by unfold GS;rw[EI (by lia),show 6-d-1=6-(d+1) by lia]
  rw[yP ed] at hW;exact q (by lia) #[R.S,R.k,R.f,R.l,hW]
theorem aaY {p:EU β}{C:FR->Hp->Prop}(Y:RX X Z.a Z.E) (R:RS Z F b H ((.word u,xp)::t) Kn p) (hB:Bk Z.B.bl Bs) (q:C (!Bs.contains u) H) (hp:ig p2 p4:=by rfl):
  Pt X (.Compare (.Attribute (.Call (.Attribute [005] "current" p2) [] [] p4) "value" p5) [.NotIn] [.Attribute (.Name "reader" p6) "blocks" p7] p3) (some (.ref Z.B.r)::σ) H C:=by
 rw[021];refine#[_,fB (iU (dj Y.hr) dn (ak Y.rd rfl)),vG Y R (fun b=>nomatch b) (fun _=>#[Z.B.r,_,dr,_,_,rfl,er,Y.T.Fy,Y.T.Jl,rfl,Z.B.bl.p,_,rfl,gv.k (k:=nk u) S.RB,_,rfl,?_]) hp]
 have:=hB u;unfold has at this;rw[this];exact q
end
theorem xJ {t:EG}(h:(x.1 == .word (ED "sell"))=true):Ib (x::t)= .ok (false,t):=by
 unfold Ib;rw[EL (show EV (x::t) "sell"=true from h)]
 rfl
theorem BD {t:EG}(h0:(x.1 == .word (ED "sell"))=false) (h:(x.1 == .word (ED "buy"))=true):Ib (x::t)= .ok (true,t):=by
 unfold Ib;rw[EI (by rw[show EV (x::t) "sell"=false from h0];exact EE),EL (show EV (x::t) "buy"=true from h)]
 rfl
theorem w8 {t:EG}(h0:(E4 t == .word (ED "sell"))=false) (h:(E4 t == .word (ED "buy"))=false):Ib t=E9 2 t:=by
 unfold Ib;rw[EI (by rw[show EV t "sell"=false from h0];exact EE),EI (by rw[show EV t "buy"=false from h];exact EE)]
theorem ahL (T:aU K mg a) (XC:XT K a):T.Zm.O P w base 9 (DZ a (fun _ p=>p=Ib) kg):=by
 refine ahH T XC (E6 _) T.Zm.F agB fun Gp A outer s0 H β B L H0 Ro F b t Kn p g Q E hr hp=>?_;intro X D Z Y R q;subst hp;obtain⟨⟨x,xp⟩,r,rfl⟩:=R.cons;have v1:lQ "sell" (E4 ((x,xp)::r))=(x == .word (ED "sell")):=bX R.tok xr;have v2:lQ "buy" (E4 ((x,xp)::r))=(x == .word (ED "buy")):=bX R.tok An;refine bF (Bq (jf (dv (iQ Y R ly.bind fun nb=>[022]))));rw[v1];cases e1:(x == GV (ED "sell")) with
 |true=>
  obtain rfl:=beq_iff_eq.mp e1;refine bK (bK (aK (iG Y (R.as (p':=F3>>=fun _=>g false) (bG (xJ e1))) Yb fun H R=>?_)));show Q (.str (sb (ED "sell"))) H;rw[<-xr.1];exact q false H r R
 |false=>
  refine cf (jf (dv (iV Y R nb [022])));rw[v2];cases e2:(x == GV (ED "buy")) with
  |true=>
   obtain rfl:=beq_iff_eq.mp e2;refine bK (aK (iG Y (R.as (p':=F3>>=fun _=>g true) (bG (BD e1 e2))) Yb fun H R=>?_));show Q (.str (sb (ED "buy"))) H;rw[<-An.1];exact q true H r R
  |false=>exact cf (bw (qW Y (aR (by rfl) T.Oa) R nb ((aS (w8 (t:=(x,xp)::r) e1 e2)).trans rfl)))
theorem ahM (T:aU K mg a) (XC:XT K a) (hk:8<=k) (G:mP P w K mg base a k):
  T.Wy.O P w base (k+1) (gn a [] i9 12 true true .am):=by
 refine Dz T XC hk T.Wy.F agC rfl fun Gp A outer s0 H β B L H0 Ro F b t Kn fu g Q E hr hf=>?_;intro X D Z en Y R q;rw[011];have R:RS (Z.at t.length) F false H t Kn (GN "amount">>=fun _=>Ge Kn>>=fun x=>FC ":">>=fun _=>Ff fu GW (Kn.with x)>>=fun e=>g (x,e)):=by
  have:=R.at;simp only[i9,bind_assoc,pure_bind] at this;exact this
 refine kY (Z:=Z.at t.length) Y px R fun H t1 R=>?_;refine ja (Z:=Z.at t.length) 1 Y R fun u H t2 ft R=>?_;refine cC (Z:=Z.at t.length) Y Ya R fun H t3 R=>?_;refine gB (Z:=Z.at t.length) Y (pv 1) [05] ft hm R fun H R=>?_;refine d9 (Z:=Z.at t.length) (d:=0) 2 Y [048] aj [05] R (fun e r b w=>en rfl (u,e) r b w) (Fs _) yu (by show 16*t.length+12<=fu+16;lia) fun e v H t4 R=>?_;refine ll (Z:=Z.at t.length) Y (pv 1) [05] ft R fun H R=>?_;refine hJ (Z:=Z.at t.length) Y (uF T) (aa (pv 1) [079]) [05] R rfl fun w H i R=>?_;have R:=(RS.back (Z:=Z) lL R).or (c:=b);obtain⟨S,k,f,l,w'⟩:=R;have fe:=f (i:=0) rfl;refine q (u,e) w H t4 #[S,k,fun {j y} z=>?_,l,w'];cases j with
 |zero=>cases z;exact#[v,i,fe]
 |succ j=>exact f (i:=j+1) z
theorem lV {t:EG}(hk:FZ.contains u=false):IB B ((.word u,xp)::t)=if B.contains u=true then .ok (u,t) else E9 3 ((.word u,xp)::t):=by
 unfold IB;rw[cU,EI (by rw[hk];exact EE)]
theorem mK {t:EG}(h:cN x.1=false):VS (x::t)=E9 2 (x::t):=by
 obtain⟨x,xp⟩:=x;cases x with
 |word u=>
  have h:cN (.word u)=false:=h;rw[dE] at h;rw[cU,EL (by cases e:FZ.contains u;rw[e] at h;cases h;rfl)]
 |_=>rfl
theorem ahN (T:aU K mg a) (XC:XT K a):T.Zn.O P w base 9 (DZ a (fun B p=> ∃Bs,Bk B.bl Bs/\p=IB Bs) fun u=> .str (sb u)):=by
 refine ahH T XC (E6 _) T.Zn.F agD fun Gp A outer s0 H β B L H0 Ro F b t Kn p g Q E hr hp=>?_;intro X D Z Y R q;obtain⟨Bs,hB,rfl⟩:=hp;obtain⟨⟨x,xp⟩,r,rfl⟩:=R.cons;refine bw (p_g Y R (jI Bs).bind (fun _ e=>(aS (q:=E9 2) ?_).trans rfl) fun nb e=>?_)
 ·unfold IB
  rw[mK e]
  rfl
 obtain⟨u,rfl,hu⟩:=gL e;have ek:=lV (xp:=xp) (t:=r) (B:=Bs) hu;refine bF (aaY Y R hB (aP (fun h=>?_) fun h=>?_))
 ·rw[U8] at h
  rw[h,EI EE] at ek;exact bw (qW Y (aR (by rfl) T.PF) R nb ((aS (q:=E9 3) ek).trans rfl))
 ·rw[OP] at h
  rw[h,EL rfl] at ek;exact aK (iG Y (R.as (p':=F3>>=fun _=>g u) (bG ek)) Yb fun H R=>q u H r R)
theorem Cr:cY "let" (ED "let"):=[007]
theorem vP:cY "zone" (ED "zone"):=[007]
theorem uz:cY "quarter" (ED "quarter"):=[007]
theorem tw:cY "price" (ED "price"):=[007]
theorem Yg:cY "to" (ED "to"):=[007]
theorem sG:cY "block" (ED "block"):=[007]
theorem sS:cY "under" (ED "under"):=[007]
theorem tO:cY "group" (ED "group"):=[007]
abbrev X3.at_ (bl:X3) (c:EA (a0×V)):X3:=#[bl.p,c,bl.x]
abbrev Rb.bk (B:Rb) (c:EA (a0×V)):Rb:= { B with bl:=B.bl.at_ c }
abbrev Bf:=Gv×EK×Hm
inductive nO (a:bf) (av:E1->EA V) (ok:E1->EG->Prop) (vs:EA V) (H:Hp) (Q:VK) (E:XK):Prop
 |mk {β:Type}(B:Rb) (L:E1) (H0:Hp) (Ro:β->EG->Prop) (F:EA (Fk×V)) (b:FR) (t:EG) (Kn:EK) (Bs:Hm) (d f:E1) (g:Bf->EU β) (_:vs= .ref B.r::av d) (_:d<=6) (_:ok d t) (_:16*t.length+14<=f) (_:Bk B.bl Bs) (_:B.bl.c.length+t.length<=4000) (_:Eg ⟨a,E,B,L,H0,Ro⟩ g) (_:RS ⟨a,E,B,L,H0,Ro⟩ F b H t Kn (Kv f (6-d) Kn Bs>>=g))
  (_: ∀s v H' t' c',DY Kn s.1 s.2.1->Bk (B.bl.at_ c') s.2.2->c'.length+t'.length<=4000->RS #[a,E,B.bk c',L,H0,Ro] ((.st s.1,v)::F) true H' t' s.2.1 (g s)->Q v H'):nO a av ok vs H Q E
section
variable {k:E1}{x Gz:Fh}{st:Stmt}{f:EJ}{fd:FL}{N ps:EA Fh}{av:E1->EA V}{ok:E1->EG->Prop}
set_option cleanup.letToHave false in
theorem yq (T:aU K mg a) (XC:XT K a) (hk:8<=k) (F:oJ K x Gz st f fd) (S:az N ("reader"::ps) (af st)) (hl: ∀d,(av d).length=ps.length)
  (Jc: ∀(Gp:EH) (A:Gk) (outer:EA Env) (s:EM) (H:Hp) {β:Type}(B:Rb) (L:E1) (H0:Hp) (Ro:β->EG->Prop) (F:EA (Fk×V)) (b:FR) (t:EG) (Kn:EK) (Bs:Hm) (d fu:E1) (g:Bf->EU β) (Q:VK) (E:XK),bW k (A.deeper [011])->d<=6->ok d t->16*t.length+14<=fu->Bk B.bl Bs->B.bl.c.length+t.length<=4000->
   let X:=fg (fW P w) P w K mg base N Gz (af st) f Gp A outer s H E
   let D:eG:= { nx:=fun _ H'=>Q .HZ H',rt:=Q }
   let Z:Zf β:=#[a,E,B,L,H0,Ro]
   Eg Z g->RX X a E->RS Z F b H t Kn (Kv fu (6-d) Kn Bs>>=g)->(∀s v H' t' c',DY Kn s.1 s.2.1->Bk (B.bl.at_ c') s.2.2->c'.length+t'.length<=4000->RS #[a,E,B.bk c',L,H0,Ro] ((.st s.1,v)::F) true H' t' s.2.1 (g s)->Q v H')->Bd X (a7 st) D (L2.start N (.ref B.r::av d)) H):bS P w K mg base (fW P w) (k+1) f fd ("reader"::ps) (nO a av ok):=by
 refine fO F S [061] [02]
 ·obtain⟨B,L,H0,Ro,F,b,t,Kn,Bs,d,fu,g,rfl,_⟩:=h
  exact FN Q0 (hl d)
 ·obtain⟨B,L,H0,Ro,F,b,t,Kn,Bs,d,fu,g,rfl,h1,h2,h3,h4,h5,h6,R,q⟩:=h
  exact Jc Gp A outer s H B L H0 Ro F b t Kn Bs d fu g Q E hr h1 h2 h3 h4 h5 h6 [063] R q
end
section
variable {β:Type}{Z:Zf β}{H:Hp}
theorem iS (i:E1) {g:ER->EU β}(Y:RX X Z.a Z.E) (c:CB X "read_part" ["reader","word"] (gn Z.a [.str v] (du s) 12 true true .e)) (R:RS Z F true H t Kn (du s f Kn>>=g)) (hf:16*Z.L+12<=f+16) (en: ∀e,aI (g e)) (q: ∀e v H' t',RS Z ((.e e,v)::F) true H' t' Kn (g e)->Bd X ss D ((some (.ref Z.B.r)::σ).set i (some v)) H')
  (h:Sl X i y:=by exact#[rfl,Gx rfl,rfl]):Bd X (.Assign [.Name y p0] (.Call (.Name "read_part" p1) [.Name "reader" p2, .Constant (.str v) j p3] [] p4) p5::ss) D (some (.ref Z.B.r)::σ) H:=by
 have l:t.length+1<=Z.L:=R.l;exact aN i Y.nd (wu Y c #[Z.B,Z.L,Z.H0,Z.Ro,F,true,t,Kn,f,g,rfl,by lia,fun _=>Ej en,R,q]) h
theorem pR (i:E1) {g:ET ER->EU β}(Y:RX X Z.a Z.E) (c:CB X "read_part_if_there" ["reader","word"] (gn Z.a [.str v] (fun f Kn=>GJ s (Ff f GW Kn)) 12 true false .o)) (R:RS Z F true H t Kn (GJ s (Ff f GW Kn)>>=g)) (hf:16*Z.L+12<=f+16) (en: ∀e,aI (g e)) (q: ∀e v H' t',RS Z ((.o e,v)::F) true H' t' Kn (g e)->Bd X ss D ((some (.ref Z.B.r)::σ).set i (some v)) H')
  (h:Sl X i y:=by exact#[rfl,Gx rfl,rfl]):Bd X (.Assign [.Name y p0] (.Call (.Name "read_part_if_there" p1) [.Name "reader" p2, .Constant (.str v) j p3] [] p4) p5::ss) D (some (.ref Z.B.r)::σ) H:=by
 have l:t.length+1<=Z.L:=R.l;exact aN i Y.nd (wu Y c #[Z.B,Z.L,Z.H0,Z.Ro,F,true,t,Kn,f,g,rfl,by lia,fun _=>Ej en,R,q]) h
theorem nP (i:E1) {g:ER->EU β}(Y:RX X Z.a Z.E) (c:CB X "read_given" ["reader"] (gn Z.a [] dQ 12 false true .e)) (R:RS Z F true H t Kn (dQ f Kn>>=g)) (hf:16*Z.L+12<=f+16) (q: ∀e v H' t',RS Z ((.e e,v)::F) true H' t' Kn (g e)->Bd X ss D ((some (.ref Z.B.r)::σ).set i (some v)) H')
  (h:Sl X i y:=by exact#[rfl,Gx rfl,rfl]):Bd X (.Assign [.Name y p0] (.Call (.Name "read_given" p1) [.Name "reader" p2] [] p4) p5::ss) D (some (.ref Z.B.r)::σ) H:=by
 have l:t.length+1<=Z.L:=R.l;exact aN i Y.nd (e6 Y c #[Z.B,Z.L,Z.H0,Z.Ro,F,true,t,Kn,f,g,rfl,by lia,[032],R,q]) h
theorem wI (i:E1) {g:FR->EU β}(Y:RX X Z.a Z.E) (R:RS Z F b H t Kn (Ib>>=g)) (hr:bW 9 X.A) (q: ∀e H' t',RS Z F true H' t' Kn (g e)->Bd X ss D ((some (.ref Z.B.r)::σ).set i (some (kg e))) H')
  (h:Sl X i y:=by exact#[rfl,Gx rfl,rfl]) (hg:Gl X "read_side":=by rfl):Bd X (.Assign [.Name y p0] (.Call (.Name "read_side" p1) [.Name "reader" p2] [] p4) p5::ss) D (some (.ref Z.B.r)::σ) H:=
 aN i Y.nd (e6 Y #[ahL Y.T Y.C,hr,Y.T.Zm.c,hg] #[Z.B,Z.L,Z.H0,Z.Ro,F,b,t,Kn,_,g,rfl,rfl,R,q]) h
end
section
variable {K:EK}{β:Type}{g:Bf->EU β}
theorem aaZ (h:EV t "let"=true):(Kv (k+1) d K B>>=g) t=(F3>>=fun _=>Ge K>>=fun x=>dQ k K>>=fun e=>g (.bind x e,K.with x,B)) t:=by
 rw[aS (Bv h)];simp only[dQ,bind_assoc,pure_bind]
theorem Ey (h1:EV t "let"=false) (h2:EV t "for"=false) (h3:EV t "if"=false) (h4:EV t "block"=false):(Kv (k+1) d K B>>=g) t=(Ib>>=fun WR=>du "zone" k K>>=fun z=>du "quarter" k K>>=fun q=>du "price" k K>>=fun p=>GJ "to" (Ff k GW K)>>=fun top=>du "amount" k K>>=fun a=>FC ";">>=fun _=>g (.step WR z q p top a,K,B)) t:=by
 rw[aS (yS h1 h2 h3 h4)];simp only[du,bind_assoc,pure_bind]
end
theorem alv (T:aU K mg a) (XC:XT K a) (hk:8<=k) (G:T.Xc.O P w base k (gn a [] dQ 12 false true .e)):
  T.d_W.O P w base (k+1) (nO a (fun _=>[]) fun _ t=>EV t "let"=true):=by
 refine yq T XC hk T.d_W.F akD (fun _=>rfl) fun Gp A outer s H β B L H0 Ro F b t Kn Bs d fu g Q E hr hd ho hf hB hc=>?_;intro X D Z en Y R q;rw[011];obtain⟨xp,r,rfl⟩:=eY R (beq_iff_eq.mp ho);rw[015];have hF:16*(Z.at (((GV (ED "let"),xp)::r).length)).L+12<=f+16:=by show 16*((GV (ED "let"),xp)::r).length+12<=f+16;lia
 refine iH (Z:=Z.at _) Y Cr (R.at.as (aaZ ho)) fun H t R=>?_;refine ja (Z:=Z.at _) 1 Y R fun u H t ft R=>?_;refine nP (Z:=Z.at _) 2 Y #[G,hr,T.Xc.c,rfl] R hF fun e v H t R=>?_;refine gB (Z:=Z.at _) Y (pv 1) [05] ft hm R fun H R=>?_;refine hJ (Z:=Z.at _) Y (aaz T) (aa (pv 1) [079]) [05] R rfl fun w H i R=>?_;have l:t.length+1<=r.length+1:=R.l;rw[026];refine q (.bind u e,Kn.with u,Bs) w H t B.bl.c ⟨rfl,ft⟩ hB (by rw[EZ] at hc;lia) ((R.cut 1).and ?_);show aZ a (eW B) H (.bind u e) w;unfold aZ;exact#[v,i,R.f (i:=0) rfl]
theorem alw (T:aU K mg a) (XC:XT K a) (hk:9<=k)
  (G1: ∀ {v:Fh}{s:String},cY v (ED s)->T.Wx.O P w base k (gn a [.str v] (du s) 12 true true .e))
  (G2:T.d_A.O P w base k (gn a [.str "to"] (fun f Kn=>GJ "to" (Ff f GW Kn)) 12 true false .o)):
  T.d_X.O P w base (k+1) (nO a (fun _=>[]) fun _ t=>EV t "let"=false/\EV t "for"=false/\EV t "if"=false/\EV t "block"=false):=by
 refine yq T XC (by lia) T.d_X.F akG (fun _=>rfl) fun Gp A outer s H β B L H0 Ro F b t Kn Bs d fu g Q E hr hd ho hf hB hc=>?_;rw[014];obtain⟨n1,n2,n3,n4⟩:=ho;rw[015];have hF:16*(Z.at t.length).L+12<=f+16:=by show 16*t.length+12<=f+16;lia
 have cp: ∀ {v:Fh}{s:String},cY v (ED s)->CB X "read_part" ["reader","word"] (gn a [.str v] (du s) 12 true true .e):=fun l=>#[G1 l,hr,T.Wx.c,rfl]
 have ps: ∀ {γ:Type}{s:String}{f:E1}{h:ER->EU γ},aI (du s f Kn>>=h):=(eR _).bind.bind;refine wI (Z:=Z.at t.length) 1 Y (R.at.as (Ey n1 n2 n3 n4)) (hr.mono hk) fun bu H t1 R=>?_
 refine iS (Z:=Z.at t.length) 2 Y (cp vP) R hF (fun _=>ps) fun e1 v1 H t2 R=>?_;refine iS (Z:=Z.at t.length) 3 Y (cp uz) R hF (fun _=>ps) fun e2 v2 H t3 R=>?_;refine iS (Z:=Z.at t.length) 4 Y (cp tw) R hF (fun _=>(f7 "to" _).strict fun _=>ps) fun e3 v3 H t4 R=>?_;refine pR (Z:=Z.at t.length) 5 Y #[G2,hr,T.d_A.c,rfl] R hF (fun _=>ps) fun e4 v4 H t5 R=>?_;refine iS (Z:=Z.at t.length) 6 Y (cp px) R hF (fun _=>(be ";").bind) fun e5 v5 H t6 R=>?_;refine cC (Z:=Z.at t.length) Y AF R fun H t7 R=>?_;refine hJ (Z:=Z.at t.length) Y (DL T) (aa (pv 1) (aa (pv 2) (aa (pv 3) (aa (pv 4) (aa (pv 5) (aa (pv 6) ag)))))) [05] R rfl fun w H i R=>?_;have l:t7.length+1<=t.length:=R.l;rw[026];refine q (.step bu e1 e2 e3 e4 e5,Kn,Bs) w H t7 B.bl.c rfl hB (by lia) ((R.cut 5).and ?_);show aZ a (eW B) H (.step bu e1 e2 e3 e4 e5) w;unfold aZ;exact#[v1,v2,v3,v4,v5,i,R.f (i:=4) rfl,R.f (i:=3) rfl,R.f (i:=2) rfl,R.f (i:=1) rfl,R.f (i:=0) rfl]
theorem As {B:Hm}{t:EG}(Rm:FZ.contains u=false):Jn B ((.word u,xp)::t)=if B.contains u=true then E9 4 ((.word u,xp)::t) else .ok (some u,t):=by
 have c: ¬(EV ((.word u,xp)::t) "sell"=true\/EV ((.word u,xp)::t) "buy"=true):=fun z=>z.elim (fun z=>by
  have:GV u= .word (ED "sell"):=beq_iff_eq.mp z;cases this;exact E7 Rm [00]) fun z=>by
  have:GV u= .word (ED "buy"):=beq_iff_eq.mp z;cases this;exact E7 Rm [00]
 unfold Jn;rw[EI c];unfold UI;rw[cU,EI (by rw[Rm];exact EE)];dsimp only;by_cases h:B.contains u=true
 ·rw[EL h,EL h]
  rfl
 ·rw[EI h,EI h]
theorem z6 {γ:Type}{B:Hm}{t:EG}(nb:x.1≠ .bad) (en:cN x.1=false) {g:ET EC->FR->EU γ} :(Jn B>>=fun m=>Ib>>=fun b=>g m b) (x::t)=(Ib>>=fun b=>g none b) (x::t):=by
 by_cases c:EV (x::t) "sell"=true\/EV (x::t) "buy"=true
 ·exact bG (by unfold Jn;rw[EL c])
 ·have e:Jn B (x::t)= .error (2,HC (x::t)):=by
   unfold Jn UI;rw[EI c,mK en];unfold E9;rw[EI (show¬E4 (x::t)= .bad from nb)]
  have e2:Ib (x::t)= .error (2,HC (x::t)):=by
   rw[w8 (t:=x::t) (by cases h:(E4 (x::t) == GV (ED "sell"));rfl;exact E7 (.inl h) c) (by cases h:(E4 (x::t) == GV (ED "buy"));rfl;exact E7 (.inr h) c)];unfold E9;rw[EI (show¬E4 (x::t)= .bad from nb)]
  show Fi _ _ (x::t)=Fi _ _ (x::t)
  unfold Fi;rw[e,e2]
  rfl
theorem fm.aa0 {a:bf}{H:Hp}{B:Rb}{t:EG}{Kn:EK}(S:fm a B H n t Kn):fm a (B.bk c) (aF H B.bl.p (.dK c)) n t Kn:=by
 rw[02];rw[010];rw[07];rw[09];have hy:=S.R8;have e:=S.RB;rw[016];have nr:B.r≠B.bl.p:=fun w=>by rw[w,e] at er;cases er
 have nq:B.q≠B.bl.p:=fun w=>by rw[w,e] at h1;cases h1
 refine#[#[#[dr,(by show aF H B.bl.p (.dK c) B.r=_;rw[ac nr];exact er)],as,all,(by show aF H B.bl.p (.dK c) B.q=_;rw[ac nq];exact h1),Paired.M7 h2 fun b x ⟨dx,ex⟩=>#[dx,?_],h3],S.wh,#[#[kk,(by show aF H B.bl.p (.dK c) B.kd=_;rw[ac d3];exact k1),k2,k3],#[ff,(by show aF H B.bl.p (.dK c) B.fn=_;rw[ac d5];exact f1),f2],S.kn.len,#[ff,(by show aF H B.bl.p (.dK c) B.fn=_;rw[ac d5];exact f1),S.kn.fl f1]],(by show aF H B.bl.p (.dK c) B.ds.p=_;rw[ac d6];exact hy),ae,S.O8,fun b xs h=>?_]
 ·rw[ac fun w=>by rw[w,e] at ex;cases ex]
  exact ex
 ·have e2:=S.fr b xs h
  rw[018];exact e2
section
variable {β:Type}{Z:Zf β}{H:Hp}{Q:VK}{p:EU β}
theorem uD (Y:RX X Z.a Z.E) (R:RS Z F b H t Kn p) (hb:E4 t= .bad->QE Z.a Z.B Z.H0 Z.E 1 (HC t)) (no:E4 t≠ .bad->lQ v (E4 t)=false->Q (.bl false) H)
  (yes: ∀ {x:F5×FT}{r:EG},t=x::r->lQ v x.1=true->x.1≠ .bad-> ¬ju x/\ ∃p',p (x::r)=(F3>>=fun _=>p') (x::r)/\ ∀H',RS Z F true H' r Kn p'->Q (.bl true) H') (hp:ig p2 p4:=by rfl):
  Pe X (.Call (.Attribute [005] "skips" p2) [.Constant (.str v) j p3] [] p4) (some (.ref Z.B.r)::σ) H Q:=by
 rw[004];refine Y.m1 Y.T.Zd.c (CP Y.T Y.C) [01] Y.up S rfl (Xu #[Z.B.r,Z.B.q,Z.B.kd,Z.B.fn,Z.B.ds,Z.B.bl,n,x,t',v,rfl,S.rd,fun b=>hb (Ql.trans b) H R.k,no,fun nb e H' hp=>?_]) hp rfl;obtain⟨nf,p',e',q⟩:=yes rfl e nb;exact q H' ((R.as e').past S nf hp (R.as e').w)
theorem wp (Y:RX X Z.a Z.E) (R:RS Z F b H t Kn p) (hf: ∀n,(qJ Z.B.q Z.B.kd Z.B.fn Z.B.ds.p Z.B.bl.p n).lookup fld=some (.ref gd)) (na:ao X.K Z.a.FX fld) (hg:H gd=some (.dK gg)) (st:aI p) (h2:E4 t≠ .bad->cN (E4 t)=false->p t=E9 2 t) (h4: ∀u,E4 t= .word u->FZ.contains u=false->has gg u=true->p t=E9 4 t)
  (q: ∀u xp r,t=(.word u,xp)::r->FZ.contains u=false->has gg u=false-> ∃p',p ((.word u,xp)::r)=(F3>>=fun _=>p') ((.word u,xp)::r)/\ ∀H',RS Z F true H' r Kn p'->Q (.str (sb u)) H') (hp:ig p2 p4:=by rfl):
  Pe X (.Call (.Attribute [005] "take_name_not_in" p2) [.Attribute (.Name "reader" p3) fld p6] [] p4) (some (.ref Z.B.r)::σ) H Q:=by
 rw[021];rw[023];refine Y.m1 Y.T.Zg.c (jc Y.T Y.C) [01] Y.up S rfl #[_,ak Y.rd rfl,Z.B.r,_,dr,_,_,rfl,er,Y.T.Fy,na,hf n,Z.B.r,Z.B.q,Z.B.kd,Z.B.fn,Z.B.ds,Z.B.bl,gd,n,(x,xp),t',gg,rfl,S.rd,hg,fun b=>st.K6 (Ql.trans b) R.w H R.k,fun nb e=>fE (h2 nb e) nb R.w H R.k,fun u ex e hu=>?_,fun u ex e hu H' hp=>?_] hp rfl
 ·obtain⟨u',e1,e2⟩:=gL e
  obtain rfl:u=u':=by have:=ex.symm.trans e1;cases this;rfl
  exact fE (h4 u ex e2 hu) (by rw[show E4 ((x,xp)::t')= .word u from ex];intro z;cases z) R.w H R.k
 ·obtain⟨u',e1,e2⟩:=gL e
  obtain rfl:u=u':=by have:=ex.symm.trans e1;cases this;rfl
  obtain rfl:x= .word u:=ex;obtain⟨p',e',q⟩:=q u xp t' rfl e2 hu;exact q H' ((R.as e').past S Yb hp (R.as e').w)
theorem RS.aa0 {a:bf}{E:XK}{B:Rb}{H0:Hp}{Ro:β->EG->Prop}(R:RS #[a,E,B,L,H0,Ro] F b H t Kn p):RS #[a,E,B.bk c,L,H0,Ro] F b (aF H B.bl.p (.dK c)) t Kn p:=by
 rw[00];have k:db (eW B) H (aF H B.bl.p (.dK c)):=eQ (.inr (.inr (.inr (.inr (.inl rfl)))));exact#[#[n,S.aa0],R.k.trans k,fun e=>jd.Hj k.two (R.f e),R.l,R.w]
end
section
variable {K:EK}{β:Type}{g:Bf->EU β}
theorem CF (h1:EV t "let"=false) (h2:EV t "for"=false) (h3:EV t "if"=false) (h:EV t "block"=true):(Kv (k+1) d K B>>=g) t=(F3>>=fun _=>Jn B>>=fun m=>Ib>>=fun WR=>du "zone" k K>>=fun z=>du "price" k K>>=fun p=>i9 k K>>=fun x=>
  GJ "under" (IB B)>>=fun u=>GJ "group" (Ff k GW K)>>=fun gr=>FC ";">>=fun _=>g (.block m WR z p x.1 x.2 u gr,K,kr m B)) t:=by
 rw[aS (vd h1 h2 h3 h)];simp only[du,i9,bind_assoc,pure_bind]
end
theorem alx (T:aU K mg a) (XC:XT K a) (hk:9<=k)
  (G1: ∀ {v:Fh}{s:String},cY v (ED s)->T.Wx.O P w base k (gn a [.str v] (du s) 12 true true .e))
  (G2:T.d_A.O P w base k (gn a [.str "group"] (fun f Kn=>GJ "group" (Ff f GW Kn)) 12 true false .o))
  (G3:T.Wy.O P w base k (gn a [] i9 12 true true .am)):
  T.d_Y.O P w base (k+1) (nO a (fun _=>[]) fun _ t=>EV t "let"=false/\EV t "for"=false/\EV t "if"=false/\EV t "block"=true):=by
 refine yq T XC (by lia) T.d_Y.F akH (fun _=>rfl) fun Gp A outer s H β B L H0 Ro F b t Kn Bs d fu g Q E hr hd ho hf hB hc=>?_;intro X D Z en Y R q;rw[011];obtain⟨n1,n2,n3,n4⟩:=ho;rw[015];have hF:16*(Z.at t.length).L+12<=f+16:=by show 16*t.length+12<=f+16;lia
 have cp: ∀ {v:Fh}{s:String},cY v (ED s)->CB X "read_part" ["reader","word"] (gn a [.str v] (du s) 12 true true .e):=fun l=>#[G1 l,hr,T.Wx.c,rfl]
 have ps: ∀ {γ:Type}{s:String}{f:E1}{h:ER->EU γ},aI (du s f Kn>>=h):=(eR _).bind.bind;obtain⟨xp,r,e⟩:=eY R (beq_iff_eq.mp n4)
 have R:=R.at.as (CF n1 n2 n3 n4);generalize hl:t.length=l at R lL hF hm hc hf;subst e;refine iH (Z:=Z.at l) Y sG R fun H t R=>?_
 refine aN 1 Y.nd (nZ ?_);refine gi (fun σ' H'=> ∃(m:ET EC) (t:EG),σ'=[some (.ref B.r),some (h9 m),none,none,none,none,none,none]/\RS (Z.at l) F true H' t Kn (Ib>>=fun WR=>du "zone" f Kn>>=fun z=>du "price" f Kn>>=fun p=>i9 f Kn>>=fun x=>
  GJ "under" (IB Bs)>>=fun u=>GJ "group" (Ff f GW Kn)>>=fun gr=>FC ";">>=fun _=>g (.block m WR z p x.1 x.2 u gr,Kn,kr m Bs))) ?_ ?_
 ·rintro σ H ⟨m,t,rfl,R⟩
  refine wI (Z:=Z.at l) 2 Y R (hr.mono hk) fun bu H t R=>?_;refine iS (Z:=Z.at l) 3 Y (cp vP) R hF (fun _=>ps) fun e1 v1 H t R=>?_;refine iS (Z:=Z.at l) 4 Y (cp tw) R hF (fun _=>(eR _).bind.bind) fun e2 v2 H t R=>?_;have l5:t.length+1<=l:=R.l;have en6: ∀x:EC×ER,aI (GJ "under" (IB Bs)>>=fun u=>GJ "group" (Ff f GW Kn)>>=fun gr=>FC ";">>=fun _=>g (.block m bu e1 e2 x.1 x.2 u gr,Kn,kr m Bs)):=fun _=>(f7 "under" _).strict fun _=>(f7 "group" _).strict fun _=>(be ";").bind;refine aN 5 Y.nd (e6 Y #[G3,hr,T.Wy.c,rfl] #[B,l,H0,Ro,_,true,t,Kn,f,_,rfl,(by have:16*l+12<=f+16:=hF;lia),fun _=>Ej en6,R,fun e3 v3 H t R=>?_]);have R:RS (Z.at l) _ true H t Kn _:=R;refine aN 6 Y.nd (nZ ?_);refine gi (fun σ' H'=> ∃(un:ET EC) (t:EG),σ'=[some (.ref B.r),some (h9 m),some (kg bu),some v1,some v2,some v3,some (h9 un),none]/\RS (Z.at l) ((.am e3,v3)::(.e e2,v2)::(.e e1,v1)::F) true H' t Kn (GJ "group" (Ff f GW Kn)>>=fun gr=>FC ";">>=fun _=>g (.block m bu e1 e2 e3.1 e3.2 un gr,Kn,kr m Bs))) ?_ ?_
  ·rintro σ H ⟨un,t,rfl,R⟩
   refine pR (Z:=Z.at l) 7 Y #[G2,hr,T.d_A.c,rfl] R hF (fun _=>(be ";").bind) fun e4 v4 H t R=>?_;refine cC (Z:=Z.at l) Y AF R fun H t R=>?_;have l9:t.length+1<=l:=R.l;rw[026];refine gi (fun σ' H'=> ∃c',σ'=[some (.ref B.r),some (h9 m),some (kg bu),some v1,some v2,some v3,some (h9 un),some v4]/\Bk (B.bl.at_ c') (kr m Bs)/\c'.length+t.length<=4000/\RS #[a,E,B.bk c',L,H0,Ro] ((.o e4,v4)::(.am e3,v3)::(.e e2,v2)::(.e e1,v1)::F) true H' t Kn (g (.block m bu e1 e2 e3.1 e3.2 un e4,Kn,kr m Bs))) ?_ ?_
   ·rintro σ H ⟨c',rfl,hB',VZ,R⟩
    refine hJ (Z:=#[a,E,B.bk c',L,H0,Ro]) Y (Aw T) (aa (pv 1) (aa (pv 2) (aa (pv 3) (aa (pv 4) (aa (pv 5) (aa (pv 6) (aa (pv 7) ag))))))) [05] R rfl fun w H i R=>?_;refine q (.block m bu e1 e2 e3.1 e3.2 un e4,Kn,kr m Bs) w H t c' rfl hB' VZ ((R.cut 4).and ?_);show aZ a (eW B) H (.block m bu e1 e2 e3.1 e3.2 un e4) w;unfold aZ;exact#[v1,v2,v3,v4,i,R.f (i:=3) rfl,R.f (i:=2) rfl,R.f (i:=1) rfl,R.f (i:=0) rfl]
   ·refine#[_,fB (C7 (pv 1)),_,rfl,?_]
    cases m with
    |none=>exact bK #[B.bl.c,rfl,hB,by lia,R]
    |some u=>
     rw[021];refine cf (aQ (gW (dj hr) [001] (pv 1) rZ rfl) #[B.r,_,dr,_,_,rfl,er,T.Fy,T.Jl,rfl,B.bl.p,_,rfl, .inl #[B.bl.c,nk u,S.RB,rfl,FP (show B.bl.c.length<=4000 by lia) [01],rfl],cc #[dy B.bl.c (nk u) (.bl true),rfl,fun v=>?_,?_,R.aa0]])
     ·show has (dy B.bl.c (nk u) (.bl true)) v=(u::Bs).contains v
      rw[qm,FY,hB v]
      congr 1
      rw[GD,FH,beq_iff_eq]
     ·have:=cB B.bl.c (nk u) (.bl true)
      lia
  ·refine dv (uD (Z:=Z.at l) Y R (fun b=>(en6 e3).K6 b R.w) (fun nb e=>#[_,rfl,bK #[none,t,rfl,R.as (bG (oj ((bX R.tok sS).symm.trans e)))]]) fun {x r} et e nb=>?_)
   subst et;have e:=(bX R.tok sS).symm.trans e;obtain⟨x,xp⟩:=x;obtain rfl:x=_:=beq_iff_eq.mp e;refine#[Yb,IB Bs>>=fun u=>GJ "group" (Ff f GW Kn)>>=fun gr=>FC ";">>=fun _=>g (.block m bu e1 e2 e3.1 e3.2 (some u) gr,Kn,kr m Bs),?_,fun H R=>#[_,rfl,cf (aN 6 Y.nd (e6 Y #[ahN T XC,hr.mono hk,T.Zn.c,rfl] #[B,l,H0,Ro,_,true,r,Kn,_,_,rfl,#[Bs,hB,rfl],R,fun u H t R=>cc #[some u,t,rfl,R]]))]];rw[aS (qa e),bind_assoc];simp only[bind_assoc,pure_bind];exact bG (by unfold GN;rw[EL (show EV ((.word (ED "under"),xp)::r) "under"=true from e)])
 ·obtain⟨⟨x,xp⟩,r,rfl⟩:=R.cons
  refine dv (X7 (Z:=Z.at l) Y T.d_U.c (nI T XC) [01] (fun _=>rfl) R (gy Bs).bind fun nb=>#[_,rfl,aP [015] fun e=>?_])
  ·obtain⟨u,rfl,hu⟩:=gL e
   have em:=As (B:=Bs) (xp:=xp) (t:=r) hu;rw[00];refine aN 1 Y.nd (wp (Z:=Z.at l) Y R (fun _=>rfl) T.Jl S.RB (gy Bs).bind (fun _ z=>E7 e (by rw[z];exact EE)) (fun u' e1 _ hu'=>?_) fun u' xp' r' e1 _ hu'=>?_)
   ·cases e1
    rw[EL ((hB u).symm.trans hu')] at em;exact(aS (q:=E9 4) em).trans rfl
   ·cases e1
    have hx:Bs.contains u=false:=(hB u).symm.trans hu';rw[hx,EI EE] at em;exact#[_,(bG em).trans rfl,fun H R=>cc #[some u,r,rfl,R]]
  ·exact#[none,_,rfl,R.as (z6 nb e)]
structure py (K:EF) (a:bf):Prop where
 t1:zD K a.Lb
 t2:zD K a.Mz
 t3:zD K a.PN
 t4:zD K a.Km
 t5:zD K a.Jb
 k1:Hy K (.ref a.Lb) (.ref a.Lb)=some true
 k2:Hy K (.ref a.Mz) (.ref a.Lb)=some false
 k3:Hy K (.ref a.PN) (.ref a.Lb)=some false
 k4:Hy K (.ref a.Km) (.ref a.Lb)=some false
 k5:Hy K (.ref a.Jb) (.ref a.Lb)=some false
theorem py.of {K:EF}{a:bf}{M:EJ->Prop}{H:Hp}(I:py K a) (h:aZ a M H s v): ∃C,jC K H v (.ref C)/\Hy K (.ref C) (.ref a.Lb)=some (lC s).isSome:=by
 cases s with
 |bind x e=>
  unfold aZ at h;obtain⟨u,⟨p,dx,rfl,m,z⟩,_⟩:=h;exact#[_,I.t1.of z,I.k1]
 |loop x lo hi l=>
  unfold aZ at h;obtain⟨u1,u2,q,us,⟨p,dx,rfl,m,z⟩,_⟩:=h;exact#[_,I.t2.of z,I.k2]
 |cond c x y=>
  unfold aZ at h;obtain⟨u,q,us,g,ws,⟨p,dx,rfl,m,z⟩,_⟩:=h;exact#[_,I.t3.of z,I.k3]
 |step b z qu p top am=>
  unfold aZ at h;obtain⟨u1,u2,u3,u4,u5,⟨p,dx,rfl,m,z⟩,_⟩:=h;exact#[_,I.t4.of z,I.k4]
 |block nm b z p x am un g=>
  unfold aZ at h;obtain⟨u1,u2,u3,u4,⟨p,dx,rfl,m,z⟩,_⟩:=h;exact#[_,I.t5.of z,I.k5]
theorem fm.WU {a:bf}{H:Hp}{t:EG}{K1 K2:EK}(S:fm a B H n t K1) (hc:K1.values.contains u=true) (hf:K2.funs=K1.funs) (hl:K2.values.length+1=K1.values.length)
  (hv: ∀v,K2.values.contains v=(!decide (v=u)&&K1.values.contains v)) {kk:EA (a0×V)}(e:H B.kd=some (.dK kk)):has kk u=true/\fm a B (aF H B.kd (.dK (fD kk (nk u)))) n t K2:=by
 rw[02];rw[010];obtain⟨kk',k1,k2,k3⟩:=S.kn.vals;rw[09];have hy:=S.R8;have hz:=S.RB;obtain rfl:kk'=kk:=by rw[e] at k1;cases k1;rfl
 rw[016];have nr:B.r≠B.kd:=fun w=>by rw[w,e] at er;cases er
 have nq:B.q≠B.kd:=fun w=>by rw[w,e] at h1;cases h1
 have hu:has kk' u=true:=by rw[k3];exact hc
 have len:=S.kn.len;refine#[hu,[071],S.wh,#[#[_,ae,?_,fun v=>?_],#[ff,by rw[ac d1.symm];exact f1,by rw[hf];exact f2],by lia,#[ff,by rw[ac d1.symm];exact f1,(by rw[hf];exact S.kn.fl f1)]],(by rw[ac d2.symm];exact hy),(by rw[ac d3.symm];exact hz),S.O8,fun b xs h=>?_]
 ·rw[ac fun w=>by rw[w,e] at ex;cases ex]
  exact ex
 ·have:(fD kk' (nk u)).length<kk'.length:=by
   unfold fD;refine UZ (Nz _ _) fun w=>?_;rw[Pb] at w;unfold has bN at hu;rw[Hv,Mx] at hu;obtain⟨p,hp,e1⟩:=hu;have:=w p hp;simp only[M9] at this e1;exact this e1
  lia
 ·rw[tI,k3,hv]
 ·have e2:=S.fr b xs h
  rw[018];exact e2
def xZ (Kn:EK) (ss:EA Gv):EK:=#[(jz ss).reverse++Kn.values,Kn.funs]
theorem rC {x:EC}{rest V:EA EC}(h1:x∉rest) (h2:x∉V) (v:EC):(rest.reverse++V).contains v=(!decide (v=x)&&((x::rest).reverse++V).contains v):=by
 by_cases e:v=x
 ·subst e
  rw[Gb rfl];show _=false;rw[U9];intro z;rcases Fp.mp (FK.mp z) with z|z
  ·exact h1 (Js.mp z)
  ·exact h2 z
 ·rw[FA e]
  show _=((x::rest).reverse++V).contains v
  rw[GD,FK,FK,Fp,Fp,Js,Js,EW];constructor
  ·rintro(z|z)
   ·exact .inl (.inr z)
   ·exact .inr z
  ·rintro((z|z)|z)
   ·exact E7 z e
   ·exact .inl z
   ·exact .inr z
inductive kc (a:bf) (m:E1) (vs:EA V) (H:Hp) (Q:VK) (E:XK):Prop
 |mk {β:Type}(B:Rb) (L:E1) (H0:Hp) (Ro:β->EG->Prop) (F:EA (Fk×V)) (b:FR) (t:EG) (Kn:EK) (Bs:Hm) (d f:E1) (g:Ip×Hm->EU β) (_:vs=[.ref B.r, .int d]) (_:d<=6) (_:7<=d+m) (_:16*t.length<=f) (_:Bk B.bl Bs) (_:B.bl.c.length+t.length<=4000) (_:RS ⟨a,E,B,L,H0,Ro⟩ F b H t Kn (FC "{">>=fun _=>JA f (6-d) Kn Bs>>=g))
  (_: ∀l v H' t' c',Bk (B.bl.at_ c') l.2->c'.length+t'.length<=4000->RS #[a,E,B.bk c',L,H0,Ro] ((.sts l.1,v)::F) true H' t' Kn (g l)->Q v H'):kc a m vs H Q E
abbrev o7 (a:bf) (m:E1) (ok:EG->Prop):Sp:=nO a (fun d=>[.int d]) fun d t=>7<=d+m/\ok t
section
variable {k m:E1}{x Gz:Fh}{st:Stmt}{f:EJ}{fd:FL}{N:EA Fh}
set_option cleanup.letToHave false in
theorem aly (T:aU K mg a) (XC:XT K a) (hk:8<=k) (F:oJ K x Gz st f fd) (S:az N ["reader","depth"] (af st))
  (Jc: ∀(Gp:EH) (A:Gk) (outer:EA Env) (s:EM) (H:Hp) {β:Type}(B:Rb) (L:E1) (H0:Hp) (Ro:β->EG->Prop) (F:EA (Fk×V)) (b:FR) (t:EG) (Kn:EK) (Bs:Hm) (d fu:E1) (g:Ip×Hm->EU β) (Q:VK) (E:XK),bW k (A.deeper [011])->d<=6->7<=d+m->16*t.length<=fu->Bk B.bl Bs->B.bl.c.length+t.length<=4000->
   let X:=fg (fW P w) P w K mg base N Gz (af st) f Gp A outer s H E
   let D:eG:= { nx:=fun _ H'=>Q .HZ H',rt:=Q }
   let Z:Zf β:=#[a,E,B,L,H0,Ro]
   RX X a E->RS Z F b H t Kn (FC "{">>=fun _=>JA fu (6-d) Kn Bs>>=g)->(∀l v H' t' c',Bk (B.bl.at_ c') l.2->c'.length+t'.length<=4000->RS #[a,E,B.bk c',L,H0,Ro] ((.sts l.1,v)::F) true H' t' Kn (g l)->Q v H')->Bd X (a7 st) D (L2.start N [.ref B.r, .int d]) H):bS P w K mg base (fW P w) (k+1) f fd ["reader","depth"] (kc a m):=by
 rw[017];obtain⟨B,L,H0,Ro,F,b,t,Kn,Bs,d,fu,g,rfl,h1,h2,h3,h4,h5,R,q⟩:=h;exact Jc Gp A outer s H B L H0 Ro F b t Kn Bs d fu g Q E hr h1 h2 h3 h4 h5 [063] R q
end
abbrev fkS (ps:EA (Gv×V)) (F:EA (Fk×V)):EA (Fk×V):=(ps.map fun x=>(Fk.st x.1,x.2))++F
theorem sJ {a:bf}{M:EJ->Prop}{H:Hp}{F:EA (Fk×V)}{l:Ip}{ws:EA V}(hl:bB a M H l ws): ∀ {ps:EA (Gv×V)},(∀ {i:E1}{x:Fk×V},(fkS ps F)[i]?=some x->jd a M H x)->bB a M H (A9 (ps.map (·.1)).reverse l) ((ps.map (·.2)).reverse++ws)
 |[],_=>hl
 | (e,v)::ps,h=>by
  rw[Fe,Fe,Gf,Gf,so,F4];refine sJ (l:= .cons e l) ?_ fun {i x} q=>h (i:=i+1) q;unfold bB;exact#[v,ws,rfl,h (i:=0) rfl,hl]
theorem aa1 {F:EA (Fk×V)}{ps:EA (Gv×V)}{i:E1}{y:V}(h:((ps.map fun x:Gv×V=>x.2).reverse)[i]?=some y): ∃(s:Gv) (j:E1),((ps.map fun x:Gv×V=>x.1).reverse)[i]?=some s/\(fkS ps F)[j]?=some (Fk.st s,y):=by
 have hi:i<ps.length:=by
  obtain⟨h,_⟩:=FF.mp h;rw[F7,EY] at h;exact h
 rw[SH (by rw[EY];exact hi),EY,FQ] at h;obtain⟨⟨s,v⟩,e,rfl⟩:=FG.mp h;refine#[s,ps.length-1-i,?_,?_]
 ·rw[SH (by rw[EY];exact hi),EY,FQ,e]
  rfl
 ·rw[QR (by rw[EY];lia),FQ,e]
  rfl
theorem gU.drop {Kn K1:EK}{ss:EA Gv}{x:EC}(lo:gU Kn ss K1) (h:ss[i]?=some (.bind x e)):(xZ Kn (ss.drop i)).values.contains x=true/\(xZ Kn (ss.drop (i+1))).values.length+1=(xZ Kn (ss.drop i)).values.length/\ ∀v,(xZ Kn (ss.drop (i+1))).values.contains v=(!decide (v=x)&&(xZ Kn (ss.drop i)).values.contains v):=by
 have ed:ss.drop i= .bind x e::ss.drop (i+1):=by
  obtain⟨h,e⟩:=FF.mp h;rw[<-e];exact GO h
 have el:jz (Gv.bind x e::ss.drop (i+1))=x::jz (ss.drop (i+1)):=rfl
 have sub:(x::jz (ss.drop (i+1))).Sublist (jz ss):=by
  rw[<-el,<-ed];exact(Va i ss).filterMap lC
 have nin:=(FI.mp (sub.nodup lo.nodup)).1
 have nV:=lo.free x (sub.subset (EO ..));unfold xZ;rw[ed,el];refine#[FK.mpr (Fp.mpr (.inl (Js.mpr (EO ..)))),?_,rC nin nV];simp only[Fc,F7,EZ];lia
theorem BS {Kn:EK}{ss:EA Gv}(h:ss[i]?=some s) (hl:lC s=none):xZ Kn (ss.drop i)=xZ Kn (ss.drop (i+1)):=by
 have ed:ss.drop i=s::ss.drop (i+1):=by
  obtain⟨h,e⟩:=FF.mp h;rw[<-e];exact GO h
 rw[ed];unfold xZ jz;rw[Kb,hl]
theorem BU {x:EC}(hl:lC s=some x): ∃e1,s= .bind x e1:=by
 cases s with
 |bind y e1=>cases hl;exact#[e1,rfl]
 |loop _ _ _ _=>cases hl
 |cond _ _ _=>cases hl
 |step _ _ _ _ _ _=>cases hl
 |block _ _ _ _ _ _ _ _=>cases hl
inductive BrI {β:Type}(Z:Zf β) (Ls:EJ) (F:EA (Fk×V)) (Kn:EK) (d l:E1) (g:Ip×Hm->EU β) (σ0:L2.St) (m:E1) (σ:L2.St) (H:Hp):Prop
 |mk (ps:EA (Gv×V)) (K1:EK) (B1:Hm) (c:EA (a0×V)) (t:EG) (f:E1) (_:m=t.length) (_:σ=σ0) (_:ps.length+t.length<l) (_:Bk (Z.B.bl.at_ c) B1) (_:c.length+t.length<=4000) (_:16*t.length+15<=f) (_:gU Kn (ps.map (·.1)).reverse K1)
  (_:RS (Zf.mo { Z with B:=Z.B.bk c } Ls (ps.map (·.2)).reverse) (fkS ps F) true H t K1 (JA f d K1 B1>>=fun x=>g (A9 (ps.map (·.1)).reverse x.1,x.2))):BrI Z Ls F Kn d l g σ0 m σ H
section
variable {β:Type}{Z:Zf β}{H:Hp}{p:EU β}
theorem mr {e f:G8}{te:TE}(hL:H L=some (.lst us)) (he:PE X e te) (hv: ∀R:VK,R (.ref L) H->te σ H R) (q:Pe X f σ H fun v H1=> ∃(Z:Zf β) (F':EA (Fk×V)) (b':FR) (t':EG) (WQ:EK) (p':EU β),ut Z L/\us.length<FE/\RS (Z.mo L us) F' b' H1 t' WQ p'/\(∀H2,RS (Z.mo L (us++[v])) F' b' H2 t' WQ p'->Bd X ss D σ H2))
  (hb:HM e "append" X.env (eval e X.env)=eval e X.env:=by rfl) (JS:Fb [f] X.env=[(false,eval f X.env)]:=by rfl) (hp:ig p2 p4:=by rfl):
  Bd X (.Expr (.Call (.Attribute e "append" p2) [f] [] p4) p5::ss) D σ H:=by
 refine iM he hv hL (q.mono fun v H1 z=>?_) hb JS hp;obtain⟨Z,F',b',t',WQ,p',N,h1,R',h2⟩:=z;exact#[us,R'.P0,h1,h2 _ (R'.push N)]
theorem mt {te:TE}(Y:RX X Z.a Z.E) (he:PE X e te) (hv: ∀Q:VK,Q (.str (sb u)) H->te (some (.ref Z.B.r)::σ) H Q) (R:RS Z F b H t K1 p) (hc:K1.values.contains u=true) (hf:K2.funs=K1.funs) (hl:K2.values.length+1=K1.values.length) (hk: ∀v,K2.values.contains v=(!decide (v=u)&&K1.values.contains v))
  (q: ∀H',RS Z F b H' t K2 p->Bd X ss D (some (.ref Z.B.r)::σ) H') (hp:ig p2 p4:=by rfl) (JS:Fb [e] X.env=[[000]]:=by rfl):
  Bd X (.Expr (.Call (.Attribute [005] "forget" p2) [e] [] p4) p5::ss) D (some (.ref Z.B.r)::σ) H:=by
 rw[021];rw[07];obtain⟨hu,S'⟩:=S.WU hc hf hl hk k1;refine bw (Y.m1 Y.T.Wj.c (pE Y.T) [01] aY S rfl #[_,he,hv _ #[Z.B.r,dr,Z.B.q,Z.B.kd,Z.B.fn,Z.B.ds,Z.B.bl,n,u,kk,rfl,er,k1,hu,?_]] hp JS);exact q _ (R.go S' (eQ (.inr (.inl rfl))) R.l R.w)
end
theorem alz (T:aU K mg a) (XC:XT K a) (IL:py K a) (hk:8<=k)
  (G:T.Wu.O P w base k (o7 a m fun _=>True)):
  T.VY.O P w base (k+1) (kc a m):=by
 refine aly T XC hk T.VY.F agw fun Gp A outer s H β B L H0 Ro F b t Kn Bs d fu g Q E hr hd hm hf hB hc=>?_;intro X D Z Y R q;have lL:=R.lL;have room:=R.room;refine cC (Z:=Z.at t.length) Y ahG R.at fun H t1 R=>?_;have l1:t1.length+1<=t.length:=R.l;rw[026];refine mn 2 Y R fun Ls H N R=>?_;refine fT Y.lv (BrI Z Ls F Kn (6-d) t.length g [some (.ref B.r),some (.int d),some (.ref Ls),none]) _ #[[],Kn,Bs,B.bl.c,t1,fu,rfl,rfl,by show 0+t1.length<_;lia,hB,by lia,by lia,gU.nil,R] ?_;rintro mm σ H ⟨ps,K1,B1,c,t2,f,rfl,rfl,ul,hB1,hc1,hf1,lo,R⟩;rw[05];have N': ∀ {c:EA (a0×V)},ut { Z with B:=Z.B.bk c } Ls:=#[N.n0,N.nm,N.nx,N.nq];have len:((ps.map (·.2)).reverse:EA V).length=ps.length:=by rw[F7,EY]
 refine jf (dv (iQ (Z:=Zf.mo { Z with B:=Z.B.bk c } Ls (ps.map (·.2)).reverse) Y R (kj _ _ _ _).bind fun nb=>[022]));rw[cO R.tok Yf];cases hs:(E4 t2 == Iu (ED "}")) with
 |false=>
  have R1:RS (Zf.mo { Z with B:=Z.B.bk c } Ls (ps.map (·.2)).reverse) (fkS ps F) true H t2 K1 (Kv f (6-d) K1 B1>>=fun s=>JA f (6-d) s.2.1 s.2.2>>=fun x=>g (A9 (ps.map (·.1)).reverse (.cons s.1 x.1),x.2)):=by
   have:=R.asf (BG hs);simp only[bind_assoc,pure_bind] at this;exact this
  refine cf (mr (β:=β) R.P0 (pv 2) [05] #[_,Y.call2 #[G,hr,T.Wu.c,rfl] (pv 1) [01] rfl,(B.bk c).more Ls (ps.map (·.2)).reverse,t2.length,H0,Ro,fkS ps F,false,t2,K1,B1,d,f,_,rfl,hd,#[hm,GH],by lia,hB1,hc1,Ej fun s=>(kj f (6-d) s.2.1 s.2.2).bind,R1.at,fun s v H' t' c' kn hB' VZ R2=>?_]);have l2:t'.length+1<=t2.length:=R2.l;have R2:=RS.back (Z:=Zf.mo { Z with B:=Z.B.bk c' } Ls (ps.map fun x:Gv×V=>x.2).reverse) (l:=t2.length) (by show t2.length<=L;have:t.length<=L:=lL;lia) R2;refine#[{ Z with B:=Z.B.bk c' },_,_,_,_,_,N',by rw[len];exact FP (show ps.length<=4000 by lia) [01],R2,fun H3 R3=>?_];refine gb #[_,l2,(s.1,v)::ps,s.2.1,s.2.2,c',t',f,rfl,rfl,(by rw[EZ];lia),hB',VZ,(by lia),?_,?_]
  ·rw[Fe,Gf]
   exact lo.snoc kn
  ·rw[Fe,Fe,Gf,Gf]
   simp only[so];exact R3
 |true=>
  obtain⟨xp,r,rfl⟩:=wj R (beq_iff_eq.mp hs);refine bK (B3 (Z:=Zf.at (Zf.mo { Z with B:=Z.B.bk c } Ls (ps.map (·.2)).reverse) ((Iu (ED "}"),xp)::r).length) Y Yf (R.at.as (p':=F3>>=fun _=>g (A9 (ps.map (·.1)).reverse .nil,B1)) (bG (yE hs))) fun H t5 R=>?_);have l5:t5.length+1<=((Iu (ED "}"),xp)::r).length:=R.l;have R:=RS.back (Z:=Zf.mo { Z with B:=Z.B.bk c } Ls (ps.map fun x:Gv×V=>x.2).reverse) (by show((Iu (ED "}"),xp)::r).length<=L;have:t.length<=L:=lL;lia) R;have eK:K1=xZ Kn (ps.map (·.1)).reverse:=by
   obtain⟨v1,f1⟩:=K1;unfold xZ;rw[<-lo.vals,<-lo.funs]
  rw[eK] at R;generalize hss:(ps.map (·.1)).reverse=ss at R lo;generalize hus:(ps.map (·.2)).reverse=us at R len;refine jH 3 Y.lv Y.nd (pv 2) [05] (fun i σ H=> ∃v:ET V,σ=[some (.ref B.r),some (.int d),some (.ref Ls),v]/\RS (Zf.mo { Z with B:=Z.B.bk c } Ls us) (fkS ps F) true H t5 (xZ Kn (ss.drop i)) (g (A9 ss .nil,B1))) #[none,rfl,R] (fun _ _ _ _ ⟨_,_,R⟩=>R.P0) ?_ ?_
  ·rintro i y σ H hi ⟨v,rfl,R⟩
   rw[<-hus] at hi;obtain⟨s,j,hs,hj⟩:=aa1 (F:=F) hi;rw[hss] at hs;have sa:aZ a (eW (Zf.mo { Z with B:=Z.B.bk c } Ls us).B) H s y:=R.f hj;obtain⟨C,ty,kit⟩:=IL.of sa;refine bF #[_,df (bD pH (by rfl) T.LK boot_isinstance (aa (pv 3) (aa (iK (by rfl) T.SS) ag))),_,_,_,_,rfl,ty,kit,_,rfl,?_];cases hl:lC s with
   |none=>
    rw[BS hs hl] at R;exact bK (cc #[_,rfl,R])
   |some x=>
    obtain⟨e1,rfl⟩:=BU hl;obtain⟨h1,h2,h3⟩:=lo.drop hs;unfold aZ at sa;obtain⟨ue,⟨p,dx,rfl,mp,zp⟩,_⟩:=sa;exact cf (mt (Z:=Zf.mo { Z with B:=Z.B.bk c } Ls us) Y (ak (pv 3) rfl) (fun Q q=>#[p,_,dx,_,_,rfl,zp,T.Q4,T.Nk,rfl,q]) (K2:=xZ Kn (ss.drop (i+1))) R h1 rfl h2 h3 fun H R=>cc (cc #[_,rfl,R]))
  ·rintro σ H ⟨v,rfl,R⟩
   have eL:us.length=ss.length:=by rw[len,<-hss,F7,EY]
   rw[eL,PX] at R;have R1:=R.less N';refine aK #[_,pv 2,q (A9 ss .nil,B1) (.ref Ls) H t5 c hB1 (by lia) ?_];have R2:RS { Z with B:=Z.B.bk c } F true H t5 Kn (g (A9 ss .nil,B1)):=by
    have:=R1.cut ps.length;rw[show(fkS ps F).drop ps.length=F from EA.drop_left' (by rw[EY])] at this;exact this
   refine R2.and #[us,#[Ls,rfl,N.nm,R.P0],?_];rw[<-hss,<-hus,<-Gw (EA.reverse (ps.map (·.2)))];exact sJ (F:=F) (by unfold bB;rfl) fun e=>R1.f e
theorem Cw:cY "for" (ED "for"):=[007]
section
variable {K:EK}{β:Type}{g:Bf->EU β}{a:Ip×Hm}
theorem aa2 (h1:EV t "let"=false) (h:EV t "for"=true):(Kv (k+1) d K B>>=g) t=(GS d>>=fun n=>F3>>=fun _=>Ge K>>=fun x=>GN "in">>=fun _=>Ff k GW K>>=fun lo=>FC "..">>=fun _=>Ff k GW K>>=fun hi=>
  FC "{">>=fun _=>JA k n [046] B>>=fun l=>g (.loop x lo hi l.1,K,l.2)) t:=by
 rw[aS (Cl h1 h)];simp only[bind_assoc,pure_bind]
theorem ahO (h1:EV t "let"=false) (h2:EV t "for"=false) (h:EV t "if"=true):(Kv (k+1) d K B>>=g) t=(GS d>>=fun n=>F3>>=fun _=>Ff k GW K>>=fun c=>FC "{">>=fun _=>JA k n K B>>=fun a=>k7 k n K c a>>=g) t:=by
 rw[aS (CZ h1 h2 h)];simp only[bind_assoc]
theorem xk (h:EV t "else"=false):(k7 k n K c a>>=g) t=g (.cond c a.1 .nil,K,a.2) t:=by
 unfold k7;rw[bind_assoc];exact(bG (x:=false) (r:=t) (by unfold W5;rw[EI [042]])).trans rfl
theorem zX (h:EV (x::r) "else"=true):(k7 k n K c a>>=g) (x::r)=(F3>>=fun _=>FC "{">>=fun _=>JA k n K a.2>>=fun b=>g (.cond c a.1 b.1,K,b.2)) (x::r):=by
 unfold k7;rw[bind_assoc];refine(bG (x:=true) (r:=r) (by unfold W5;rw[EL h];rfl)).trans ?_;rw[EL rfl];simp only[bind_assoc,pure_bind]
 rfl
end
theorem ahP (T:aU K mg a) (XC:XT K a) (hk:8<=k) (G:mP P w K mg base a k)
  (G2:T.VY.O P w base k (kc a m)):
  T.Wv.O P w base (k+1) (o7 a (m+1) fun t=>EV t "let"=false/\EV t "for"=true):=by
 refine yq T XC hk T.Wv.F agz (fun _=>rfl) fun Gp A outer s H β B L H0 Ro F b t Kn Bs d fu g Q E hr hd ho hf hB hc=>?_;intro X D Z en Y R q;rw[011];obtain⟨dm,n1,n2⟩:=ho;obtain⟨xp,r,e⟩:=eY R (beq_iff_eq.mp n2);rw[015];have c:CB X "read_exp" ["reader","depth"] (aV a true Ff 12 (Lv 13)):=[048];have hF:16*(Z.at t.length).L+12<=f+16:=by show 16*t.length+12<=f+16;lia
 have R:=R.at.as (aa2 n1 n2);generalize hl:t.length=l at R lL hF hm hc hf
 have nb:E4 t≠ .bad:=by rw[e];intro z;cases z
 subst e;refine sF (Z:=Z.at l) 2 Y hd nb R fun lt R=>?_;refine iH (Z:=Z.at l) Y Cw R fun H t R=>?_;refine ja (Z:=Z.at l) 3 Y R fun u H t ft R=>?_;refine kY (Z:=Z.at l) Y X8 R fun H t R=>?_;refine d9 (Z:=Z.at l) (d:=0) 4 Y c aj [05] R (oi fun _=>(be "..").bind) (Fs _) yu hF fun e1 v1 H t R=>?_;refine cC (Z:=Z.at l) Y X9 R fun H t R=>?_;refine d9 (Z:=Z.at l) (d:=0) 5 Y c aj [05] R (oi fun _=>(be "{").bind) (Fs _) yu hF fun e2 v2 H t R=>?_;refine gB (Z:=Z.at l) Y (pv 3) [05] ft hm R fun H R=>?_;have l7:t.length+1<=l:=R.l;refine aN 6 Y.nd #[_,Y.call2 #[G2,hr,T.VY.c,rfl] (pv 2) [01] rfl,B,l,H0,Ro,_,_,t,Kn.with u,Bs,d+1,f,_,rfl,lt,by lia,by lia,hB,by lia,R,fun x v3 H t c' hB' VZ R=>?_];refine ll (Z:=#[a,E,B.bk c',l,H0,Ro]) Y (pv 3) [05] ft R fun H R=>?_;refine hJ (Z:=#[a,E,B.bk c',l,H0,Ro]) Y (aaA T) (aa (pv 3) (aa (pv 4) (aa (pv 5) (aa (pv 6) ag)))) [05] R rfl fun w H i R=>?_;have R:=RS.back (Z:=#[a,E,B.bk c',L,H0,Ro]) lL R;refine q (.loop u e1 e2 x.1,Kn,x.2) w H t c' rfl hB' VZ ((R.cut 3).and ?_);obtain⟨us,la,sa⟩:nJ a (eW B) H x.1 v3:=R.f (i:=0) rfl;show aZ a (eW B) H (.loop u e1 e2 x.1) w;unfold aZ;exact#[v1,v2,v3,us,i,R.f (i:=2) rfl,R.f (i:=1) rfl,la,sa]
theorem ahQ (T:aU K mg a) (XC:XT K a) (hk:8<=k) (G:mP P w K mg base a k)
  (G2:T.VY.O P w base k (kc a m)):
  T.Ww.O P w base (k+1) (o7 a (m+1) fun t=>EV t "let"=false/\EV t "for"=false/\EV t "if"=true):=by
 refine yq T XC hk T.Ww.F agA (fun _=>rfl) fun Gp A outer s H β B L H0 Ro F b t Kn Bs d fu g Q E hr hd ho hf hB hc=>?_;rw[014];obtain⟨dm,n1,n2,n3⟩:=ho;obtain⟨xp,r,e⟩:=eY R (beq_iff_eq.mp n3);rw[015];have c:CB X "read_exp" ["reader","depth"] (aV a true Ff 12 (Lv 13)):=[048];have hF:16*(Z.at t.length).L+12<=f+16:=by show 16*t.length+12<=f+16;lia
 have R:=R.at.as (ahO n1 n2 n3);generalize hl:t.length=l at R lL hF hc hf
 have nb:E4 t≠ .bad:=by rw[e];intro z;cases z
 subst e;refine sF (Z:=Z.at l) 2 Y hd nb R fun lt R=>?_;refine iH (Z:=Z.at l) Y vV R fun H t R=>?_;refine d9 (Z:=Z.at l) (d:=0) 3 Y c aj [05] R (oi fun _=>(be "{").bind) (Fs _) yu hF fun e1 v1 H t R=>?_;have l4:t.length+1<=l:=R.l;have cb:CB X "read_braces" ["reader","depth"] (kc a m):=#[G2,hr,T.VY.c,rfl];refine aN 4 Y.nd #[_,Y.call2 cb (pv 2) [01] rfl,B,l,H0,Ro,_,_,t,Kn,Bs,d+1,f,_,rfl,lt,by lia,by lia,hB,by lia,R,fun x v3 H t c3 hB3 hc3 R=>?_];refine mn (Z:=#[a,E,B.bk c3,l,H0,Ro]) 5 Y R fun Ls H N R=>?_;have R:=(R.less N).and (e:=(.sts .nil, .ref Ls)) #[[],#[Ls,rfl,N.nm,R.P0],by unfold bB;rfl];have l5:t.length+1<=l:=R.l;refine gi (fun σ' H'=> ∃(y:Ip) (B5:Hm) (v5:V) (c5:EA (a0×V)) (t5:EG),σ'=[some (.ref B.r),some (.int d),some [059],some v1,some v3,some v5]/\Bk (B.bl.at_ c5) B5/\c5.length+t5.length<=4000/\RS #[a,E,B.bk c5,l,H0,Ro] ((.sts y,v5)::(.sts x.1,v3)::(.e e1,v1)::F) true H' t5 Kn (g (.cond e1 x.1 y,Kn,B5))) ?_ ?_
 ·rintro σ H ⟨y,B5,v5,c5,t5,rfl,hB5,hc5,R⟩
  refine hJ (Z:=#[a,E,B.bk c5,l,H0,Ro]) Y (agN T) (aa (pv 3) (aa (pv 4) (aa (pv 5) ag))) [05] R rfl fun w H i R=>?_;have R:=RS.back (Z:=#[a,E,B.bk c5,L,H0,Ro]) lL R;refine q (.cond e1 x.1 y,Kn,B5) w H t5 c5 rfl hB5 hc5 ((R.cut 3).and ?_);obtain⟨us,la,sa⟩:nJ a (eW B) H x.1 v3:=R.f (i:=1) rfl;obtain⟨us5,la5,sa5⟩:nJ a (eW B) H y v5:=R.f (i:=0) rfl;show aZ a (eW B) H (.cond e1 x.1 y) w;unfold aZ;exact#[v1,v3,us,v5,us5,i,R.f (i:=2) rfl,la,sa,la5,sa5]
 ·refine dv (uD (Z:=#[a,E,B.bk c3,l,H0,Ro]) Y R (fun b=>en _ t b (R.as (xk (cq b "else"))).w) (fun nb e=>#[_,rfl,bK #[.nil,x.2, .ref Ls,c3,t,rfl,hB3,hc3,R.as (xk ((bX R.tok qk).symm.trans e))]]) fun {y r} et e nb=>?_)
  subst et;have e:=(bX R.tok qk).symm.trans e;obtain⟨y,yp⟩:=y;obtain rfl:y=_:=beq_iff_eq.mp e;refine#[Yb,_,zX e,fun H R=>#[_,rfl,cf (aN 5 Y.nd #[_,Y.call2 cb (pv 2) [01] rfl,B.bk c3,l,H0,Ro,_,_,r,Kn,x.2,d+1,f,_,rfl,lt,by lia,by rw[EZ] at l5;lia,hB3,by rw[EZ] at hc3;show c3.length+_<=_;lia,R.cut 1,fun y v5 H t c5 hB5 hc5 R=>cc #[y.1,y.2,v5,c5,t,rfl,hB5,hc5,R]])]]
abbrev aa3 (P:Fz) (w:Ga) (K:EF) (mg:Fh->ET EH) (base:Gn) (a:bf) (k:E1) (f:EJ) (fd:FL) (ok:EG->Prop):Prop:=bS P w K mg base (fW P w) k f fd ["reader"] (nO a (fun _=>[]) fun _ t=>ok t)
theorem ahR (T:aU K mg a) (XC:XT K a) (hk:8<=k)
  (G1:aa3 P w K mg base a k a.f_W a.ad5 fun t=>EV t "let"=true)
  (G2:T.Wv.O P w base k (o7 a m fun t=>EV t "let"=false/\EV t "for"=true))
  (G3:T.Ww.O P w base k (o7 a m fun t=>EV t "let"=false/\EV t "for"=false/\EV t "if"=true))
  (G4:aa3 P w K mg base a k a.f_Y a.aeb fun t=>EV t "let"=false/\EV t "for"=false/\EV t "if"=false/\EV t "block"=true)
  (G5:aa3 P w K mg base a k a.f_X a.aea fun t=>EV t "let"=false/\EV t "for"=false/\EV t "if"=false/\EV t "block"=false):
  T.Wu.O P w base (k+1) (o7 a m fun _=>True):=by
 refine yq T XC hk T.Wu.F agx (fun _=>rfl) fun Gp A outer s H β B L H0 Ro F b t Kn Bs d fu g Q E hr hd ho hf hB hc=>?_;intro X D Z en Y R q;have see: ∀ {ss:EA Stmt}{A:EA Stmt}{s:String}{v:Fh}{j:E1}{p1 p2 p3 p4 p5:Pos}(lit:cY v (ED s)) (hp:ig p2 p4),(EV t s=true->Bd X A (D.to X ss) [some (.ref B.r),some (.int d)] H)->(EV t s=false->Bd X ss D [some (.ref B.r),some (.int d)] H)->Bd X (.If (.Call (.Attribute [005] "sees" p2) [.Constant (.str v) j p3] [] p4) A [] p5::ss) D [some (.ref B.r),some (.int d)] H:=fun lit hp yes no=>
  bF (dv (iQ (Z:=Z) Y R (lz _ _ _ _).bind (fun nb=>#[_,rfl,by rw[bX R.tok lit];exact aP yes no]) hp))
 refine see Cr rfl (fun e1=>aK (e6 Y #[G1,hr,T.d_W.c,rfl] #[B,L,H0,Ro,F,b,t,Kn,Bs,d,fu,g,rfl,hd,e1,hf,hB,hc,en,R,q])) fun e1=>?_;refine see Cw rfl (fun e2=>aK #[_,Y.call2 #[G2,hr,T.Wv.c,rfl] (pv 1) [01] rfl,B,L,H0,Ro,F,b,t,Kn,Bs,d,fu,g,rfl,hd,#[ho.1,e1,e2],hf,hB,hc,en,R,q]) fun e2=>?_;refine see vV rfl (fun e3=>aK #[_,Y.call2 #[G3,hr,T.Ww.c,rfl] (pv 1) [01] rfl,B,L,H0,Ro,F,b,t,Kn,Bs,d,fu,g,rfl,hd,#[ho.1,e1,e2,e3],hf,hB,hc,en,R,q]) fun e3=>?_;refine see sG rfl (fun e4=>aK (e6 Y #[G4,hr,T.d_Y.c,rfl] #[B,L,H0,Ro,F,b,t,Kn,Bs,d,fu,g,rfl,hd,#[e1,e2,e3,e4],hf,hB,hc,en,R,q])) fun e4=>?_;exact aK (e6 Y #[G5,hr,T.d_X.c,rfl] #[B,L,H0,Ro,F,b,t,Kn,Bs,d,fu,g,rfl,hd,#[e1,e2,e3,e4],hf,hB,hc,en,R,q])
theorem rP {H:Hp}{Q:VK}{E:XK}(h:kc a 0 vs H Q E):False:=by
 obtain⟨B,L,H0,Ro,F,b,t,Kn,Bs,d,f,g,e,hd,hm,_⟩:=h;lia
theorem xz (T:aU K mg a) (XC:XT K a) (IL:py K a) (hk:8<=k) (G:mP P w K mg base a k): ∀m:E1,
  T.VY.O P w base (k+3+3*m) (kc a m):=by
 intro m
 induction m with
 |zero=>exact fO T.VY.F agw (fun _ _ _ _ h=>(rP h).elim) (fun _ _ _ _ _ _ _ _ _ h=>(rP h).elim)
 |succ m ih=>
  have Pa: ∀ {v:Fh}{s:String},cY v (ED s)->T.Wx.O P w base (k+2) (gn a [.str v] (du s) 12 true true .e):=fun l=>(aaX l T XC hk G).mono (by lia)
  have Am:=ahM T XC hk G
  have Le:=alv T XC (by lia) (ahI T XC hk G)
  have St:=alw T XC (by lia) Pa (ahJ Yg T XC (by lia) (aaX Yg T XC hk G))
  have Bl:=alx T XC (by lia) Pa (ahJ tO T XC (by lia) (aaX tO T XC hk G)) (Am.mono (by lia))
  have Fo:=ahP T XC (by lia) (G.mono (by lia:k<=k+3+3*m)) ih
  have If_:=ahQ T XC (by lia) (G.mono (by lia:k<=k+3+3*m)) ih
  have Sm:=ahR T XC (by lia) (Le.mono (by lia)) Fo If_ (Bl.mono (by lia)) (St.mono (by lia))
  have:=alz T XC IL (by lia) Sm;exact this.mono (by lia)
theorem tT:cY "const" (ED "const"):=[007]
abbrev Rb.tp (B:Rb) (dc:EA (a0×V)) (bp:EJ) (bc:EA (a0×V)):Rb:= { B with ds:=#[B.ds.p,dc,B.ds.x],bl:=#[bp,bc,B.bl.x] }
def CQ (B:Rb) (H:Hp):Prop:= ∀b,eW B b->H b=none
inductive oO (a:bf) (ok:EG->Prop) (vs:EA V) (H:Hp) (Q:VK) (E:XK):Prop
 |mk {β:Type}(B:Rb) (L:E1) (H0:Hp) (Ro:β->EG->Prop) (F:EA (Fk×V)) (b:FR) (t:EG) (Kn:EK) (nf:E1) (Ds:EA EC) (f:E1) (g:gS->EU β) (_:vs=[.ref B.r]) (_:ok t) (_:16*t.length<=f) (_:Bk B.ds Ds) (_:B.ds.c.length+t.length<=4000) (_:Kn.funs.length+nf=9) (_:CQ B H0) (_:RS ⟨a,E,B,L,H0,Ro⟩ F b H t Kn (ia f Kn nf Ds>>=g))
  (_: ∀x v H' t' dc bp bc,(∀u,has dc u=x.2.2.2.contains u)->dc.length+t'.length<=4000->x.2.1.funs.length+x.2.2.1=9->CQ (B.tp dc bp bc) H0->RS #[a,E,B.tp dc bp bc,L,H0,Ro] ((.top x.1,v)::F) true H' t' x.2.1 (g x)->Q v H'):oO a ok vs H Q E
inductive D3 (a:bf) (vs:EA V) (H:Hp) (Q:VK) (E:XK):Prop
 |mk {β:Type}(B:Rb) (L:E1) (H0:Hp) (Ro:β->EG->Prop) (F:EA (Fk×V)) (b:FR) (t:EG) (Kn Kf:EK) (HJ:EC) (g:EC->EU β) (_:vs=[.ref B.r, .str (sb HJ)]) (_:cY (sb HJ) HJ) (_:FZ.contains HJ=false) (_: ∀u,Kf.taken u=(decide (u=HJ)||Kn.taken u)) (_:RS ⟨a,E,B,L,H0,Ro⟩ F b H t Kn (Ge Kf>>=g))
  (_: ∀u H' t',Kn.values.contains u=false->RS #[a,E,B,L,H0,Ro] F true H' t' (Kn.with u) (g u)->Q (.str (sb u)) H'):D3 a vs H Q E
section
variable {k m:E1}{x Gz:Fh}{st:Stmt}{f:EJ}{fd:FL}{N:EA Fh}{ok:EG->Prop}
set_option cleanup.letToHave false in
theorem D9 (T:aU K mg a) (XC:XT K a) (hk:8<=k) (F:oJ K x Gz st f fd) (S:az N ["reader"] (af st))
  (Jc: ∀(Gp:EH) (A:Gk) (outer:EA Env) (s:EM) (H:Hp) {β:Type}(B:Rb) (L:E1) (H0:Hp) (Ro:β->EG->Prop) (F:EA (Fk×V)) (b:FR) (t:EG) (Kn:EK) (nf:E1) (Ds:EA EC) (fu:E1) (g:gS->EU β) (Q:VK) (E:XK),bW k (A.deeper [011])->ok t->16*t.length<=fu->Bk B.ds Ds->B.ds.c.length+t.length<=4000->Kn.funs.length+nf=9->CQ B H0->
   let X:=fg (fW P w) P w K mg base N Gz (af st) f Gp A outer s H E
   let D:eG:= { nx:=fun _ H'=>Q .HZ H',rt:=Q }
   let Z:Zf β:=#[a,E,B,L,H0,Ro]
   RX X a E->RS Z F b H t Kn (ia fu Kn nf Ds>>=g)->(∀x v H' t' dc bp bc,(∀u,has dc u=x.2.2.2.contains u)->dc.length+t'.length<=4000->x.2.1.funs.length+x.2.2.1=9->CQ (B.tp dc bp bc) H0->RS #[a,E,B.tp dc bp bc,L,H0,Ro] ((.top x.1,v)::F) true H' t' x.2.1 (g x)->Q v H')->Bd X (a7 st) D (L2.start N [.ref B.r]) H):bS P w K mg base (fW P w) (k+1) f fd ["reader"] (oO a ok):=by
 rw[017];obtain⟨B,L,H0,Ro,F,b,t,Kn,nf,Ds,fu,g,rfl,h1,h2,h3,h4,h5,h6,R,q⟩:=h;exact Jc Gp A outer s H B L H0 Ro F b t Kn nf Ds fu g Q E hr h1 h2 h3 h4 h5 h6 [063] R q
set_option cleanup.letToHave false in
theorem alA (T:aU K mg a) (XC:XT K a) (hk:8<=k) (F:oJ K x Gz st f fd) (S:az N ["reader","function"] (af st))
  (Jc: ∀(Gp:EH) (A:Gk) (outer:EA Env) (s:EM) (H:Hp) {β:Type}(B:Rb) (L:E1) (H0:Hp) (Ro:β->EG->Prop) (F:EA (Fk×V)) (b:FR) (t:EG) (Kn Kf:EK) (HJ:EC) (g:EC->EU β) (Q:VK) (E:XK),bW k (A.deeper [011])->cY (sb HJ) HJ->FZ.contains HJ=false->(∀u,Kf.taken u=(decide (u=HJ)||Kn.taken u))->
   let X:=fg (fW P w) P w K mg base N Gz (af st) f Gp A outer s H E
   let D:eG:= { nx:=fun _ H'=>Q .HZ H',rt:=Q }
   let Z:Zf β:=#[a,E,B,L,H0,Ro]
   RX X a E->RS Z F b H t Kn (Ge Kf>>=g)->(∀u H' t',Kn.values.contains u=false->RS #[a,E,B,L,H0,Ro] F true H' t' (Kn.with u) (g u)->Q (.str (sb u)) H')->Bd X (a7 st) D (L2.start N [.ref B.r, .str (sb HJ)]) H):bS P w K mg base (fW P w) (k+1) f fd ["reader","function"] (D3 a):=by
 rw[017];obtain⟨B,L,H0,Ro,F,b,t,Kn,Kf,HJ,g,rfl,h1,h2,h3,R,q⟩:=h;exact Jc Gp A outer s H B L H0 Ro F b t Kn Kf HJ g Q E hr h1 h2 h3 [063] R q
end
section
variable {K:EK}{β:Type}{g:gS->EU β}
theorem sU (h:EV t "const"=true):(ia k K n D>>=g) t=(F3>>=fun _=>Ge K>>=fun x=>dQ k K>>=fun e=>g (.const x e,K.with x,n,D)) t:=by
 rw[aS (show ia k K n D t=(F3>>=fun _=>vo k K n D:EU gS) t by unfold ia;rw[EL h])];simp only[vo,dQ,bind_assoc,pure_bind]
end
theorem ahS (T:aU K mg a) (XC:XT K a) (hk:8<=k) (G:T.Xc.O P w base k (gn a [] dQ 12 false true .e)):
  T.Wr.O P w base (k+1) (oO a fun t=>EV t "const"=true):=by
 refine D9 T XC hk T.Wr.F agr fun Gp A outer s H β B L H0 Ro F b t Kn nf Ds fu g Q E hr ho hf hB hc hn hN=>?_;intro X D Z Y R q;rw[011];obtain⟨xp,r,rfl⟩:=eY R (beq_iff_eq.mp ho);have hF:16*(Z.at (((GV (ED "const"),xp)::r).length)).L+12<=fu+16:=by show 16*((GV (ED "const"),xp)::r).length+12<=fu+16;lia
 refine iH (Z:=Z.at _) Y tT (R.at.as (sU ho)) fun H t R=>?_;refine ja (Z:=Z.at _) 1 Y R fun u H t ft R=>?_;refine nP (Z:=Z.at _) 2 Y #[G,hr,T.Xc.c,rfl] R hF fun e v H t R=>?_;refine gB (Z:=Z.at _) Y (pv 1) [05] ft hm R fun H R=>?_;refine hJ (Z:=Z.at _) Y (Cp T) (aa (pv 1) [079]) [05] R rfl fun w H i R=>?_;have l:t.length+1<=r.length+1:=R.l;rw[026];refine q (.const u e,Kn.with u,nf,Ds) w H t B.ds.c B.bl.p B.bl.c hB (by rw[EZ] at hc;lia) hn hN ((R.cut 1).and ?_);exact#[v,i,R.f (i:=0) rfl]
theorem ahT (T:aU K mg a) (XC:XT K a):T.Zk.O P w base 9 (D3 a):=by
 refine alA T XC (k:=8) [01] T.Zk.F agu fun Gp A outer s H β B L H0 Ro F b t Kn Kf HJ g Q E hr lit Uv hK=>?_;intro X D Z Y R q;rw[011];refine bF (dv (ma (Z:=Z) Y R (pv 1) [05] (fun bd=>(fP Kf).bind.K6 bd R.w) fun nb=>[022]));rw[bX R.tok lit];rw[03]
 ·obtain⟨xp,r,rfl⟩:=eY R (beq_iff_eq.mp e)
  refine bw (qW (Z:=Z) (i:=4) Y (aR (by rfl) T.Ob) R nb ?_);rw[aS (q:=(E9 4:EU EC)) (by rw[ee Uv,EL (by rw[hK,Gb rfl];rfl)])]
  rfl
 ·have en:Ge Kf t=Ge Kn t:=by
   obtain⟨⟨x,xp⟩,r,rfl⟩:=R.cons;cases x with
   |word u=>
    cases Rm:FZ.contains u with
    |true=>rw[ip Rm,ip Rm]
    |false=>
     have nf:decide (u=HJ)=false:=FA fun z=>by
      have e:(GV u == GV HJ)=false:=e;rw[z,Gr] at e;cases e
     rw[ee Rm,ee Rm,hK,nf];rfl
   |num m=>rfl
   |sign s=>rfl
   |eof=>rfl
   |bad=>rfl
  refine ja (Z:=Z.at t.length) 2 Y (R.at.asf en) fun u H t ft R=>?_;refine gB (Z:=Z.at _) Y (pv 2) [05] ft hm R fun H R=>?_;exact aK (bv 2 (q u H t (jD ft) (RS.back (Z:=Z) lL R)))
def fH (f n:E1) (K:EK):EU (EA EC):=Kd ",">>=fun m=>(if m=true then JJ f n K else(FC ")">>=fun _=>pure []))
section
variable {K:EK}{β:Type}{g:EA EC->EU β}
theorem pj (hn:n≠0):(JJ (f+1) n K>>=g) t=(Ge K>>=fun x=>fH f (n-1) [046]>>=fun l=>g (x::l)) t:=by
 rw[aS (xP hn),bind_assoc];have e: ∀x,((Kd ",">>=fun m=>(if m=true then(JJ f (n-1) [046]>>=fun l=>pure (x::l)) else(FC ")">>=fun _=>pure [x])):EU (EA EC))>>=g)=(fH f (n-1) [046]>>=fun l=>g (x::l)):=fun x=>by
  unfold fH;rw[bind_assoc,bind_assoc]
  congr 1
  funext m
  cases m with
  |true=>rw[EL rfl,EL rfl,bind_assoc];simp only[pure_bind]
  |false=>rw[EI EE,EI EE,bind_assoc,bind_assoc];simp only[pure_bind]
 simp only[e]
theorem uK (no:FD t ","=false):(fH f n K>>=g) t=(FC ")">>=fun _=>g []) t:=by
 unfold fH;rw[bind_assoc];refine(bG (x:=false) (r:=t) (by unfold Kd;rw[EI (by rw[no];exact EE)])).trans ?_;rw[EI EE,bind_assoc];simp only[pure_bind]
theorem rX {x:F5×FT}(yes:FD (x::r) ","=true):(fH f n K>>=g) (x::r)=(F3>>=fun _=>JJ f n K>>=g) (x::r):=by
 unfold fH;rw[bind_assoc];refine(bG (x:=true) (r:=r) (by unfold Kd;rw[EL yes];rfl)).trans ?_;rw[EL rfl]
 rfl
theorem oA (f n:E1) (K:EK):aI (fH f n K):=(lH ",").strict fun m=>by
 cases m with
 |true=>
  rw[EL rfl];exact jm f n K
 |false=>
  rw[EI EE];exact(be ")").bind
end
theorem om {K:EK}{f u:EC} :(#[vs++f::K.values,K.funs]:EK).taken u=(decide (u=f)||(⟨vs++K.values,K.funs⟩:EK).taken u):=by
 unfold Na;rw[<-FR.or_assoc]
 congr 1
 rw[GD,LL,FH,FK,FK,Fp,Fp,EW];constructor
 ·rintro(h|h|h)
  ·exact .inr (.inl h)
  ·exact .inl h
  ·exact .inr (.inr h)
 ·rintro(h|h|h)
  ·exact .inr (.inl h)
  ·exact .inl h
  ·exact .inr (.inr h)
theorem eV {α β:Type}{g:α->EU β}(t:EG):((E9 i:EU α)>>=g) t=E9 i t:=rfl
section
variable {β:Type}{Z:Zf β}{H:Hp}{Q:VK}{p:EU β}
theorem vK {e:G8}{i:E1}(Y:RX X Z.a Z.E) (he:PE X e (tC (.int i))) (R:RS Z F b H t Kn p) (h:p t=E9 i t) (hp:ig p2 p4:=by rfl) (JS:Fb [e] X.env=[[000]]:=by rfl):
  Pe X (.Call (.Attribute [005] "fail" p2) [e] [] p4) (some (.ref Z.B.r)::σ) H Q:=by
 rw[00];rw[023];refine Y.m1 Y.T.Vq.c (fG Y.T Y.C) [01] Y.up S rfl #[_,he,Z.B.r,Z.B.q,Z.B.kd,Z.B.fn,Z.B.ds,Z.B.bl,n,(x,xp),t',i,rfl,S.rd,?_] hp JS;have w:=R.w;have w:=ahl (p':=E9 i) h w;rw[aaM] at w;exact w H R.k
end
inductive aa4 (a:bf) (vs:EA V) (H:Hp) (Q:VK) (E:XK):Prop
 |mk {β:Type}(B:Rb) (L:E1) (H0:Hp) (Ro:β->EG->Prop) (F:EA (Fk×V)) (b:FR) (t:EG) (Kn:EK) (HJ:EC) (f:E1) (g:EA EC->EU β) (_:vs=[.ref B.r, .str (sb HJ)]) (_:cY (sb HJ) HJ) (_:FZ.contains HJ=false) (_:t.length<f) (_:RS ⟨a,E,B,L,H0,Ro⟩ F b H t Kn (JJ f 6 (Kn.with HJ)>>=g))
  (_: ∀ps v H' t',ps.length<=6->ps.Nodup->(∀x∈ps,x∉Kn.values)->RS #[a,E,B,L,H0,Ro] ((.ps ps,v)::F) true H' t' #[ps.reverse++Kn.values,Kn.funs] (FC ")">>=fun _=>g ps)->Q v H'):aa4 a vs H Q E
inductive PsI {β:Type}(Z:Zf β) (Ls:EJ) (F:EA (Fk×V)) (Kn:EK) (HJ:EC) (g:EA EC->EU β) (σ0:L2.St) (m:E1) (σ:L2.St) (H:Hp):Prop
 |mk (ps:EA EC) (t:EG) (f:E1) (_:m=t.length) (_:σ=σ0) (_:ps≠[]) (_:ps.length<=6) (_:ps.Nodup) (_: ∀x∈ps,x∉Kn.values) (_:t.length<f)
  (_:RS (Z.mo Ls (gE ps)) F true H t #[ps.reverse++Kn.values,Kn.funs] (fH f (6-ps.length) #[ps.reverse++HJ::Kn.values,Kn.funs]>>=fun l=>g (ps++l))):PsI Z Ls F Kn HJ g σ0 m σ H
section
variable {k m:E1}{x Gz:Fh}{st:Stmt}{f:EJ}{fd:FL}{N:EA Fh}
set_option cleanup.letToHave false in
theorem alB (T:aU K mg a) (XC:XT K a) (hk:8<=k) (F:oJ K x Gz st f fd) (S:az N ["reader","function"] (af st))
  (Jc: ∀(Gp:EH) (A:Gk) (outer:EA Env) (s:EM) (H:Hp) {β:Type}(B:Rb) (L:E1) (H0:Hp) (Ro:β->EG->Prop) (F:EA (Fk×V)) (b:FR) (t:EG) (Kn:EK) (HJ:EC) (fu:E1) (g:EA EC->EU β) (Q:VK) (E:XK),bW k (A.deeper [011])->cY (sb HJ) HJ->FZ.contains HJ=false->t.length<fu->
   let X:=fg (fW P w) P w K mg base N Gz (af st) f Gp A outer s H E
   let D:eG:= { nx:=fun _ H'=>Q .HZ H',rt:=Q }
   let Z:Zf β:=#[a,E,B,L,H0,Ro]
   RX X a E->RS Z F b H t Kn (JJ fu 6 (Kn.with HJ)>>=g)->(∀ps v H' t',ps.length<=6->ps.Nodup->(∀x∈ps,x∉Kn.values)->RS ⟨a,E,B,L,H0,Ro⟩ ((.ps ps,v)::F) true H' t' ⟨ps.reverse++Kn.values,Kn.funs⟩ (FC ")">>=fun _=>g ps)->Q v H')->Bd X (a7 st) D (L2.start N [.ref B.r, .str (sb HJ)]) H):bS P w K mg base (fW P w) (k+1) f fd ["reader","function"] (aa4 a):=by
 rw[017];obtain⟨B,L,H0,Ro,F,b,t,Kn,HJ,fu,g,rfl,h1,h2,h3,R,q⟩:=h;exact Jc Gp A outer s H B L H0 Ro F b t Kn HJ fu g Q E hr h1 h2 h3 [063] R q
theorem ahU (T:aU K mg a) (XC:XT K a):T.Zj.O P w base 10 (aa4 a):=by
 refine alB T XC (k:=9) [01] T.Zj.F agt fun Gp A outer s H β B L H0 Ro F b t Kn HJ fu g Q E hr lit Uv hf=>?_;intro X D Z Y R q;have lL:=R.lL;have one: ∀ {σ:L2.St}{H:Hp}{Q:VK}{p1 p2 p3 p4:Pos},D3 a [.ref B.r, .str (sb HJ)] H Q E->Pe X (.Call (.Name "read_parameter" p1) [.Name "reader" p2, .Name "function" p3] [] p4) (some (.ref B.r)::some (.str (sb HJ))::σ) H Q:=fun h=>#[_,aL (ahT T XC) hr (by rfl) T.Zk.c Y.up (aa Y.rd [031]),h]
 rw[015];refine aN 2 Y.nd (vt (aO (one #[B,t.length,H0,Ro,F,false,t,Kn,Kn.with HJ,HJ,_,rfl,lit,Uv,fun u=>om (vs:=[]),R.at.as (pj [01]),fun u H t1 fv R=>cD #[by show 1<=FE;decide,fun Ls hL=>?_]])));have l1:t1.length+1<=t.length:=R.l;rw[026];have N:=R.nwl hL;have fr: ∀ {vs:EA EC}{u:EC},vs.contains u=false->u∉vs:=fun h z=>by rw[FK.mpr z] at h;cases h
 refine fT Y.lv (PsI Z Ls F Kn HJ g [some (.ref B.r),some (.str (sb HJ)),some (.ref Ls)]) _ #[[u],t1,f,rfl,rfl,EA.cons_ne_nil _ _,(by show 1<=6;decide),FI.mpr #[GZ,Mb],fun x hx=>by rw[Fd.mp hx];exact fr fv,by lia,R.more hL] ?_;rintro mm σ H ⟨ps,t,f,rfl,rfl,pne,p6,pnd,pfr,hf1,R⟩;have lL:=R.lL;have sl:(gE ps).length=ps.length:=EY ..;refine dv (uD (Z:=(Zf.mo Z Ls (gE ps)).at t.length) Y R.at (fun b=>(oA _ _ _).bind.K6 b R.w) (fun nb e=>#[_,rfl,bK ?_]) fun {x r} et e nb=>?_)
 ·have R:=R.as (uK ((cO R.tok xn).symm.trans e))
  rw[Gw] at R;exact aK (bv 2 (q ps (.ref Ls) H t p6 pnd pfr ((R.less N).and #[Ls,rfl,N.nm,R.P0])))
 ·subst et
  have e:=(cO R.tok xn).symm.trans e;obtain⟨x,xp⟩:=x;obtain rfl:x=_:=beq_iff_eq.mp e;refine#[nfS,_,rX e,fun H R=>#[_,rfl,cf ?_]]
  have l5:r.length+1<=_:=R.l;rw[05]
  have hLs:H Ls=some (.lst (gE ps)):=RS.P0 (Z:=Z.at ((Iu (ED ","),xp)::r).length) (L:=Ls) (us:=gE ps) R;refine bF (cR b8 (ij T.JP hLs (pv 2) [05] #[_,aR (by rfl) T.OK,rfl,_,rfl,?_]));rw[cj,sl];rw[03]
  ·have p6':ps.length=6:=by have:=Ft e;lia
   exact bw (vK (Z:=(Zf.mo Z Ls (gE ps)).at _) (i:=7) Y (aR (by rfl) T.Qh) R ((aS (q:=(E9 7:EU (EA EC))) (vI (by lia))).trans (eV _)))
  ·have p5:ps.length<6:=by have:=Fw e;lia
   refine mr (β:=β) hLs (pv 2) [05] (one #[B.more Ls (gE ps),_,H0,Ro,F,true,r,_,_,HJ,_,rfl,lit,Uv,fun u=>om,R.as (pj (by lia)),fun u H t5 fv R=>?_]);have l6:t5.length+1<=_:=R.l;have R:=RS.back (Z:=Zf.mo Z Ls (gE ps)) lL R;refine#[Z,_,_,_,_,_,N,FP (show(gE ps).length<=6 by rw[sl];exact p6) [01],R,fun H R=>?_];have ns:gE ps++[V.str (sb u)]=gE (ps++[u]):=by unfold gE;rw[GG];rfl
   rw[ns] at R;have nu:=fr fv;have er: ∀(V:EA EC),(ps++[u]).reverse++V=u::(ps.reverse++V):=fun V=>by rw[T6];rfl
   refine gb #[_,l6,ps++[u],t5,f,rfl,rfl,(fun z=>by rw[Sa] at z;exact nomatch z.2),by rw[Fc,IT];lia,?_,fun x hx z=>?_,by lia,?_]
   ·rw[KO]
    refine#[pnd,FI.mpr #[GZ,Mb],fun x hx y hy z=>?_];rw[Fd.mp hy] at z;exact nu (Fp.mpr (.inl (Js.mpr (by rw[<-z];exact hx))))
   ·rcases Fp.mp hx with hx|hx
    ·exact pfr x hx z
    ·rw[Fd.mp hx] at z
     exact nu (Fp.mpr (.inr z))
   ·rw[er,er,Fc,IT]
    have e2: ∀l,g (ps++[u]++l)=g (ps++u::l):=fun l=>by rw[F4];rfl
    simp only[e2];exact R
end
theorem Aa:cY "fun" (ED "fun"):=[007]
theorem fm.Tg {a:bf}{H:Hp}{n:E1}{t:EG}{K1 K2:EK}(S:fm a B H n t K1) (hc: ∀u,K2.values.contains u=K1.values.contains u) (hl:K2.values.length=K1.values.length) (hf:K2.funs=K1.funs):fm a B H n t K2:=by
 rw[07];rw[09];refine#[S.rd,S.wh,#[#[kk,k1,by rw[hl];exact k2,fun u=>by rw[hc];exact k3 u],#[ff,f1,by rw[hf];exact f2],by rw[hl];exact S.kn.len,#[ff,f1,by rw[hf];exact S.kn.fl f1]],S.R8,S.RB,S.O8,S.fr]
theorem Bw {aC:EA (a0×V)}{j:a0}{v:V}(h:bN aC j=none):(dy aC j v).length=aC.length+1:=by
 unfold dy;rw[EI,Fc]
 ·rfl
 ·intro z
  rw[Lh] at z;obtain⟨p,hp,e⟩:=z;have:(bN aC j).isSome=true:=by
   unfold bN;rw[Hv,Mx];exact#[p,hp,e]
  rw[h] at this;cases this
theorem fm.Hs {a:bf}{H:Hp}{B:Rb}{n:E1}{t:EG}{Kn:EK}{x:EC}{c:E1}{ff:EA (a0×V)}(S:fm a B H n t Kn) (hx:Kn.taken x=false) (e:H B.fn=some (.dK ff)):
  fm a B (aF H B.fn (.dK (dy ff (nk x) (.int (c:E1))))) n t { Kn with funs:=(x,c)::Kn.funs } :=by
 rw[02];rw[010];rw[07];obtain⟨ff',f1,f2⟩:=S.kn.funs;have hy:=S.R8;have hz:=S.RB;have fl:=S.kn.fl e;obtain rfl:ff'=ff:=by rw[e] at f1;cases f1;rfl
 rw[016];have nr:B.r≠B.fn:=fun w=>by rw[w,e] at er;cases er
 have nq:B.q≠B.fn:=fun w=>by rw[w,e] at h1;cases h1
 unfold Na at hx;rw[Lx] at hx;have none_:bN ff' (nk x)=none:=by
  rw[f2];have:Kn.funs.find? (fun f=>f.1 == x)=none:=by
   rw[OO];intro y hy z;have:=hx.2;rw[U2] at this;exact this y hy z
  rw[this]
  rfl
 refine#[[071],S.wh,#[#[kk,by rw[ac d1];exact k1,k2,k3],#[_,ae,fun u=>?_],S.kn.len,#[_,ae,?_]],(by rw[ac d4.symm];exact hy),(by rw[ac d5.symm];exact hz),S.O8,fun b xs h=>?_]
 ·rw[ac fun w=>by rw[w,e] at ex;cases ex]
  exact ex
 ·rw[gK,GF]
  by_cases w:u=x
  ·rw[EL (by rw[w]),w,show((x,c).1 == x)=true from Gr x]
   rfl
  ·rw[EI fun z=>w (eI (Ja z)),show((x,c).1 == u)=false from beq_eq_false_iff_ne.mpr (HS w)]
   exact f2 u
 ·rw[Bw none_,fl]
  rfl
 ·have e2:=S.fr b xs h
  rw[018];exact e2
theorem vE:gN X (.builtin "len") (fun xs H Q=> ∃a aC,xs=[V.ref a]/\CV X.prog X.w X.K a aC/\Q (.int aC.length) H):=by
 rw[013];obtain⟨a,aC,rfl,kd,q⟩:=h;obtain⟨u,rfl,ru⟩:=mQ r;cases ru;obtain⟨vs,dd,rel⟩:=kd.at_;have z:=kd.len;refine call_len_dict kd.no (dd _ I.MI) (by rw[<-rel.length];rw[Ht] at z;lia) ?_;rw[<-rel.length];exact#[.int aC.length,H,I.tok _,#[_,rfl],q]
theorem bZ.is {M:EJ->Prop}{H:Hp}(h:bZ M H us (.ref L)):H L=some (.lst us):=by
 obtain⟨p,e,_,h⟩:=h;cases e;exact h
section
variable {β:Type}{Z:Zf β}{H:Hp}{p:EU β}
theorem RS.Tg (R:RS Z F b H t Kn p) (hc: ∀u,K2.values.contains u=Kn.values.contains u) (hl:K2.values.length=Kn.values.length) (hf:K2.funs=Kn.funs):RS Z F b H t K2 p:=by
 rw[00];exact R.go (S.Tg hc hl hf) db.refl R.l R.w
theorem RS.Hs (R:RS Z F b H t Kn p) (hx:Kn.taken x=false) (e:H Z.B.fn=some (.dK ff)):RS Z F b (aF H Z.B.fn (.dK (dy ff (nk x) (.int (c:E1))))) t { Kn with funs:=(x,c)::Kn.funs } p:=by
 rw[00];exact R.go (S.Hs hx e) (eQ (.inr (.inr (.inl rfl)))) R.l R.w
end
section
variable {K:EK}{β:Type}{g:gS->EU β}
def jS (k n:E1) (K:EK) (D:EA EC) (g:gS->EU β) (x:EC) (ps:EA EC):EU β:=dQ k { K with values:=ps++K.values } >>=fun e=>g (.func x ps e,{ K with funs:=(x,ps.length)::K.funs },n-1,D)
def lO (k n:E1) (K:EK) (D:EA EC) (g:gS->EU β) (x:EC):EU β:=Kd ")">>=fun m=>(if m=true then Vbemac.give [] else JJ k 6 [046])>>=fun ps=>jS k n K D g x ps
theorem Bt (h1:EV t "const"=false) (h2:EV t "fun"=true) (hn:n≠0):(ia k K n D>>=g) t=(F3>>=fun _=>Ge K>>=fun x=>FC "(">>=fun _=>lO k n K D g x) t:=by
 rw[aS (show ia k K n D t=(F3>>=fun _=>aaV k K n D:EU gS) t by unfold ia;rw[EI [039],EL h2,EI hn])];unfold aaV lO;simp only[jS,dQ,bind_assoc,pure_bind]
 rfl
theorem wA (h1:EV t "const"=false) (h2:EV t "fun"=true) (hn:n=0):(ia k K n D>>=g) t=E9 7 t:=
 (aS (q:=(E9 7:EU gS)) (by unfold ia;rw[EI [039],EL h2,EL hn])).trans (eV t)
theorem qQ:aI (jS k n K D g x ps):=(be "=").bind.bind
theorem rg:aI (lO k n K D g x):=(lH ")").strict fun m=>by
 cases m with
 |true=>rw[EL rfl];exact qQ
 |false=>rw[EI EE];exact(jm _ _ _).bind
theorem Ct (h:FD t ")"=true):lO k n K D g x t=(FC ")">>=fun _=>jS k n K D g x []) t:=by
 unfold lO;refine(bG (x:=true) (r:=t.drop 1) (by unfold Kd;rw[EL h])).trans ?_;rw[EL rfl];refine Eq.trans (b:=jS k n K D g x [] (t.drop 1)) rfl ?_;exact(bG (p:=FC ")") (g:=fun _=>jS k n K D g x []) (x:=()) (r:=t.drop 1) (by unfold FC;rw[EL h])).symm
theorem yw (h:FD t ")"=false):lO k n K D g x t=(JJ k 6 [046]>>=jS k n K D g x) t:=by
 unfold lO;refine(bG (x:=false) (r:=t) (by unfold Kd;rw[EI [042]])).trans ?_;rw[EI EE]
end
theorem ve {ps V:EA EC}{i:E1}{x:EC}(h:ps[i]?=some x) (nd:ps.Nodup) (fr: ∀x∈ps,x∉V):(ps.drop i++V).contains x=true/\(ps.drop (i+1)++V).length+1=(ps.drop i++V).length/\ ∀v,(ps.drop (i+1)++V).contains v=(!decide (v=x)&&(ps.drop i++V).contains v):=by
 have ed:ps.drop i=x::ps.drop (i+1):=by
  obtain⟨h,e⟩:=FF.mp h;rw[<-e];exact GO h
 have sub:(x::ps.drop (i+1)).Sublist ps:=by
  rw[<-ed];exact Va i ps
 have nin:=(FI.mp (sub.nodup nd)).1
 have nV:=fr x (sub.subset (EO ..));rw[ed];refine#[FK.mpr (EO ..),rfl,fun z=>?_]
 rw[VJ,FY];by_cases e:z=x
 ·subst e
  rw[Gb rfl];show _=false;rw[U9];intro w;rcases Fp.mp (FK.mp w) with w|w
  ·exact nin w
  ·exact nV w
 ·rw[FA e,show(z == x)=false from beq_eq_false_iff_ne.mpr e]
  rfl
theorem ahV (T:aU K mg a) (XC:XT K a) (kF:CV P w K a.GC dq) (hk:10<=k) (G:T.Xc.O P w base k (gn a [] dQ 12 false true .e)):
  T.Ws.O P w base (k+1) (oO a fun t=>EV t "const"=false/\EV t "fun"=true):=by
 refine D9 T XC (by lia) T.Ws.F ags fun Gp A outer s H β B L H0 Ro F b t Kn nf Ds fu g Q E hr ho hf hB hc hn hN=>?_;intro X D Z Y R q;have lL:=R.lL;obtain⟨n1,n2⟩:=ho;obtain⟨xp,r,ex⟩:=eY R (beq_iff_eq.mp n2);have hF:16*(Z.at t.length).L+12<=fu+16:=by show 16*t.length+12<=fu+16;lia
 rw[021];obtain⟨ff,f1,_⟩:=S.kn.funs;have fl:=S.kn.fl f1;refine bF #[_,a8 b8 (bD xE (by rfl) T.JP Hl (aa [001] ag)) (b7 dX (bD vE (by rfl) T.JP Hl (aa (iK (by rfl) T.Mh) ag)) (aR (by rfl) T.O7)) (aM _),B.r,_,dr,_,_,rfl,er,T.Fy,T.HV,rfl,B.fn,ff,rfl,f1,a.GC,dq,rfl,kF,_,_,rfl,rfl,rfl,_,rfl,?_];rw[cj];rw[03]
 ·have e:(ff.length:Int)=3+6:=Ft e
  exact bw (vK (Z:=Z) (i:=7) Y (aR (by rfl) T.Qh) R (wA n1 n2 (by lia)))
 have n0:nf≠0:=fun z=>Fw e (by show(ff.length:Int)=3+6;lia)
 have R:=R.at.as (Bt n1 n2 n0);generalize hl:t.length=l at R lL hF hc hf;subst ex;refine iH (Z:=Z.at l) Y Aa R fun H t R=>?_
 refine rF (Z:=Z.at l) 1 Y R fun u H t lit Uv ft R=>?_;refine cC (Z:=Z.at l) Y xA R fun H t R=>?_;refine mn (Z:=Z.at l) 2 Y R fun Ls H N R=>?_;have R:=(R.less N).and (e:=(.ps [], .ref Ls)) #[Ls,rfl,N.nm,R.P0];have l5:t.length+1<=l:=R.l;refine gi (fun σ' H'=> ∃(ps:EA EC) (v:V) (t:EG),σ'=[some (.ref B.r),some (.str (sb u)),some v,none,none]/\ps.length<=6/\ps.Nodup/\(∀x∈ps,x∉Kn.values)/\RS (Z.at l) ((.ps ps,v)::F) true H' t #[ps.reverse++Kn.values,Kn.funs] (FC ")">>=fun _=>jS fu nf Kn Ds g u ps)) ?_ ?_
 ·rintro σ H ⟨ps,v,t,rfl,p6,pnd,pfr,R⟩
  refine cC (Z:=Z.at l) Y uZ R fun H t R=>?_;have R:=R.Tg (K2:= { Kn with values:=ps++Kn.values }) (fun v=>by
   rw[GD,FK,FK,Fp,Fp,Js]) (by
   show(ps++Kn.values).length=(ps.reverse++Kn.values).length
   rw[Fc,Fc,F7]) rfl
  refine nP (Z:=Z.at l) 3 Y #[G,hr,T.Xc.c,rfl] R hF fun e v3 H t R=>?_;obtain⟨Lp,rfl,nLp,hLp⟩:bZ (eW B) H (gE ps) v:=R.f (i:=1) rfl;refine jH 4 Y.lv Y.nd (pv 2) [05] (fun i σ H=> ∃y:ET V,σ=[some (.ref B.r),some (.str (sb u)),some (.ref Lp),some v3,y]/\RS (Z.at l) ((.e e,v3)::(.ps ps, .ref Lp)::F) true H t { Kn with values:=ps.drop i++Kn.values } (g (.func u ps e,{ Kn with funs:=(u,ps.length)::Kn.funs },nf-1,Ds))) #[none,rfl,R] (fun _ _ _ _ ⟨_,_,R⟩=>bZ.is (R.f (i:=1) rfl)) ?_ ?_
  ·rintro i y σ H hi ⟨y0,rfl,R⟩
   unfold gE at hi;rw[FQ] at hi;obtain⟨x,hx,rfl⟩:=FG.mp hi;obtain⟨h1,h2,h3⟩:=ve hx pnd pfr;exact mt (Z:=Z.at l) (K2:= { Kn with values:=ps.drop (i+1)++Kn.values }) Y (pv 4) [05] R h1 rfl h2 h3 fun H R=>cc #[_,rfl,R]
  ·rintro σ H ⟨y0,rfl,R⟩
   have sl:(gE ps).length=ps.length:=EY ..;rw[sl,PX] at R
   have R:RS (Z.at l) _ true H t Kn _:=R;rw[021];obtain⟨gg,g1,_⟩:=S.kn.funs
   have gl:=S.kn.fl g1;refine aQ (gW (dj hr) [001] (pv 1) (bD bL (by rfl) T.JP Hl [079]) rfl) #[_,_,rfl, .inl (cP.of (bZ.is (R.f (i:=1) rfl))),B.r,_,dr,_,_,rfl,er,T.Fy,T.HV,rfl,B.fn,_,rfl, .inl #[gg,nk u,g1,rfl,FP (show gg.length<=9 by lia) [01],rfl],?_]
   have R:=R.Hs (x:=u) (c:=(gE ps).length) ft g1;rw[sl] at R ⊢;refine hJ (Z:=Z.at l) Y (aaB T) (aa (pv 1) (aa (pv 2) (aa (pv 3) ag))) [05] R rfl fun w H i R=>?_
   have l9:t.length+1<=l:=R.l;rw[026];refine q (.func u ps e,{ Kn with funs:=(u,ps.length)::Kn.funs },nf-1,Ds) w H t B.ds.c B.bl.p B.bl.c hB (by lia) (by show Kn.funs.length+1+(nf-1)=9;lia) hN ((R.cut 2).and ?_);exact#[.ref Lp,v3,i,R.f (i:=1) rfl,R.f (i:=0) rfl]
 ·refine jf (dv (iQ (Z:=Z.at l) Y R rg fun nb=>[022]))
  rw[cO R.tok uZ];cases hs:(E4 t == Iu (ED ")")) with
  |true=>exact bK #[[], .ref Ls,t,rfl,Fs _,Mb,(fun _ z=>nomatch z),R.as (Ct hs)]
  |false=>exact cf (aN 2 Y.nd #[_,aL (ahU T XC) (hr.mono hk) (by rfl) T.Zj.c Y.up (aa Y.rd (aa (pv 1) ag)),B,l,H0,Ro,F,true,t,Kn,u,fu,_,rfl,lit,Uv,by lia,(R.as (yw hs)).cut 1,fun ps v H t p6 pnd pfr R=>cc #[ps,v,t,rfl,p6,pnd,pfr,R]])
theorem DT:cY "desk" (ED "desk"):=[007]
theorem gP {α:Type}{o:ET α}{x:α}(h1:o=none) (h2:o=some x):False:=nomatch h1.symm.trans h2
theorem Yh {b:FR}(h:b=false): ¬b=true:=fun z=>EE (h.symm.trans z)
abbrev Rb.nb (B:Rb) (nb:EJ):Rb:= { B with bl:=#[nb,[],B.bl.x] }
abbrev Rb.dk (B:Rb) (c:EA (a0×V)):Rb:= { B with ds:=#[B.ds.p,c,B.ds.x] }
theorem fm.aa5 {a:bf}{H:Hp}{B:Rb}{n:E1}{t:EG}{Kn:EK}{nb:EJ}(S:fm a B H n t Kn) (Uw:H nb=none) {dr:EJ}(er:H B.r=some (.ins a.FX dr (qJ B.q B.kd B.fn B.ds.p B.bl.p n))):
  fm a (B.nb nb) (aF (aF H nb (.dK [])) B.r (.ins a.FX dr (qJ B.q B.kd B.fn B.ds.p nb n))) n t Kn/\db (eW B) H (aF (aF H nb (.dK [])) B.r (.ins a.FX dr (qJ B.q B.kd B.fn B.ds.p nb n))):=by
 rw[010];rw[07];rw[09];have hy:=S.R8;rw[016];have old: ∀ {b:EJ}{o:HO},H b=some o->b≠B.r->aF (aF H nb (.dK [])) B.r (.ins a.FX dr (qJ B.q B.kd B.fn B.ds.p nb n)) b=some o:=fun e w=>by
  rw[ac w,ac (ai e Uw)];exact e
 have nir: ∀ {b:EJ}{o:HO},H b=some o->(∀C dx fs,o≠ .ins C dx fs)->b≠B.r:=fun e no w=>by
  rw[w,er] at e;exact no _ _ _ (E5 e).symm
 have nbr:nb≠B.r:=(ai er Uw).symm
 have alC: ∀ {b:EJ}{x:F5×FT},fM a.IA H b x->b≠B.r:=fun {b x} ⟨dx,ex⟩ w=>by
  rw[w,er] at ex;have:=FN (fun o:HO=>match o with| .ins _ _ fs=>fs.length|_=>0) (E5 ex)
  exact E7 this (by show¬(6=4);decide)
 refine#[#[#[#[dr,ae],as,all,old h1 (nir h1 fun _ _ _ z=>nomatch z),Paired.M7 h2 fun b x h=>?_,h3],S.wh,#[#[kk,old k1 (nir k1 fun _ _ _ z=>nomatch z),k2,k3],#[ff,old f1 (nir f1 fun _ _ _ z=>nomatch z),f2],S.kn.len,#[ff,old f1 (nir f1 fun _ _ _ z=>nomatch z),S.kn.fl f1]],old hy (nir hy fun _ _ _ z=>nomatch z),by show aF (aF H nb (.dK [])) B.r _ nb=some (.dK []);rw[ac nbr];exact ae,#[d1,d2,ai k1 Uw,d4,ai f1 Uw,ai hy Uw],fun b xs h=>?_],fun b o e m=>old e fun z=>m (.inl z)]
 ·have w:=alC h
  obtain⟨dx,ex⟩:=h;exact#[dx,old ex w]
 ·have e2:=S.fr b xs h
  exact old e2 (nir e2 fun _ _ _ z=>nomatch z)
theorem rK {q kd fn ds bl nb:EJ}{n:E1} :Hs "blocks" (.ref nb) (qJ q kd fn ds bl n)=qJ q kd fn ds nb n:=by
 unfold qJ;simp only[Hs]
 rfl
theorem fm.putD {a:bf}{H:Hp}{B:Rb}{n:E1}{t:EG}{Kn:EK}(S:fm a B H n t Kn):fm a (B.dk c) (aF H B.ds.p (.dK c)) n t Kn:=by
 rw[02];rw[010];rw[07];rw[09];have hy:=S.RB;have e:=S.R8;rw[016];have nr:B.r≠B.ds.p:=fun w=>by rw[w,e] at er;cases er
 have nq:B.q≠B.ds.p:=fun w=>by rw[w,e] at h1;cases h1
 refine#[#[#[dr,(by show aF H B.ds.p (.dK c) B.r=_;rw[ac nr];exact er)],as,all,(by show aF H B.ds.p (.dK c) B.q=_;rw[ac nq];exact h1),Paired.M7 h2 fun b x ⟨dx,ex⟩=>#[dx,?_],h3],S.wh,#[#[kk,(by show aF H B.ds.p (.dK c) B.kd=_;rw[ac d2];exact k1),k2,k3],#[ff,(by show aF H B.ds.p (.dK c) B.fn=_;rw[ac d4];exact f1),f2],S.kn.len,#[ff,(by show aF H B.ds.p (.dK c) B.fn=_;rw[ac d4];exact f1),S.kn.fl f1]],ae,(by show aF H B.ds.p (.dK c) B.bl.p=_;rw[ac d6.symm];exact hy),S.O8,fun b xs h=>?_]
 ·rw[ac fun w=>by rw[w,e] at ex;cases ex]
  exact ex
 ·have e2:=S.fr b xs h
  rw[018];exact e2
section
variable {β:Type}{H H0:Hp}{p:EU β}{E:XK}{Ro:β->EG->Prop}
theorem RS.putD (R:RS #[a,E,B,L,H0,Ro] F b H t Kn p):RS #[a,E,B.dk c,L,H0,Ro] F b (aF H B.ds.p (.dK c)) t Kn p:=by
 rw[00];have k:db (eW B) H (aF H B.ds.p (.dK c)):=eQ (.inr (.inr (.inr (.inl rfl))));exact#[#[n,S.putD],R.k.trans k,fun e=>jd.Hj k.two (R.f e),R.l,R.w]
theorem RS.aa5 {n:E1}{nb dr:EJ}(R:RS #[a,E,B,L,H0,Ro] F b H t Kn p) (hN:CQ B H0) (S:fm a B H n t Kn) (Uw:H nb=none) (er:H B.r=some (.ins a.FX dr (qJ B.q B.kd B.fn B.ds.p B.bl.p n))):
  CQ (B.nb nb) H0/\RS #[a,E,B.nb nb,L,H0,Ro] F b (aF (aF H nb (.dK [])) B.r (.ins a.FX dr (qJ B.q B.kd B.fn B.ds.p nb n))) t Kn p:=by
 obtain⟨S',k⟩:=S.aa5 Uw er;have m: ∀ {b},eW (B.nb nb) b->eW B b\/b=nb:=fun {b} z=>by
  rcases z with z|z|z|z|z|z
  ·exact .inl (.inl z)
  ·exact .inl (.inr (.inl z))
  ·exact .inl (.inr (.inr (.inl z)))
  ·exact .inl (.inr (.inr (.inr (.inl z))))
  ·exact .inr z
  ·exact .inl (.inr (.inr (.inr (.inr (.inr z)))))
 have h0:H0 nb=none:=by
  cases e:H0 nb with
  |none=>rfl
  |some o=>
   have:=R.k nb o e fun z=>by rw[hN nb z] at e;cases e
   rw[Uw] at this;cases this
 have N':CQ (B.nb nb) H0:=fun b z=>(m z).elim (hN b) fun z=>by rw[z];exact h0
 refine#[N',#[n,S'],fun b o e _=>?_,fun e=>jd.Hj (fun b o e w=>#[fun z=>(m z).elim w (fun z=>gP (by rw[z];exact Uw) e),k b o e w]) (R.f e),R.l,R.w.mono (fun _ _ z=>z) fun _ _ z H' k'=>z H' fun b o e _=>k' b o e fun z=>gP (N' b z) e];have w: ¬eW B b:=fun z=>gP (hN b z) e
 exact k b o (R.k b o e w) w
end
section
variable {K:EK}{β:Type}{g:gS->EU β}
theorem wN (h1:EV t "const"=false) (h2:EV t "fun"=false):(ia k K n D>>=g) t=(GN "desk">>=fun _=>eD D>>=fun x=>FC "{">>=fun _=>JA k 6 K []>>=fun l=>g (.desk x l.1,K,n,x::D)) t:=by
 have c1: ¬EV t "const"=true:=by rw[h1];exact EE
 have c2: ¬EV t "fun"=true:=by rw[h2];exact EE
 cases hd:EV t "desk" with
 |true=>
  rw[aS (show ia k K n D t=(F3>>=fun _=>zI k K n D:EU gS) t by unfold ia;rw[EI c1,EI c2,EL hd])];refine Eq.trans ?_ (bG (p:=GN "desk") (x:=()) (r:=t.drop 1) (by unfold GN;rw[EL hd])).symm;unfold zI;simp only[bind_assoc,pure_bind]
  rfl
 |false=>
  have c3: ¬EV t "desk"=true:=by rw[hd];exact EE
  refine(aS (q:=(E9 2:EU gS)) (by unfold ia;rw[EI c1,EI c2,EI c3])).trans ?_;exact((eV t).trans (eV t).symm).trans (aS (p:=GN "desk") (q:=(E9 2:EU Mo)) (by unfold GN;rw[EI c3])).symm
theorem tL (nb:x≠ .bad) (en:cN x=false):eD D ((x,xp)::t)=E9 2 ((x,xp)::t):=by
 cases x with
 |word u=>
  rw[dE] at en;have Rm:FZ.contains u=true:=by cases h:FZ.contains u;rw[h] at en;cases en;rfl
  unfold eD;rw[cU,EL Rm]
  rfl
 |num m=>rfl
 |sign s=>rfl
 |eof=>rfl
 |bad=>exact E7 rfl nb
theorem lA (Rm:FZ.contains u=false):eD D ((.word u,xp)::t)=if D.contains u=true then E9 4 ((.word u,xp)::t) else .ok (u,t):=by
 unfold eD;rw[cU,EI (by rw[Rm];exact EE)]
end
theorem ahW (T:aU K mg a) (XC:XT K a) (hk:8<=k)
  (G:T.VY.O P w base k (kc a 7)):
  T.Wt.O P w base (k+1) (oO a fun t=>EV t "const"=false/\EV t "fun"=false):=by
 refine D9 T XC hk T.Wt.F agv fun Gp A outer s H β B L H0 Ro F b t Kn nf Ds fu g Q E hr ho hf hB hc hn hN=>?_;intro X D Z Y R q;have lL:=R.lL;have hm:Kn.values.length+t.length<=4000:=R.room;have R:=R.at.as (wN ho.1 ho.2);generalize hl:t.length=l at R lL hc hf hm;refine kY (Z:=Z.at l) Y DT R fun H t R=>?_;have l1:t.length+1<=l:=R.l;rw[00];refine aN 1 Y.nd (wp (Z:=Z.at l) Y R (fun _=>rfl) T.Lo S.R8 (lT Ds).bind (fun nb en=>?_) (fun u e1 hk hu=>?_) fun u xp r e1 hk hu=>#[FC "{">>=fun _=>JA fu 6 Kn []>>=fun l=>g (.desk u l.1,Kn,nf,u::Ds),(bG (x:=u) (r:=r) ((lA hk).trans (EI (Yh ((hB u).symm.trans hu))))).trans rfl,fun H R=>?_])
 ·obtain⟨⟨x,xp⟩,r,rfl⟩:=R.cons
  exact(aS (q:=E9 2) (tL nb en)).trans (eV _)
 ·obtain⟨⟨x,xp⟩,r,rfl⟩:=R.cons
  obtain rfl:x= .word u:=e1;exact(aS (q:=E9 4) ((lA hk).trans (EL ((hB u).symm.trans hu)))).trans (eV _)
 rw[e1,EZ] at l1;rw[021];refine aQ (gW (dj hr) [001] (pv 1) rZ rfl) #[B.r,_,dr,_,_,rfl,er,T.Fy,T.Lo,rfl,B.ds.p,_,rfl, .inl #[B.ds.c,nk u,S.R8,rfl,FP (show B.ds.c.length<=4000 by lia) [01],rfl],?_];have hD: ∀v,has (dy B.ds.c (nk u) (.bl true)) v=(u::Ds).contains v:=fun v=>by
  rw[qm,FY,hB v]
  congr 1
  rw[GD,FH,beq_iff_eq]
 have hDl:=cB B.ds.c (nk u) (.bl true)
 have R:=R.putD (c:=dy B.ds.c (nk u) (.bl true));generalize dy B.ds.c (nk u) (.bl true)=c3 at R hD hDl ⊢;generalize aF H B.ds.p (.dK c3)=H at R ⊢;rw[021];refine aQ [083] fun nb Uw=>#[B.r,_,dr,_,rfl,(by rw[ac fun z=>by rw[<-z,er] at Uw;cases Uw];exact er),T.Fy,T.Jl,(by show 6<1000;decide),?_]
 rw[rK];obtain⟨hN,R⟩:=R.aa5 hN S Uw er;refine aK (jp Y (Di T) (aO (bv 1 (aO #[_,Y.call2 #[G,hr,T.VY.c,rfl] aj [01] rfl,(B.dk c3).nb nb,l,H0,Ro,F,_,r,Kn,[],0,fu,_,rfl,Fs _,by decide,by lia,(fun v=>rfl),(by show 0+r.length<=4000;lia),R,fun x v H t c' hB' VZ R=>cD (R.new rfl fun w H i R=>?_)]))));have l9:t.length+1<=l:=R.l;have R:=RS.back (Z:=#[a,E,B.tp c3 nb c',L,H0,Ro]) lL R;obtain⟨us,la,sa⟩:nJ a (eW (B.tp c3 nb c')) H x.1 v:=R.f (i:=0) rfl;exact q (.desk u x.1,Kn,nf,u::Ds) w H t c3 nb c' hD (by lia) hn hN ((R.cut 1).and #[v,us,i,la,sa])
theorem ahX (T:aU K mg a) (XC:XT K a) (hk:8<=k)
  (G1:T.Wr.O P w base k (oO a fun t=>EV t "const"=true))
  (G2:T.Ws.O P w base k (oO a fun t=>EV t "const"=false/\EV t "fun"=true))
  (G3:T.Wt.O P w base k (oO a fun t=>EV t "const"=false/\EV t "fun"=false)):
  T.Wq.O P w base (k+1) (oO a fun _=>True):=by
 refine D9 T XC hk T.Wq.F agq fun Gp A outer s H β B L H0 Ro F b t Kn nf Ds fu g Q E hr ho hf hB hc hn hN=>?_;intro X D Z Y R q;refine bF (dv (iQ (Z:=Z) Y R (lK _ _ _ _).bind fun nb=>[022]));rw[bX R.tok tT];refine aP (fun e1=>aK (e6 Y #[G1,hr,T.Wr.c,rfl] #[B,L,H0,Ro,F,b,t,Kn,nf,Ds,fu,g,rfl,e1,hf,hB,hc,hn,hN,R,q])) fun e1=>?_;refine bF (dv (iQ (Z:=Z) Y R (lK _ _ _ _).bind fun nb=>[022]));rw[bX R.tok Aa];refine aP (fun e2=>aK (e6 Y #[G2,hr,T.Ws.c,rfl] #[B,L,H0,Ro,F,b,t,Kn,nf,Ds,fu,g,rfl,#[e1,e2],hf,hB,hc,hn,hN,R,q])) fun e2=>?_;exact aK (e6 Y #[G3,hr,T.Wt.c,rfl] #[B,L,H0,Ro,F,b,t,Kn,nf,Ds,fu,g,rfl,#[e1,e2],hf,hB,hc,hn,hN,R,q])
section
open Vbemac (tokens)
theorem uo (u:EC):bN dq (nk u)=(Im.funs.find? fun f=>f.1 == u).map fun f=>V.int (f.2:E1):=by
 have h1:(Hu "min":a0)=nk (ED "min"):=by show(Hu "min":a0)=Hu (sb (ED "min"));congr 1
 have h2:(Hu "max":a0)=nk (ED "max"):=by show(Hu "max":a0)=Hu (sb (ED "max"));congr 1
 have h3:(Hu "abs":a0)=nk (ED "abs"):=by show(Hu "abs":a0)=Hu (sb (ED "abs"));congr 1
 unfold dq Im KI;rw[h1,h2,h3];have ne: ∀ {v:EC},¬v=u-> ¬nk v=nk u:=fun h z=>h (eI (Ja z))
 have st: ∀(v:EC) (x:V) (r:EA (a0×V)),bN ((nk v,x)::r) (nk u)=if v=u then some x else bN r (nk u):=fun v x r=>by
  by_cases e:v=u
  ·rw[EL e];exact cg (by rw[e])
  ·rw[EI e];exact b4 (ne e)
 rw[st,st,st,GF,GF,GF];dsimp only;by_cases e1:ED "min"=u
 ·rw[EL e1,show(ED "min" == u)=true from beq_iff_eq.mpr e1];rfl
 ·rw[EI e1,show(ED "min" == u)=false from beq_eq_false_iff_ne.mpr e1]
  dsimp only;by_cases e2:ED "max"=u
  ·rw[EL e2,show(ED "max" == u)=true from beq_iff_eq.mpr e2];rfl
  ·rw[EI e2,show(ED "max" == u)=false from beq_eq_false_iff_ne.mpr e2]
   dsimp only;by_cases e3:ED "abs"=u
   ·rw[EL e3,show(ED "abs" == u)=true from beq_iff_eq.mpr e3];rfl
   ·rw[EI e3,show(ED "abs" == u)=false from beq_eq_false_iff_ne.mpr e3];rfl
abbrev F0:EJ->EA V->Prop:=fun _ _=>False
theorem aax.st {a:bf}{H H':Hp}(N:aax a H H' r dr q kd fn ds bl) (hq:H q=some (.lst (as.map V.ref))) (nq:q≠r) (tk:Paired (fM a.IA H) as (tokens bs)) (nt: ∀b∈as,b≠r) (hl:bs.length<=3000):
  fm a #[r,q,kd,fn,#[ds,[],F0],#[bl,[],F0]] H' 0 (tokens bs) Im:=by
 have len:(tokens bs).length<=4000:=by
  have:=dO (bs.length+1) (1,1) bs;unfold tokens;lia
 refine#[#[#[dr,N.ins],as,tokens bs,N.kept _ _ hq nq,?_,rfl],fJ _ _ _,#[#[[],N.kd1,E6 _,fun u=>rfl],#[dq,N.fn1,uo],by show 0+(tokens bs).length<=4000;lia,#[dq,N.fn1,rfl]],N.ds1,N.bl1,#[N.O8.1,N.O8.2.1,N.O8.2.2.1,N.O8.2.2.2.1,N.O8.2.2.2.2.1,N.O8.2.2.2.2.2],fun _ _ z=>z.elim];clear len hq;revert nt;generalize tokens bs=ts at tk ⊢
 induction tk with
 |nil=>exact fun _=> .nil
 |cons h t ih=>exact fun nt=> .cons (by obtain⟨dx,e⟩:=h;exact#[dx,N.kept _ _ e (nt _ (EO ..))]) (ih fun b hb=>nt b (EN _ hb))
end
abbrev DB (a:bf) (M:EJ->Prop) (H:Hp) (ss:EA GK) (us:EA V):Prop:=Paired (fun s v=>fi a M H s v) ss us
inductive jX (K:EF) (a:bf) (vs:EA V) (H:Hp) (Q:VK) (E:XK):Prop
 |mk (l:EJ) (bs:EC) (_:vs=[.ref l]) (_:cP K H l (jG bs)) (_:bs.length<=3000) (_:W (Jx (Lj (Gq bs)) Im Mp []) (Gq bs) (fun ss _=> ∀H' (L:EJ) (us:EA V) (M:EJ->Prop),a9 H H'->H L=none-> ¬M L->H' L=some (.lst us)->DB a M H' ss us->Q (.ref L) H') (fun k x=> ∀H',a9 H H'->nF a.Hd E H' k x)):jX K a vs H Q E
theorem Ee {k n:E1}{K:EK}{β:Type}{g:IG->EU β}(h0:E4 t≠ .eof):(Jx (k+1) K n D>>=g) t=(ia k K n D>>=fun x=>Jx k x.2.1 x.2.2.1 x.2.2.2>>=fun l=>g (x.1::l)) t:=by
 have e:Jx (k+1) K n D t=(ia k K n D>>=fun x=>Jx k x.2.1 x.2.2.1 x.2.2.2>>=fun l=>pure (x.1::l):EU IG) t:=by
  cases h1:EV t "const" with
  |true=>
   rw[vF h0 h1,sU h1];simp only[dQ,bind_assoc,pure_bind]
  |false=>
   cases h2:EV t "fun" with
   |true=>
    by_cases hn:n=0
    ·rw[yc h0 h1 h2 hn,wA h1 h2 hn]
    ·rw[Cq h0 h1 h2 hn,Bt h1 h2 hn]
     unfold lO;simp only[jS,dQ,bind_assoc,pure_bind]
     rfl
   |false=>
    rw[wN h1 h2];cases h3:EV t "desk" with
    |true=>
     rw[yn h0 h1 h2 h3];refine Eq.trans ?_ (bG (p:=GN "desk") (x:=()) (r:=t.drop 1) (by unfold GN;rw[EL h3])).symm
     rfl
    |false=>
     rw[yN h0 h1 h2 h3];exact((aS (p:=GN "desk") (q:=(E9 2:EU Mo)) (by unfold GN;rw[EI (Yh h3)])).trans (eV t)).symm
 rw[aS e];simp only[bind_assoc,pure_bind]
abbrev fkT (ps:EA (GK×V)):EA (Fk×V):=ps.map fun x=>(Fk.top x.1,x.2)
theorem wT {a:bf}{M:EJ->Prop}{H:Hp}{l:EA GK}{ws:EA V}(hl:DB a M H l ws): ∀ {ps:EA (GK×V)},(∀ {i:E1}{x:Fk×V},(fkT ps)[i]?=some x->jd a M H x)->DB a M H ((ps.map fun x:GK×V=>x.1).reverse++l) ((ps.map fun x:GK×V=>x.2).reverse++ws)
 |[],_=>hl
 | (e,v)::ps,h=>by
  rw[Fe,Fe,Gf,Gf,F4,F4];exact wT (.cons (h (i:=0) rfl) hl) fun {i x} q=>h (i:=i+1) q
inductive ShI (a:bf) (E:XK) (B:Rb) (H0:Hp) (Ro:IG->EG->Prop) (Ls:EJ) (l:E1) (σ0:L2.St) (m:E1) (σ:L2.St) (H:Hp):Prop
 |mk (ps:EA (GK×V)) (K1:EK) (nf:E1) (D:EA EC) (dc:EA (a0×V)) (bp:EJ) (bc:EA (a0×V)) (t:EG) (f:E1) (_:m=t.length) (_:σ=σ0) (_:ps.length+t.length<=l) (_: ∀u,has dc u=D.contains u) (_:dc.length+t.length<=4000) (_:K1.funs.length+nf=9) (_:16*t.length+1<=f) (_:CQ (B.tp dc bp bc) H0)
  (_:ut #[a,E,B.tp dc bp bc,l,H0,Ro] Ls) (_:RS (Zf.mo #[a,E,B.tp dc bp bc,l,H0,Ro] Ls (ps.map fun x:GK×V=>x.2).reverse) (fkT ps) false H t K1 (Jx f K1 nf D>>=fun x=>pure ((ps.map fun x:GK×V=>x.1).reverse++x))):ShI a E B H0 Ro Ls l σ0 m σ H
theorem alD (T:aU K mg a) (XC:XT K a) (kS:zt P w K a.Jy dW) (kF:CV P w K a.GC dq) (hk:8<=k)
  (G:T.Wq.O P w base k (oO a fun _=>True)):
  T.d_j.O P w base (k+1) (jX K a):=by
 have G1:=mV (P:=P) (w:=w) (base:=base) T kF
 have G2:=akR (P:=P) (w:=w) (base:=base) T kS
 have G3:=xG (P:=P) (w:=w) (base:=base) T XC;refine fO T.d_j.F aal [061] [02]
 ·obtain⟨l,bs,rfl,_⟩:=h
  rfl
 obtain⟨l,bs,rfl,hS,hl,hW⟩:=h;refine aN 1 aal.nd #[_,g7 T.Uo G1 [017] (by rfl) T.Ui T.Y8.c.b .nil aY (aa (aL G2 [017] (by rfl) T.d_i.c aY (aa (pv 0) ag)) ag),l,bs,rfl,hS,hl,fun H1 q as s1 hq0 hq1 tk=>?_];intro r dr hr0 hdr ne;refine#[r,dr,q,rfl,ae,fun H2 kd fn ds bl N=>#[rfl,?_]];have qr:q≠r:=(ai hq1 hr0);have up1: ∀ {b:EJ}{o:HO},H1 b=some o->aF (aF H1 dr (.own r)) r (.ins a.FX dr []) b=some o:=fun e=>by
  rw[ac (ai e hr0),ac (ai e hdr)];exact e
 have ahY: ∀ {as:EA EJ}{ts:EG},Paired (fM a.IA H1) as ts-> ∀b∈as,b≠r:=fun tk=>by
  induction tk with
  |nil=>exact fun b hb=>nomatch hb
  |cons h t ih=>
   intro b hb;rcases EW.mp hb with hb|hb
   ·obtain⟨dx,e⟩:=h
    rw[hb];exact ai e hr0
   ·exact ih b hb
 have S2:=N.st (up1 hq1) qr (Paired.M7 tk fun b x ⟨dx,e⟩=>#[dx,up1 e]) (ahY tk) hl
 have s02:a9 H H2:=fun b o e=>N.kept b o (up1 (s1 b o e)) (ai (s1 b o e) hr0)
 have upn: ∀ {b:EJ},aF (aF H1 dr (.own r)) r (.ins a.FX dr []) b=none->H b=none:=fun {b} e=>by
  cases z:H b with
  |none=>rfl
  |some o=>rw[up1 (s1 b o z)] at e;cases e
 have hN:CQ ⟨r,q,kd,fn,⟨ds,[],F0⟩,⟨bl,[],F0⟩⟩ H:=fun b z=>by
  rcases z with z|z|z|z|z|⟨_,z⟩
  ·rw[z]
   cases e:H r with
   |none=>rfl
   |some o=>exact(gP hr0 (s1 r o e)).elim
  ·rw[z];exact upn N.kd0
  ·rw[z];exact upn N.fn0
  ·rw[z];exact upn N.ds0
  ·rw[z];exact upn N.bl0
  ·exact z.elim
 clear N ahY up1 upn;have tl:(Gq bs).length<=3002:=by
  have:=dO (bs.length+1) (1,1) bs;unfold Gq;lia
 generalize hRo:(fun(ss:IG) (_:EG)=> ∀H' (L:EJ) (us:EA V) (M:EJ->Prop),a9 H H'->H L=none-> ¬M L->H' L=some (.lst us)->DB a M H' ss us->Q (.ref L) H')=Ro at hW;generalize hB:(#[r,q,kd,fn,#[ds,[],F0],#[bl,[],F0]]:Rb)=B at S2 hN;have Br:B.r=r:=by rw[<-hB]
 have same: ∀ {dc bp bc} {H':Hp},CQ (B.tp dc bp bc) H->db (eW (B.tp dc bp bc)) H H'->a9 H H':=fun n k b o e=>k b o e fun z=>gP (n b z) e
 have R:RS ⟨a,E,B,(Gq bs).length,H,Ro⟩ (fkT []) false H2 (Gq bs) Im (Jx (Lj (Gq bs)) Im Mp []>>=fun x=>pure ([]++x)):=#[#[_,S2],fun b o e _=>s02 b o e,(fun e=>nomatch e),E6 _,by
  rw[js];exact hW.mono (fun _ _ z=>z) fun _ _ z H' k'=>z H' fun b o e=>k' b o e fun z=>gP (hN b z) e]
 rw[<-Br];refine aN 2 aal.nd (mf fun Ls hL=>?_);have hx: ∀b zs,¬B.bl.x b zs:=fun b zs=>by rw[<-hB];exact fun z=>z
 have hdc:B.ds.c=[]:=by rw[<-hB]
 refine fT Iq (ShI a E B H Ro Ls (Gq bs).length [some (.ref l),some (.ref B.r),some (.ref Ls)]) _ #[[],Im,Mp,[],B.ds.c,B.bl.p,B.bl.c,Gq bs,Lj (Gq bs),rfl,rfl,by show 0+_<=_;lia,(fun _=>by rw[hdc];rfl),by rw[hdc];show 0+_<=_;lia,rfl,by unfold Lj;lia,hN,R.nwl hL,R.more hL] ?_;rintro mm σ H4 ⟨ps,K1,nf,D,dc,bp,bc,t,f,rfl,rfl,ul,hD,hDl,hn,hf,hN',N,R⟩;rw[05];obtain⟨n4,S⟩:=R.S;obtain⟨⟨x,xp⟩,t5,rfl,tok,Ql,Ma,_⟩:=S.wh.first;obtain⟨dr4,er4⟩:=S.rd.ins;refine#[_,kU (df (bQ (pv 1) T.Fy T.Y9.c G3 [017] aA)),B.r,dr4,_,rfl,er4,rfl,B.r,B.q,B.kd,B.fn,B.ds.p,bp,n4,(x,xp),t5,rfl,S.rd,(fun b=>(tW _ _ _ _).bind.K6 (Ql.trans b) R.w H4 R.k),fun nb=>[022]];have len:((ps.map fun x:GK×V=>x.2).reverse:EA V).length=ps.length:=by rw[F7,EY]
 cases he:Bu x with
 |true=>
  have ex:x= .eof:=by cases x<;>first|rfl|cases he
  subst ex;refine bK (aK (bv 2 ?_));have w:=(R.as (p':=pure ((ps.map fun x:GK×V=>x.1).reverse++[])) ((bG (zN rfl)).trans rfl)).w
  have w:Ro ((ps.map fun x:GK×V=>x.1).reverse++[]) ((.eof,xp)::t5):=w
  rw[<-hRo] at w;refine w H4 Ls _ (eW (B.tp dc bp bc)) (same hN' (R.less N).k) N.n0 N.nm R.P0 ?_;rw[<-Gw (ps.map fun x:GK×V=>x.2).reverse];exact wT .nil fun e=>(R.less N).f e
 |false=>
  have ne:E4 ((x,xp)::t5)≠ .eof:=fun z=>by
   have z:x= .eof:=z;rw[z] at he;cases he
  refine cf (mr (β:=IG) R.P0 (pv 2) [05] #[_,aL G hr (by rfl) T.Wq.c aA [031],(B.tp dc bp bc).more Ls (ps.map fun x:GK×V=>x.2).reverse,((x,xp)::t5).length,H,Ro,fkT ps,false,(x,xp)::t5,K1,nf,D,f,_,rfl,GH,by lia,hD,hDl,hn,fun b z=>(c9 z).elim (fun z=>by rw[z];exact N.n0) (hN' b),R.at.as (Ee ne),fun y v H' t' dc' bp' bc' UT alE Xj hN2 R2=>?_]);have l2:t'.length+1<=((x,xp)::t5).length:=R2.l;have R2:=RS.back (Z:=Zf.mo #[a,E,B.tp dc' bp' bc',(Gq bs).length,H,Ro] Ls (ps.map fun x:GK×V=>x.2).reverse) (by show((x,xp)::t5).length<=(Gq bs).length;lia) R2;have N2:ut ⟨a,E,B.tp dc' bp' bc',(Gq bs).length,H,Ro⟩ Ls:=by
   refine#[N.n0,fun z=>?_,N.nx,N.nq];rcases z with z|z|z|z|z|⟨zs,z⟩
   ·exact N.nm (.inl z)
   ·exact N.nm (.inr (.inl z))
   ·exact N.nm (.inr (.inr (.inl z)))
   ·exact N.nm (.inr (.inr (.inr (.inl z))))
   ·obtain⟨n5,S5⟩:=R2.S
    have h1:=R2.P0
    have h2:=S5.RB
    have z:Ls=bp':=z;rw[z] at h1;cases h1.symm.trans h2
   ·exact hx _ _ z
  refine#[_,_,_,_,_,_,N2,by rw[len];exact FP (show ps.length<=4000 by lia) [01],R2,fun H3 R3=>?_];refine gb #[_,l2,(y.1,v)::ps,y.2.1,y.2.2.1,y.2.2.2,dc',bp',bc',t',f,rfl,rfl,(by rw[EZ];lia),UT,alE,Xj,(by lia),fun b z=>hN2 b (cu z),N2,?_];rw[Fe,Fe,Gf,Gf];simp only[F4];exact#[R3.S,R3.k,R3.f,Fj (Ju _ _) R3.l,R3.w]
theorem zw {P:Fz}{w:Ga}{K:EF}{mg:Fh->ET EH}{base:Gn}{a:bf}(T:aU K mg a) (XC:XT K a) (IL:py K a) (KT:zu K a.Hz di) (kS:zt P w K a.Jy dW) (kF:CV P w K a.GC dq):
  T.d_j.O P w base 178 (jX K a):=by
 have E:mP P w K mg base a 151:=(alu T XC KT 13).1
 have Br:=xz T XC IL [01] E 7
 have Gi:=ahI T XC [01] E
 have Co:=ahS T XC [01] Gi
 have Fu:=ahV T XC kF [01] Gi
 have De:=ahW T XC [01] Br
 have To:=ahX T XC [01] (Co.mono (by decide:153<=176)) (Fu.mono [01]) De;exact alD T XC kS kF [01] To
def ik (z:Int):FR:=decide (0<=z)&&decide (z<=255)
def jy (zs:EA Int):FR:=decide (zs.length<=3000)&&zs.all ik
inductive sP (K:EF) (vs:EA V) (H:Hp) (Q:VK) (_E:XK):Prop
 |mk (l:EJ) (zs:EA Int) (_:vs=[.ref l]) (_:cP K H l (lN zs)) (_:zs.length<=4000) (_: ∀H',a9 H H'->Q (.bl (jy zs)) H'):sP K vs H Q _E
theorem sh (h:jy zs=false):JQ zs=none:=by
 unfold JQ;rw[EI];intro z;have:jy zs=true:=z;rw[h] at this;cases this
theorem vv (h:jy zs=true): ∃bs:EC,JQ zs=some bs/\jG bs=lN zs/\bs.length<=3000:=by
 have h0:=h;unfold jy at h;rw[Gh,FH] at h;refine#[zs.map fun c=>NI c.toNat,?_,?_,by rw[EY];exact h.1]
 ·unfold JQ
  exact EL h0
 ·unfold jG lN
  rw[Jg];refine EA.map_congr_left fun z hz=>?_;have b:=Lf.mp h.2 z hz;unfold ik at b;rw[Gh,FH,FH] at b;show V.int (nb (NI z.toNat))=V.int z;unfold nb
  congr 1
  rw[Io.toNat_ofNat'];lia
theorem alF (T:aU K mg a):T.d_J.U P w base 1 (sP K):=by
 refine T.d_J.F.ok aam [03] [02];obtain⟨l,zs,rfl,hS,hl,hQ⟩:=h;refine#[_,(ah (aJ (on (b9 eP [058] (aR (by rfl) T.Qi) (aM _)) (jx (bD (Z1 rfl) (by rfl) T.aeB boot_all (aa (Xr rfl aam.nd (l8 (pv 0)) (own:=[("byte",1)]) (rO (by show DG ["text","byte"] (af s_J) _ [("byte",1)]=true;decide+kernel)) (fun _ _ _ _ _=>ki (i:=1) aam.nd rfl (Gx rfl)) (fun _ _ _ _ _=>v9) (fun _ _ _ _ _=>(iy eP eP aj (pv 1) aj))) ag)))))),?_];have il:(lN zs).length=zs.length:=EY ..;refine [067];rw[il];unfold jy at hQ;rw[03]
 ·have le:zs.length<=3000:=by have:=Ft e;lia
  rw[Gb le] at hQ;refine#[l,rfl,#[_,hS],fun D hD=>?_];refine xa (K:=K) (a:=l) (xs:=lN zs) (fun i H'=>a9 H H'/\H' D=some (.lst (((zs.take i).map ik).map V.bl))) #[b3 hD,ae] (fun i H' _ z=>z.1.seq hS) ?_ ?_
  ·rintro i y H' hi ⟨s1,UT⟩
   obtain⟨z,hz,rfl⟩: ∃z,zs[i]?=some z/\y=V.int z:=by
    unfold lN at hi;rw[FQ] at hi;cases e:zs[i]? with
    |none=>rw[e] at hi;cases hi
    |some c=>rw[e] at hi;exact#[c,rfl,(E5 hi).symm]
   have eN: ∀b:FR,b=ik z-> ∃acc,H' D=some (.lst acc)/\acc.length<FE/\(a9 H (aF H' D (.lst (acc++[V.bl b])))/\aF H' D (.lst (acc++[V.bl b])) D=some (.lst (((zs.take (i+1)).map ik).map V.bl))):=fun b hb=>by
    refine#[_,UT,?_,fun b' o e=>by rw[ac (ai e hD)];exact s1 b' o e,?_]
    ·rw[EY,EY]
     exact FP (Fj (Ti i zs) hl) [01]
    ·rw[ae,Mw,hz,hb]
     show some (HO.lst (((zs.take i).map ik).map V.bl++[V.bl (ik z)]))=some (HO.lst (((zs.take i++[z]).map ik).map V.bl))
     rw[GG,GG]
     rfl
   refine#[rfl,?_];unfold Z6;dsimp only;rw[EL rfl];refine [029];refine aP (fun e0=>?_) fun e0=>?_
   ·refine#[_,_,rfl,rfl,eN _ ?_]
    unfold ik;rw[e0]
    rfl
   ·refine eN _ ?_
    unfold ik;rw[e0]
    rfl
  ·rintro H' ⟨s1,UT⟩
   rw[il,MX] at UT;refine#[D,zs.map ik,rfl,cP.of UT,?_];have:=hQ H' s1;rw[IK] at this;rw[Sn];exact this
 ·have le: ¬zs.length<=3000:=by have:=Fw e;lia
  rw[FA le] at hQ;exact hQ H fun _ _ e=>e
section
open Vbemac (expandSteps)
theorem aa6 {Qo:IG->EG->Prop}{Qe:E1->FT->Prop}(ho: ∀ss t,NA bs= .ok ss->wS [] KI ss->Qo ss t) (he: ∀e,NA bs= .error e->Qe e.1 e.2):W (Jx (Lj (Gq bs)) Im Mp []) (Gq bs) Qo Qe:=by
 unfold W;have r:NA bs=(match Jx (Lj (Gq bs)) Im Mp [] (Gq bs) with
  | .error e=> .error e
  | .ok (a,_)=> .ok a):=rfl
 cases e:Jx (Lj (Gq bs)) Im Mp [] (Gq bs) with
 |error x=>rw[e] at r;exact he x r
 |ok z=>rw[e] at r;exact ho z.1 z.2 r (lX _ Im _ _ rfl _ _ _ (lr _ _ _) e).1
def Yi (M:JI) (bs:EC):Except Int (IG×EA IF×E1):=match NA bs with
 | .error _=> .error (-3)
 | .ok s=>match expandSteps M s with
  | .error c=> .error c
  | .ok (l,n)=> .ok (s,l,n)
theorem ahZ {f:IG->EA IF->E1->Vbemac.Ans} :Ua M bs f=(match Yi M bs with
  | .error c=>[c]
  | .ok (s,l,n)=>f s l n):=by
 unfold Ua Vbemac.withSheet Yi;cases NA bs with
 |error e=>rfl
 |ok s=>dsimp only;cases expandSteps M s<;>rfl
def Bad (K:EF) (a:bf) (E:XK) (H:Hp) (c:Int):Prop:= ∀(C d fI:EJ) (fs:EA (Fh×V)),dA K a.GB C fI->fs.lookup ("number":Fh)=some (.int c)->H d=none->E (.ref C) (some d) (aF H d (ci d fs))
theorem Bad.toW {K:EF}{a:bf}{E:XK}{H:Hp}(XC:XW K a) (h:Bad K a E H c):oM a E H c:=fun C hC d hd=>by
 have: ∃fI,dA K a.GB C fI:=by
  unfold xcl at hC;simp only[EW,GZ,or_false,Prod.mk.injEq] at hC;rcases hC with⟨_,rfl⟩|⟨_,rfl⟩|⟨_,rfl⟩|⟨_,rfl⟩|⟨_,rfl⟩|⟨_,rfl⟩
  ·exact#[_,XC.Lq]
  ·exact#[_,XC.Oc]
  ·exact#[_,XC.MU]
  ·exact#[_,XC.MV]
  ·exact#[_,XC.Lr]
  ·exact#[_,XC.Od]
 obtain⟨fI,x⟩:=this;exact h C d fI _ x rfl hd
theorem vC {X:Cx}{σ:L2.St}{H:Hp}{Q:VK}{e1 e2 e3:G8}{t1 t2 t3:TE}{lo x hi:Int}{p:Pos}(h1:PE X e1 t1) (h2:PE X e2 t2) (h3:PE X e3 t3) (v1: ∀Q:VK,Q (.int lo) H->t1 σ H Q) (v2: ∀Q:VK,Q (.int x) H->t2 σ H Q) (v3: ∀Q:VK,Q (.int hi) H->t3 σ H Q) (q:Q (.bl (E8 x lo hi)) H) (hm:UD [.LtE, .LtE] [e2,e3]=false:=by with_unfolding_all rfl):
  Pe X (.Compare e1 [.LtE, .LtE] [e2,e3] p) σ H Q:=by
 refine#[_,iy eP eP h1 h2 h3 hm,v1 _ (v2 _ [029])];unfold E8 at q;by_cases h:lo<=x
 ·rw[Gb h,IK] at q
  rw[Gb h];exact cf (v3 _ #[_,_,rfl,rfl,q])
 ·rw[FA h,Iy] at q
  rw[FA h];exact bK q
theorem wH {H:Hp}{Q:VK}(b c:FR) (q:Pe X e σ H fun v H1=>v= .bl b/\(b=true->Pe X (.BoolOp .And (f::es) p) σ H1 Q)/\(b=false->Q (.bl (b&&c)) H1)):Pe X (.BoolOp .And (e::f::es) p) σ H Q:=
 #[_,on dn dn,q.mono fun v H1 ⟨hv,h1,h2⟩=>#[b,hv,by
  cases b with
  |true=>exact cf (h1 rfl)
  |false=>exact bK (h2 rfl)]]
theorem Yj {H:Hp}{Q:VK}(q:Pe X e σ H Q):Pe X (.BoolOp .And [e] p) σ H Q:=#[_,jx dn,q]
theorem jJ (T:aU K mg a) (XC:XN K a):T.YM.U P w mg base 2 (dP a.Lc (gC (-1))):=
 okI T.YM.F afA fun Gp A outer s H p Q hr q=>#[_,ah (bi (e8 (by rfl) T.Hi XC.rm (bO T XC.Nu) hr T.VW.c.b .nil aY [040])),_,rfl,q]
inductive wW (K:EF) (a:bf) (vs:EA V) (H:Hp) (Q:VK) (E:XK):Prop
 |mk (x:FR) (_:vs=[.bl x]) (_:x=true->Q .HZ H) (_:x=false->Bad K a E H (-1)):wW K a vs H Q E
theorem alG (T:aU K mg a) (XC:XN K a):T.d_g.O P w base 4 (wW K a):=by
 refine fO T.d_g.F akJ [03] [02];obtain⟨x,rfl,h1,h2⟩:=h;refine bF (jf #[_,df (pv 0),?_]);cases x with
 |true=>exact#[_,rfl,bK (cc (h1 rfl))]
 |false=>exact#[_,rfl,cf (aQ (eT eu XC.Nu (jJ T XC) (hr.mono (by decide)) (by rfl) T.Ot T.YM.c.b) #[Fs _,_,#[rfl,rfl],fun d hd=>h2 rfl _ d _ _ XC.Nu rfl hd])]
inductive xg (vs:EA V) (H:Hp) (Q:VK) (_E:XK):Prop
 |mk (x:Int) (_:vs=[.int x]) (_:Q (.bl (Jo x)) H):xg vs H Q _E
theorem ah0 (T:aU K mg a):T.d_Z.U P w base 1 xg:=by
 refine T.d_Z.F.ok akI [03] [02];obtain⟨x,rfl,q⟩:=h;exact aK (vC (lo:= -W6) (hi:=W6) (b7 cW aj (aR (by rfl) T.OL)) (pv 0) (aR (by rfl) T.OL) (fun _ q=>#[_,_,rfl,rfl,q]) [05] [05] q)
def vx (z t lo hi:Int):FR:=E8 z 1 6&&(E8 t 1 4&&(Jo lo&&(Jo hi&&decide (lo<=hi))))
inductive rB (vs:EA V) (H:Hp) (Q:VK) (_E:XK):Prop
 |mk (z t lo hi:Int) (_:vs=[.int z, .int t, .int lo, .int hi]) (_:Q (.bl (vx z t lo hi)) H):rB vs H Q _E
theorem ah1 (T:aU K mg a):T.Zo.U P w base 2 rB:=by
 refine T.Zo.F.ok Xy [03] [02];obtain⟨z,t,lo,hi,rfl,q⟩:=h;unfold vx at q;have h1: ∀ {X:Cx}{σ:L2.St}{e f:G8}{p:Pos},(∀Q:VK,Q (.bl (E8 z 1 6)) H->Pe X e σ H Q)->(∀Q:VK,Q (.bl (E8 t 1 4)) H->Pe X f σ H Q)->Pe X (.BoolOp .And [e,f] p) σ H fun v H'=>v= .bl (E8 z 1 6&&E8 t 1 4)/\H'=H:=fun h1 h2=>wH _ (E8 t 1 4) (h1 _ #[rfl,fun e=>Yj (h2 _ (by rw[e];exact#[rfl,rfl])),fun e=>#[rfl,rfl]]);refine aN 4 Xy.nd (Pe.mono (h1 (fun Q q=>vC aj (pv 0) (aR (by rfl) T.Rh) [05] [05] [05] q) fun Q q=>vC aj (pv 1) (aR (by rfl) T.PQ) [05] [05] [05] q) fun v H' ⟨hv,hH⟩=>?_);subst hv hH;refine aK (wH (E8 z 1 6&&E8 t 1 4) (Jo lo&&(Jo hi&&decide (lo<=hi))) (bv 4 #[rfl,fun e=>?_,fun e=>by rw[FR.and_assoc];exact q]))
 ·rw[Gh] at e
  rw[e.1,e.2,IK,IK] at q;refine wH (Jo lo) (Jo hi&&decide (lo<=hi)) (bI (aO (bv 2 (cD #[lo,rfl,rfl,fun e=>?_,fun _=>q]))) (ah0 T) [07] T.d_Z.c aY);rw[e,IK] at q;refine wH (Jo hi) (decide (lo<=hi)) (bI (aO (bv 3 (cD #[hi,rfl,rfl,fun e=>?_,fun _=>q]))) (ah0 T) [07] T.d_Z.c aY);rw[e,IK] at q;exact Yj #[_,b9 eP (pv 2) (pv 3) (aM _),_,_,rfl,rfl,q]
end
inductive Aq (K:EF) (a:bf) (vs:EA V) (H:Hp) (Q:VK) (E:XK):Prop
 |mk {l:EJ}{bs:EC}{G:JI}(_:vs=[.int G.zones, .int G.quarters, .int G.lo, .int G.hi, .ref l]) (_:G.quarters<=4) (_:cP K H l (jG bs)) (_:bs.length<=3000) (_: ∀c,Yi G bs= .error c-> ∀H',a9 H H'->Bad K a E H' c) (_: ∀ss Z H' U o n,Yi G bs= .ok (ss,o,n)->Z.a=a->a9 H Z.N->TS Z H' U o n (IJ ss) []->Q (.ref Z.x) H'):Aq K a vs H Q E
theorem ah2 (T:aU K mg a) (XC:XN K a) (KX:lW K a) (G_j:T.d_j.O P w base 178 (jX K a)):T.Zp.O P w base 179 (Aq K a):=by
 refine fO T.Zp.F agE [03] [02];obtain @⟨l,bs,G,rfl,q4,sl,lb,er,q⟩:=h;refine aK (bI (aO (aaK (xC T) [07] (aO (bv 0 (aO (bv 1 (aO (bv 2 (aO (bv 3 (cD #[rfl,fun m dm H1 hm s1 e1=>?_]))))))))))) (ale T XC.toXW KX) [07] T.d_R.c aA);refine aO (bI (aO (bv 4 (cD #[l,bs,rfl,s1.seq sl,lb,aa6 (fun ss t hr' wt=>?_) fun e he=>?_]))) G_j hr T.d_j.c aA)
 ·intro H2 L us M s2 _ _ hL tl
  have ex:Yi G bs=(match LX G ss with| .error c=> .error c| .ok (l,n)=> .ok (ss,l,n)):=by unfold Yi;rw[hr']<;>rfl
  have tl':Paired (fun s v=>fi a (fun p=>H2 p=none) H2 s v) ss us:=Paired.M7 tl fun s v h=>fi.Hj (fun b o e _=>#[fun z=>(by rw[z] at e;cases e),e]) s h
  refine cD (.mk rfl (s2 _ _ e1) q4 hL tl' wt (fun c h H' s3=>(er c (by rw[ex,h]) H' ((s1.trans s2).trans s3)).toW XC.toXW) fun Z H' U o n h ha hN R=>q ss Z H' U o n (by rw[ex,h]) ha (by rw[hN];exact s1.trans s2) R)
 ·intro H2 s2 d hd
  exact er (-3) (by unfold Yi;rw[he]) H2 (s1.trans s2) _ d _ _ XC.fc rfl hd
theorem pz {z t lo hi:Int}{zs:EA Int}(h:(vx z t lo hi&&jy zs)=false):Ky z t lo hi zs=[-1]:=by
 show N5 [[5,z,t,lo,hi],zs]=_
 unfold N5;rw[show We [[5,z,t,lo,hi],zs]=(match Lz z t lo hi,JQ zs with
   |some M,some b=>some (.steps M b)
   |_,_=>none) from rfl]
 cases h1:vx z t lo hi with
 |false=>rw[show Lz z t lo hi=none from EI (by show¬vx z t lo hi=true;rw[h1];exact EE)]
 |true=>
  rw[h1,IK] at h;rw[sh h];cases Lz z t lo hi<;>rfl
theorem CH {z t lo hi:Int}{zs:EA Int}{bs:EC}(h:vx z t lo hi=true) (hb:JQ zs=some bs): ∃G:JI,(G.zones:Int)=z/\(G.quarters:Int)=t/\G.lo=lo/\G.hi=hi/\G.quarters<=4/\Ky z t lo hi zs=(match Yi G bs with
  | .error c=>[c]
  | .ok (s,l,n)=>[0,(Vbemac.BUDGET:Int)-n]):=by
 have h':=h;unfold vx E8 at h;simp only[Gh,FH] at h;refine#[#[z.toNat,t.toNat,lo,hi],by lia,by show(t.toNat:Int)=t;lia,rfl,rfl,by show t.toNat<=4;lia,?_]
 show N5 [[5,z,t,lo,hi],zs]=_
 unfold N5;rw[show We [[5,z,t,lo,hi],zs]=(match Lz z t lo hi,JQ zs with
   |some M,some b=>some (.steps M b)
   |_,_=>none) from rfl,hb,show Lz z t lo hi=some _ from EL h']
 exact ahZ
theorem alH (T:aU K mg a) (XC:XN K a) (KX:lW K a) (G_j:T.d_j.O P w base 178 (jX K a)):
  T.d_d.U P w base 180 (jU K):=by
 refine T.d_d.F.ok aan [03] [02];obtain⟨z,t,lo,hi,l,zs,rfl,hS,hl,hQ⟩:=h;refine#[_,(ax (BL (R:=a.GB) (G:=a.GB) (i:=6) (fun v od Ry=> ∃(C d fI:EJ) (c:Int) (fs:EA (Fh×V)),v= .ref C/\od=some d/\dA K a.GB C fI/\Ky z t lo hi zs=[c]/\Ry d=some (ci d fs)/\fs.lookup ("number":Fh)=some (V.int c)) rfl rfl (fun C d H h=>by obtain⟨_,_,fI,_,_,e,_,x,_⟩:=h;cases e;exact#[fI,x, .inr rfl]) (by rfl) T.Hi aan.nd rfl rfl
    (fun pins Ew PE_=>ax (bi (aL (alG T XC) [07] (by rfl) T.d_g.c PE_ (aa (on (aL (ah1 T) [07] (by rfl) T.Zo.c aY (aa (pv 0) (aa (pv 1) (aa (pv 2) (aa (pv 3) ag))))) (jx (aL (alF T) [07] (by rfl) T.d_J.c aY (aa (pv 4) ag)))) ag)))
     (ah (cG (i:=5) aan.nd rfl (Gx rfl) (aL (ah2 T XC KX G_j) hr (by rfl) T.Zp.c PE_ (aa (pv 0) (aa (pv 1) (aa (pv 2) (aa (pv 3) (aa (pv 4) ag)))))))))
    (fun a'=>(ah (aJ (iA (aa (DJ (K:=K) rfl [00] mE (pv 6) (by rfl)) ag))))))
   (ah (aJ (iA (aa aj (aa (ak (ak (pv 5) rfl) rfl) ag)))))),?_]
 refine#[?_,?_]
 ·have bad: ∀ {H1:Hp}{c:Int},Ky z t lo hi zs=[c]->Bad K a (fun v od Ry=> ∃(C d fI:EJ) (c:Int) (fs:EA (Fh×V)),v= .ref C/\od=some d/\dA K a.GB C fI/\Ky z t lo hi zs=[c]/\Ry d=some (ci d fs)/\fs.lookup ("number":Fh)=some (V.int c)) H1 c:=fun h C d fI fs x lk hd=>#[C,d,fI,_,fs,rfl,rfl,x,h,ae,lk]
  refine#[z,t,lo,hi,rfl,_,rfl,aP (fun h1=>?_) fun h1=>#[_,rfl,nofun,fun _=>bad (pz (by rw[h1];rfl))]];refine#[l,zs,rfl,hS,hl,fun H1 s1=>#[_,rfl,fun ht=>?_,fun ht=>bad (pz (by rw[h1,ht];rfl))]];obtain⟨bs,eb,ev',hb⟩:=vv ht;obtain⟨G,rfl,rfl,rfl,rfl,q4,ec⟩:=CH h1 eb;refine .mk rfl q4 (by rw[ev'];exact s1.seq hS) hb (fun c h H' _=>bad (by rw[ec,h])) fun ss Z H' U o n h ha _ R=>?_;subst ha;rw[h] at ec;obtain⟨B,nm,R,_⟩:=R;obtain @⟨r,b,ff,d,s,nd,kk,os,FO,W,A,gs,eb',hj⟩:=R;refine#[Z.x,_,Z.dx,_,_,rfl,W.O.same _ _ eb'.hx,T.G9,T.J1,rfl,W.fld T T.Kh rfl #[by show 2<=FE;decide,fun p hp=>hQ _ p ?_]];rw[ec];exact ae
 ·rintro C d H2 a' ⟨C',d',fI,c,fs,eC,ed,X1,ec',hd,lk⟩ ha'
  cases ed;cases eC;have nd:d≠a':=fun z=>by rw[z,ha'] at hd;cases hd
  have h1:aF H2 a' (kh C d a') d=some (ci d fs):=by rw[ac nd];exact hd
  refine#[_,_,_,a',d,_,_,X1,rfl,ae,h1,lk,?_];refine#[by show 1<=FE;decide,fun p hp=>?_];refine hQ _ p ?_;rw[ec'];exact ae
theorem lW.at_ (I:lW K a) (hi:(zk a)[i]?=some C) (hj:(zk a)[j]?=some D) (h:i<15) (h':j<15):Hy K (.ref C) (.ref D)=some (decide (i=j)):=by
 have:=FN (fun l=>(l[i]?.bind fun r:EA (ET FR)=>r[j]?)) I.kit
 rw[FQ,hi,FQ,LO h] at this;simp only[Ly,ET.bind_some,FQ,hj,LO h'] at this;exact E5 this
theorem aa7 {a:bf}(I:lW K a):py K a:=#[I.ty _ [068],I.ty _ (.tail _ [068]),I.ty _ (.tail _ (.tail _ [068])),I.ty _ (.tail _ (.tail _ (.tail _ [068]))),I.ty _ (.tail _ (.tail _ (.tail _ (.tail _ [068])))),I.at_ (i:=7) (j:=7) rfl rfl [01] [01],I.at_ (i:=8) (j:=7) rfl rfl [01] [01],I.at_ (i:=9) (j:=7) rfl rfl [01] [01],I.at_ (i:=10) (j:=7) rfl rfl [01] [01],I.at_ (i:=11) (j:=7) rfl rfl [01] [01]]
theorem zH {mg:Fh->ET EH}{base:Gn}{a:bf}(T:aU K mg a) (XC:XN K a) (kS:zt P w K a.Jy dW) (kF:CV P w K a.GC dq) (KT:zu K a.Hz di) (I:lW K a):T.d_d.U P w base 180 (jU K):=
 alH T XC I (zw T XC.toXT (aa7 I) KT kS kF)
end OS
open PySem PySem.W PyProof.Rows
theorem PySem.Challenge.cw_ordersheets_s06_steps_holds : PySem.Challenge.rw_ordersheets_s06_steps.Holds :=
 OS.hd OS.zH

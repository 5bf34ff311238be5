import PyProof.Rows.All
import KE.OsGo
import Wide.All
import OpenK.AllK
import Wide.FinOn
import PyProof.EqAt
import PyProof.EqKinds
import PyProof.TupleCall
import KE.BitLaws
import Open.SpecLaws
import KE.OsHead
import PyProof.StationsW
import PyProof.PassesOwn
import PyProof.ExcClass
import PyProof.ExcClass2
import PyProof.ExcArgs
import PyProof.ExcBaseAll.Exception
import PyProof.InstLoad
import PyProof.InstStoreFacts
import VbemacSpec
import PySem.Str
import PySem.Challenge.RW_ordersheets_s07_same
import PyProof.RulesAs
import PyVbemac
local macro_rules|`(#[$x,*])=>`(⟨$x,*⟩)
open Option renaming some->Fa,none->FB
open Bool renaming true->FM,false->FS
open _root_ renaming rfl->Gc
set_option compiler.extract_closed false
set_option hygiene false
local macro_rules
|`([00])=>`((by decide+kernel))
|`([01])=>`((by decide))
|`([02])=>`((λGU A outer s H vs Q E hr h=>?_))
|`([03])=>`((λvs H Q E h=>by cases h;subst_vars;rfl))
|`([04])=>`((λ_ _ _ _ _ _ us hl=>OS.u2 hl λ_ _=>[0x0]))
|`([05])=>`((λ_ q=>q))
|`([06])=>`((λ_ _ _ _ _ _ us hl=>OS.u1 hl λ_=>[0x0]))
|`([07])=>`((hr.mono [01]))
|`([08])=>`((ah (pv 0) Gc))
|`([09])=>`((by exact Gc))
|`([000])=>`((OS.aC KX G [0x5] [04]))
|`([001])=>`((FS,eval e X.env))
|`([002])=>`((λ_ _=>rfl))
|`([003])=>`(("__debug__":FR))
|`([004])=>`((λ_ _ _ _ _ _ us hl=>OS.u3 hl λ_ _ _=>[0x0]))
|`([005])=>`((.Name "reader" p1))
|`([006])=>`((FW KX G [09]))
|`([007])=>`(#[by decide+kernel,by decide+kernel,by decide+kernel])
|`([008])=>`(#[by decide+kernel,by decide+kernel])
|`([009])=>`((OS.aC KX G [0x5] [06]))
local macro_rules
|`(tactic|rw[00])=>`(tactic|(obtain⟨n,S⟩:=R.S))
|`(tactic|rw[01])=>`(tactic|(intro pins s σ H Q I h))
set_option hygiene true
open _root_ renaming List->E9,if_neg->Fj,if_pos->Fm,Option->Ft,Nat->FC,absurd->FH,of_decide_eq_true->F4,of_decide_eq_false->F6,decide_eq_false->Gb,decide_eq_true_iff->Gg,congrArg->Gq,Bool->Gu,decide_eq_true->GJ,beq_self_eq_true->G7,UInt8->Jc,Array->Jw,if_false->MO,Unit->Nc,decide_eq_true_eq->N5,if_true->Th,not_or->VV
open Vbemac renaming Bytes->Fb,text->Fc,Toks->Ff,Known->Fl,Exp->Fs,P->Fv,isKey->Fw,peek->FE,within->FI,fail->FJ,expr->FT,sign->Ge,isSign->Gf,Bytes->Gm,Pos->Gx,Out->Gy,Order->GC,KEYS->GD,next->GF,Tok->GH,SIGNS->GI,primary->GL,newName->GO,unary->GS,tokens->GZ,Stmt->Hb,behind->Hn,Top->Ho,Env->Hq,key->Hr,deeper->Hw,DEEP->HA,digit->HJ,isKey->HP,Blocks->HX,Scope->Ia,place->Ip,evAmounts->Iz,side->IT,runOne->IZ,zoneIn->Ja,known0->Jb,Stmts->Jd,MOST->Jg,knownBlock->Jn,Sheet->Jr,deskCount->Jt,Funs->JH,runAll->JL,maybeName->JS,isPrice->JT,Exps->J2,tops->J3,stmts->J6,letter->Kc,Market->Kd,params->Ke,told->Ko,BIG->Kp,ifSign->KO,addBlock->KU,marketOf->KW,stmt->K8,BUILT->Lj,signOf->Lz,ev->LM,fuel->L3,isSign->L5,expandSteps->MI,compare->MM,Toks->MS,expandTops->Nb,FUNS->Nf,truth->NW,bytesOf->Ot,read->Ou,answer->OU,lex->O6,bit->O7,SLOPE->PK,arguments->Qa,Rest->Qz,valueIn->Q4,blank->Si,evEither->TM,row->Ut,MOSTORDERS->UY,withOrders->UZ,moreAdded->Vq,moreTimes->Vr,blockName->Vs,compared->VR,evRest->VW,builtIn->Wu,checked->Wv,moreAnd->Wx,addStep->Wy,runLoop->Wz,anyName->WA,moreOr->WX,placed->WY,decode->WZ,arith->XJ,added->XM,times->XQ,evOpt->XS,ifKey->XU,PRICE->XX,evBoth->Zd,ands->Zi
open Bool renaming false_ne_true->Fd,and_eq_true->GR,eq_iff_iff->Hd,noConfusion->Ht,and_false->IQ,false_eq_true->IY,true_and->Je,false_and->Jk,and_eq_true_iff->Kx,or_eq_false_iff->Mf,or_eq_true->Mt,or_false->Pc,not_eq_false'->PJ,or_true->Qh,false_or->Se,true_or->Tn,not_eq_true'->VN,eq_false_iff->VO
open PySem.W renaming Frag->Fe,mg_of->FW,mg_none_of->Hv,kitOne->HK,findIn->HS,kia_one->Im,fnOf->Io,emptyDict->IE,keepIn->IF,instObj->JA,nsIn->J1,callWith_K->KQ,codeIn->Lc,methodCall_KW->Lm,plainGet->Nq,lookIn->Oa,plainGet_of->Ox,callWith_K0->Oy,methodObj->O8,hasDictIn->O9,specialIn->Pb,isFn->Pd,length_le_weightAllW->Qv,takerIn->Qy,nsMap_none_of_in->Q7,cellsFrom_some->RE,isNs_of_in->TK,plainOver->Um,kitx_list->Uo,kitx_dict->Uq,WRecords->U1,handedIn->U3,makesIn->Vt,takesIn->Vu,findCls->Vv,WalkOS->VS,typeIn->VT,nsOkIn->VU,mroIn->WB
open PySem renaming Value->Fh,Addr->Fi,Shared->Fn,wpAny_bind->FD,starEach->FK,Str->FR,wpAny->FV,wpAny_pure->F7,sizeLine->F8,Program->Ga,FuncData->Gs,wpAny_loadPart_at->Gz,World->GN,mem_of_lookup->GQ,Around->GV,Heap->GY,bindArgs->Hu,Expr->HH,boot_len->HN,typeLookup->HR,sizeLine_eq->Ic,compareOp->Ii,cellsFrom->Ij,excClassObj->Ir,attributeBase->IA,sysModules->IC,wpAny_mono->ID,wpAny_truthy_bool->IU,backTo->IV,Obj->IW,builtinLookup_eq_fast->Ji,mainGlobals->Jp,keywordEach->Jq,checkBuiltinCall->JD,wpAny_Call_Name_kw->JI,NameKind->JV,tupleKind_room_in1->Kl,wpAny_passesOwn->Ks,typeLookup_type->Kt,backToKw->KR,intItems->KS,bootBuiltins->K4,getMethod->K7,codeAny->Lq,swapsWith->LL,foldedSetIterable->L4,plainObj_wpAny_Assign_Attribute->Mq,numAt->Mu,StoreFacts->Mx,argBest->ML,sliceBounds->MN,compEnvC->MP,wpAny_execs_nil->M8,codeAny_mono->Nl,ExcBaseFacts->Nm,tupleKind->NI,pushCells->NJ,callWith->NN,Within->N3,wpAny_standAt->N7,wpAny_holding->N8,rawInt->N9,DictEntry->Oz,binaryOp->OA,letOwnedTupleGo->O0,pushCells_keeps->O2,cLine->O5,codeAny_call_builtin->PM,importBound->PQ,PassesOwn->P8,noteFrame->P9,valueAt->Qg,wpAny_call->QK,PyData->QM,GenState->Q8,atKey->Q9,wpAny_lookBehind->RC,pastItsLine_dict->RD,setFlight->RF,pyNext->RH,IsPair->RI,BindsTo->Tb,callerA->Tc,getAttr->Td,setAttr->Te,getItem->Tg,notedBy->Tj,wpAny_setField->TH,lastMarks->Vo,bindL->Vw,bindC->Vx,wpAny_nextOf_list_item->VE,tupleKeyHash->VG,wpAny_nsSet1->VI,wpAny_typeOf->VJ,Fin->VX,wpAny_isTrue_Compare1->Wr,wpAny_loadName_local->WM,ZipApart->WW,wpAny_loadName_cell->XD,Builtin->XI,wpAny_getItem_heap->Y5,getattributeRaised->Y6,builtinsNs->Y7,wpAny_Name->Y8,typeIs_str->Za,isInstance->Zb
open List renaming mem_cons_of_mem->Fp,mem_cons_self->Fq,length_map->Fx,mem_cons->Fy,length_cons->FA,length_append->FL,mem_singleton->FN,map_cons->FQ,mem_append->FY,getElem?_eq_some_iff->Gh,nodup_cons->Gk,contains_iff_mem->Gn,size_toArray->Gv,getElem?_map->Gw,contains_cons->GB,append_assoc->GG,length_reverse->GK,reverse_cons->GP,mem_of_getElem?->G8,append_nil->Hc,find?_cons->Hj,map_append->Hk,mem_append_right->Hm,drop_eq_getElem_cons->Hs,getElem?_eq_getElem->Hx,not_mem_nil->HF,getD_eq_getElem?_getD->IP,getElem?_eq_none->IX,replicate->Jl,take_of_length_le->Js,lookup->Ju,range->Jx,length_singleton->Jy,map_map->JK,takeWhile_cons->JU,lookup_cons->JW,mem_reverse->JX,drop_of_length_le->Ka,length_nil->Kh,mem_of_find?_eq_some->Kz,filterMap_cons->KL,mem_map_of_mem->KN,of_mem_zip->K6,getElem?_replicate->Lb,nodup_append->Ln,take_add_one->Lo,mem_map->Lr,all_eq_true->LW,length_drop->LX,take_length->LY,any_eq_true->LZ,mem_append_left->Md,mem_of_getLast?->Me,getElem?_range->Mw,nodup_nil->MV,find?_isSome->Np,all_cons->NK,any_cons->NL,length_eq_zero_iff->NU,length_take->NV,getElem?_set_self->N4,length_replicate->Oo,length_filter_le->Oq,getElem?_set_ne->OE,drop_drop->OF,length->OG,find?_eq_none->PH,length_filter_eq_length_iff->P6,length_range->P7,map_nil->Qc,filter_cons->QC,take_append->QD,drop_length->QF,eq_nil_of_length_eq_zero->QJ,find?_some->Q3,forIn_nil->Rn,getElem?_append_left->RA,getLastD_eq_getLast?->RB,getLast?_cons_cons->Sq,drop_eq_nil_of_le->S7,append_eq_nil_iff->S8,all_map->Ti,any_map->Tp,take_append_drop->Tw,eq_nil_or_concat->Tx,concat_eq_append->Tz,filterMap_append->TB,getElem?_reverse->TC,length_take_le'->Ug,mem_of_mem_take->Uh,dropLast_concat->Ui,mem_of_mem_drop->Uj,toList_toArray->US,reverse_append->UU,mem_filterMap->Vk,map_inj_right->Vm,any_eq_false->VH,find?_append->VL,mem_of_head?->VM,drop_sublist->VP,cons_append->Ws,perm_middle->Wt,mem_filter->WO,forIn_cons->WQ,length_zip->WR,map_const'->WU,take_zero->XH,sum_cons->Zc
open PySem.Heap renaming get?_push_of_some->Fz,lt_size->FX,get?_push_size->G6,get?_update_other->Hf,size_push->HQ,get?_update_self->Jz,SameBut->MK,get?_update_ne->UT
open Nat renaming le_refl->FF,le_trans->FP,zero_le->F3,lt_of_lt_of_le->F5,lt_of_le_of_lt->Gp,ne_of_lt->Ha,succ_le_succ->Hi,lt_succ_self->HG,add_sub_cancel_left->HW,lt_irrefl->HZ,lt_succ_of_lt->Jo,le_of_eq->JM,le_add_right->JZ,le_of_lt->KD,add_comm->KG,zero_add->KH,le_succ->Li,le_of_succ_le->Lx,ne_of_gt->Ly,add_le_add_left->MG,add_sub_cancel->M9,add_right_comm->Na,le_succ_of_le->NH,sub_self->Qx,succ->RJ,add_assoc->Ss,lt_of_le_of_ne->VF,min_eq_right->WN,min_eq_left->XE
open Option.some renaming inj->FG
open StateT renaming bind->FU
open PySem.Value renaming ref->FZ,none->HY,int->Ki,builtin->L0,bool->MQ,type->MR,str->OH,isStrOf->O4,float->TN
open Option renaming map_eq_some_iff->Gj,isSome_map->Ig,bind_eq_some_iff->Iy,isSome_iff_exists->KJ,map_some->Mg,none->Tq,some_ne_none->TJ,isSome_some->Ul,getD_none->Vp,map_map->Ww
open Or renaming inl->G9
open True renaming intro->Hl
open Vbemac.Tok renaming word->Hy,sign->Jh
open Sum renaming inr->Ie,inl->JN
open PySem.Obj renaming mapFields->Iq,isFreed_of_fields->LV,data_mapFields->PN
open PySem.F renaming store_Exception->Iv,plainAttrs_list->Jj,slot_list_append->KA,type_list_append->KC,slot_zip_getattribute->LN,slot_dict_getitem->Q1,excBase_Exception->Q2,slot_dict_pop->Sa,slot_list_pop->Sb,type_list_pop->Sd
open List.cons renaming inj->IB,injEq->PR
open Ne renaming symm->IG
open False renaming elim->IM
open PySem.PassesOwn renaming leaving->Jf,never->LO
open Sum.inr renaming inj->JE
open PyProof.Rows renaming envOfC->JJ,callWith_type1->JY,boot_tuple->MJ,callWith_builtin1->OD,AllBare->Qb,boot_isinstance->Sr,subscriptTail->UW,subscriptTail_builtinR->VD,Subscript_->Y9
open Array renaming getElem?_eq_some_iff->Kr,toList->Sv,getElem?_toList->S9,mem_toList_iff->TF,length_toList->Uk,find?_toList->UX,toList_map->VQ
open PySem.Calls renaming spliced_cons->K5,callWith_builtin->Lk,spliced_nil->Ll,evalArgs_plain->Ov,Name_function_global->Q6
open PyVbemac renaming same->LC
open PySem.NameKind renaming free->LD,cell->Q5
open Int renaming toNat_of_nonneg->MH,natCast_inj->XF
open PySem.Builtin.SmallTypes renaming ownedTupleIsFree->M7,nextOf->OB
open UInt8 renaming toNat->Nk,ofNat->OC,toNat_inj->QL,ofNat_toNat->Vn,toNat_lt->WV
open ForInStep renaming yield->NM
open Vbemac.Known renaming taken->N6
open PySem.Heap.Ns1 renaming of_empty->O3
open PySem.Builtin.Dict renaming updateFrom->Qw
open PySem.Paired renaming length->Rp,snoc->Ze
open PySem.PyData renaming eqvAll->Rq
open Nat.succ renaming inj->Rr
open PySem.EntryCells renaming newEntry->RG
open PySem.SeqAt.EqAt renaming int_str->Sf,str_int->Sg
open PySem.Around renaming under->Sh,under_plainId->Ta
open PySem.SeqAt renaming shaped->Sw
open PySem.Code renaming isFrame->Tf,quiet_builtin->Vl
open PySem.Heap.DictOf renaming new->Tr
open Vbemac.Exp renaming call->TQ
open PySem.Data renaming seq->Ur
open PySem.Value.type renaming inj->Us
open PySem.Txt renaming join->U4
open Int.ofNat renaming inj->Vy
open PySem.Bind renaming checkArgs->XG
open Sum.inl renaming inj->XY
open PySem.Str renaming join->Zg
open PySem.Within renaming cons->Zh
open PySem.Heap.IsSliceOf renaming new->abN
set_option genSizeOf false
set_option Elab.async false
set_option linter.all false
set_option maxRecDepth 100000
set_option cleanup.letToHave false
set_option maxHeartbeats 4000000
set_option maxRecDepth 100000 in
set_option maxHeartbeats 0 in
theorem OS.abO:PySem.Challenge.rw_ordersheets_s07_same.wellSaid=FM:=by decide+kernel
namespace OS
open PySem PySem.W
def live (o:IW):Ft IW:=match o with
 |⟨_,_, .freed,_⟩=>FB
 |o=>Fa o
noncomputable def pick (l:E9 IW):FC->E9 FC->E9 (Ft IW):=
 @E9.rec IW (λ_=>FC->E9 FC->E9 (Ft IW)) (λ_ _=>[])
  (λo _ f i as=> @E9.rec FC (λ_=>E9 (Ft IW)) [] (λa t _=> @Gu.rec (λ_=>E9 (Ft IW)) (f (RJ i) as) (live o::f (RJ i) t) (FC.beq a i)) as) l
theorem zq (o:IW) (l:E9 IW) (i a:FC) (t:E9 FC):pick (o::l) i (a::t)=if a=i then live o::pick l (i+1) t else pick l (i+1) (a::t):=by
 show @Gu.rec (λ_=>E9 (Ft IW)) _ _ (FC.beq a i)=_
 cases h:FC.beq a i
 .rw[Fj (FC.ne_of_beq_eq_false h)];rfl
 .rw[Fm (FC.eq_of_beq_eq_true h)];rfl
theorem D1 {K:E9 (FC×IW)}(l:E9 IW): ∀(i:FC),pick l i (K.map (·.1))=K.map (λp=>Fa p.2)-> ∀p∈K,i<=p.1/\l[p.1-i]?.bind live=Fa p.2:=by
 induction l generalizing K with
 |nil=>
  intro i h p hp;cases K with
  |nil=>cases hp
  |cons q r=>cases h
 |cons o l ih=>
  intro i h p hp;cases K with
  |nil=>cases hp
  |cons q r=>
   rw[FQ,zq] at h;split at h
   .rename_i e
    obtain⟨h1,h2⟩:=IB h;rcases Fy.mp hp with z|z
    .rw[z,e,Qx];exact#[FF _,h1]
    .have⟨a,b⟩:=ih (i+1) h2 p z
     refine#[by lia,?_];rw[show p.1-i=p.1-(i+1)+1 by lia];exact b
   .have⟨a,b⟩:=ih (K:=q::r) (i+1) h p hp
    refine#[by lia,?_];rw[show p.1-i=p.1-(i+1)+1 by lia];exact b
theorem vV {K:Frag}{a:FC}{o:IW}(e:K.lookup a=Fa o):(a,o)∈K:=by
 induction K with
 |nil=>cases e
 |cons p r ih=>
  obtain⟨b,x⟩:=p;simp only[Ju] at e;split at e
  .rename_i q;cases e;rw[beq_iff_eq.mp q];exact .head _
  .exact .tail _ (ih e)
noncomputable def hook (K:Params->Frag) (as:E9 FC) (e: ∀P,as=(K P).map (·.1)):Hook:=
 #[E9 (Ft IW),λs=>pick s.heap.objs.toList 0 as,λw=>(K w.params).map λp=>Fa p.2,InK K,λw s h a o x=>by
  rw[e w.params] at h;have:=(D1 _ 0 h _ (vV x)).2;rw[S9] at this;unfold GY.get?;cases z:s.heap.objs[a]? with
  |none=>rw[show(a,o).1-0=a from Gc,z] at this;cases this
  |some y=>rw[show(a,o).1-0=a from Gc,z] at this;rcases y with⟨_,_,x,_⟩;cases x<;>exact this,InK.keeps]
theorem Vz {K:Params->Frag}{as:E9 FC}{e: ∀P,as=(K P).map (·.1)} {w:GN}{h:GY}(Y:(hook K as e).says w h):(K w.params).In h:=Y
end OS
namespace L2
open PySem PySem.Spec PyProof.Rows
abbrev a8:=Sum Int FR
def jk:a8->Fh->Gu
 | .inl k,v=>Fh.isInt k v
 | .inr x,v=>O4 x v
def aiX (w:GN):a8->Int
 | .inl k=>hashInt k
 | .inr x=>hashStr w x
theorem cG: ∀ {k:a8}{v:Fh},jk k v=FM->(∃i t,k=JN i/\v=Ki i t)\/(∃x t,k=Ie x/\v=OH x t)
 | .inl i,v,h=>by
  obtain⟨t,e⟩:=Fh.isInt_shape (k:=i) (v:=v) h;exact .inl #[i,t,Gc,e]
 | .inr x,v,h=>by
  obtain⟨t,e⟩:=Fh.isStrOf_shape (x:=x) (v:=v) h;exact .inr #[x,t,Gc,e]
theorem Zj (a b:Int):decide ((JN a:a8)=JN b)=(a == b):=by
 by_cases e:a=b
 .subst e;simp
 .have h: ¬(JN a:a8)=JN b:=λq=>e (XY q)
  rw[Gb h];exact(beq_eq_false_iff_ne.mpr e).symm
theorem Zk (a b:FR):decide ((Ie a:a8)=Ie b)=decide (a=b):=by
 by_cases e:a=b
 .subst e;simp
 .have h: ¬(Ie a:a8)=Ie b:=λq=>e (JE q)
  rw[Gb h,Gb e]
theorem Zl (a:Int) (b:FR):decide ((JN a:a8)=Ie b)=FS:=Gb (λq=>nomatch q)
theorem Zm (a:FR) (b:Int):decide ((Ie a:a8)=JN b)=FS:=Gb (λq=>nomatch q)
def aU (prog:Ga) (w:GN):PySem.KeyKind prog w a8 where
 is:=jk
 hash:=aiX w
 inj:=λv a b ha hb=>by
  rcases cG ha with⟨i,t,rfl,rfl⟩|⟨x,t,rfl,rfl⟩
  .rcases cG hb with⟨j,u,rfl,e⟩|⟨y,u,rfl,e⟩
   .injection e with e1 _;rw[e1]
   .exact nomatch e
  .rcases cG hb with⟨j,u,rfl,e⟩|⟨y,u,rfl,e⟩
   .exact nomatch e
   .injection e with e1 _;rw[e1]
 byValue:=λk v h=>by
  rcases cG h with⟨i,t,rfl,rfl⟩|⟨x,t,rfl,rfl⟩<;>rfl
 pyHash:=λhv h=>by
  rcases cG hv with⟨i,t,rfl,rfl⟩|⟨x,t,rfl,rfl⟩
  .exact wpAny_pyHash_int h
  .exact wpAny_pyHash_str h
 eqBool:=λhu hv h=>by
  rcases cG hu with⟨i,t,rfl,rfl⟩|⟨x,t,rfl,rfl⟩
  .rcases cG hv with⟨j,u,rfl,rfl⟩|⟨y,u,rfl,rfl⟩
   .rw[Zj] at h;exact wpAny_eqBool_int h
   .rw[Zl] at h;exact Sf i t y u _ _ _ _ h
  .rcases cG hv with⟨j,u,rfl,rfl⟩|⟨y,u,rfl,rfl⟩
   .rw[Zm] at h;exact Sg x t j u _ _ _ _ h
   .rw[Zk] at h;exact wpAny_eqBool_str h
 «strs»:=λk x t v h=>by
  rcases cG h with⟨i,u,rfl,e⟩|⟨y,u,rfl,e⟩
  .exact nomatch e
  .injection e with e1 _
   subst e1;cases v<;>rfl
inductive V where
 |IJ|bl (b:Gu)|int (i:Int)|str (x:FR)|Sx (b:Jw Jc)|XZ (b:UInt64)|ref (a:Fi)|ty (n:String)
 deriving DecidableEq
def bh:V->Fh->Prop
 | .IJ,u=>u=HY
 | .bl b,u=>u=MQ b
 | .int i,u=> ∃t,u=Ki i t
 | .str x,u=> ∃t,u=OH x t
 | .Sx b,u=> ∃t,u=Fh.bytes b t
 | .XZ b,u=> ∃t,u=TN b t
 | .ref a,u=>u=FZ a
 | .ty n,u=>u=MR n
abbrev aX:E9 V->E9 Fh->Prop:=Paired bh
def fU:Ft V->Ft Fh->Prop
 |some v,some u=>bh v u
 |none,none=>True
 |_,_=>False
def KV {κ:Type} :E9 (κ×V)->E9 (κ×Fh)->Prop:=Paired λ(p:κ×V) (q:κ×Fh)=>p.1=q.1/\bh p.2 q.2
def kV:a8->V
 | .inl i=> .int i
 | .inr x=> .str x
inductive HO where
  |lst (xs:E9 V)
  |tup (xs:E9 V)
  |dK (aD:E9 (a8×V))|dT (aD:E9 (E9 a8×V))
  |set (S:Int->Gu) (n:FC)
  |ins (C dx:Fi) (fs:E9 (FR×V))
  |own (x:Fi)
  |xd (fs:E9 (FR×V))
  |met (f x:Fi)
  |rng (lo hi:Int)
  |QN (o:IW) (u:HO)
  |Zn (ps:Jw Fh)
  |ext (φ:GY->Prop)
abbrev Hp:=Fi->Ft HO
section
variable (P:Ga) (w:GN)
def cx (H:Hp) (h:GY) (a:Fi):HO->Prop
 | .lst xs=>xs.length<=F8/\ ∃(HD:E9 Fh) (n:FC),aX xs HD/\h.get? a=Fa { cls:= .type "list",data:= .seq HD.toArray n }
 | .tup xs=>xs.length<=F8/\ ∃HD:E9 Fh,aX xs HD/\IsTup h a HD.toArray
 | .dK aD=>aD.length<=F8/\(a == IC)=FS/\ ∃vs,KV aD vs/\h.DictOf (aU P w) a vs
 | .dT aD=>aD.length<=F8/\(a == IC)=FS/\ ∃xs:E9 (E9 a8×Fi×Fh),
   Paired (λ(p:E9 a8×V) (q:E9 a8×Fi×Fh)=>p.1=q.1/\H q.2.1=Fa (.tup (p.1.map kV))/\bh p.2 q.2.2) aD xs/\
   ∃o es ep,h.get? a=Fa o/\o.ExactDict/\o.data= .dict es ep/\es.toList=xs.map (entryOfKey (NI (aU P w)))/\(xs.map (·.1)).Nodup
 | .set S n=>h.SetOf (intKind P w) a S n
 | .ins C dx fs=>H dx=Fa (.own a)/\fs.length<=1000/\dx≠a/\h.get? a=Fa (JA C dx)/\
   ∃mA,h.Ns1 dx mA/\(∀f,fU (fs.lookup f) (mA f))/\N3 mA (fs.map (·.1))
 | .own _=> ∃o,h.get? a=Fa o
 | .xd fs=> ∃mA,h.Ns1 a mA/\ ∀f,fU (fs.lookup f) (mA f)
 | .rng lo hi=> ∃t u v,h.get? a=Fa { cls:= .type "range",data:= .fields [.int lo t, .int hi u, .int 1 v].toArray }
 | .QN o u=>h.get? a=Fa o/\cx H h a u
 | .Zn ps=>h.get? a=Fa { cls:= .none,data:= .fields ps }
 | .met f x=>h.get? a=Fa (O8 (.ref f) (.ref x))
 | .ext φ=>φ h/\(∃o,h.get? a=Fa o)/\ ∀h1 h2:GY,φ h1->(∀o,h1.get? a=Fa o->h2.get? a=Fa o)->φ h2
def ib (H:Hp) (h:GY):Prop:= ∀a o,H a=Fa o->cx P w H h a o
end
def Rd (H:Hp) (a:Fi) (u:HO):Prop:=H a=Fa u\/ ∃o,H a=Fa (.QN o u)
theorem Rd.ok {P:Ga}{w:GN}{H:Hp}{h:GY}{a:Fi}{u:HO}(r:Rd H a u) (x:ib P w H h):cx P w H h a u:=by
 rcases r with r|⟨o,r⟩
 .exact x a u r
 .obtain⟨_,q⟩:=x a _ r
  exact q
structure Un (fs ex:E9 Fi) (H H':Hp) (h h':GY):Prop where
 keep: ∀b o,h.get? b=Fa o->H b=FB->b∉fs->b∉ex->h'.get? b=Fa o
 slot: ∀b o,h.get? b=Fa o->H b=FB->b∈fs->b∉ex-> ∃sl,h'.get? b=Fa { o with slots:=sl }
 free: ∀b o,h.get? b=Fa o->H b=FB->b∉ex->H' b=FB
 there: ∀b o,h.get? b=Fa o->b∉ex-> ∃o',h'.get? b=Fa o'
 Ra: ∀b xs,H b=Fa (.tup xs)->H' b=Fa (.tup xs)
 QO: ∀b o u,H b=Fa (.QN o u)->H' b=Fa (.QN o u)
 Rc: ∀b ps,H b=Fa (.Zn ps)-> ∃more,H' b=Fa (.Zn (ps++more))
def AF (h:GY) (H:Hp):E9 Fi:=(Jx h.objs.size).filter λa=>(H a).isSome
def rg (h:GY) (H:Hp):GY:=PySem.W.hideAll h (AF h H)
theorem xQ (h:GY) (H:Hp):(rg h H).objs.size=h.objs.size:=PySem.W.hideAll_size _ _
theorem Df {h:GY}{H:Hp}{b:Fi}{o:IW}(e:h.get? b=Fa o) (n:H b=FB):(rg h H).get? b=Fa o:=
 PySem.W.hideAll_get _ e λhm=>by
  have q:(H b).isSome=FM:=(WO.mp hm).2;rw[n] at q;simp at q
theorem EZ {h:GY}{H:Hp}{b:Fi}{o:IW}(e:(rg h H).get? b=Fa o):h.get? b=Fa o/\H b=FB:=by
 have e':h.get? b=Fa o:=PySem.W.of_hideAll (AF h H) e;refine#[e',?_];cases q:H b with
 |none=>rfl
 |some x=>
  have hm:b∈AF h H:=WO.mpr #[E9.mem_range.mpr (FX e'),by simp [q]]
  have z:(rg h H).get? b=FB:=PySem.W.hideAll_none (AF h H) hm;rw[z] at e;cases e
structure Mod (K:Fe) (mg:FR->Ft Fh) (base:GY):Prop where
 Vz:K.In base
 glob:base.Ns Jp mg
 blt: ∃mb,base.Ns Y7 mb/\ ∀x:FR,x≠"__name__"->mb x=K4 x
 nolimit:base.NoLimit
def rK (l:E9 Env):E9 Fi:=l.filterMap (·.frame)
abbrev XK:=Fh->Ft Fi->Hp->Prop
abbrev VK:=V->Hp->Prop
def cB (K:Fe) (H:Hp) (a:Fi) (xs:E9 V):Prop:=
 Rd H a (.lst xs)\/
  ∃(o:IW) (HD:Jw Fh) (n:FC),K.lookup a=Fa o/\o.cls= .type "list"/\o.dict=FB/\o.data= .seq HD n/\HD.size<=F8/\aX xs HD.toList
def pH (K:Fe) (H:Hp) (a:Fi) (xs:E9 V):Prop:=
 Rd H a (.tup xs)\/
  ∃(o:IW) (HD:Jw Fh) (n:FC),K.lookup a=Fa o/\o.cls= .type "tuple"/\o.data= .seq HD n/\HD.size<=F8/\aX xs HD.toList
section
variable {X:Cx}{pins:E9 (Fi×IW)}{σ:St}{H:Hp}{s:Fn}{a:Fi}{xs ys:E9 V}
theorem cB.of {K:Fe}(h:H a=Fa (.lst xs)):cB K H a xs:= .inl (.inl h)
end
structure gM (K:Fe) (C:Fi):Prop where
 pg:Nq K C FR.empty=FM
 hd:O9 K C=FM
 po:Um K C=FM
 sa:HS K (.ref C) "__setattr__"=Fa (Fa (.builtin "object.__setattr__"))
def ao (K:Fe) (C:Fi) (f:FR):Prop:=HS K (.ref C) f=Fa FB
structure Meth (K:Fe) (C:Fi) (m:FR) (f:Fi):Prop where
 at_:HS K (.ref C) m=Fa (Fa (.ref f))
 fn:Pd K (.ref f)=FM
 kp:IF K (.ref f)=FM
structure bZ (k:FC) (A:GV):Prop where
 hd:A.handled=FB
 dp:A.depth+2*k+5<recursionLimit
 un:A.units+16*k+200<O5
abbrev Sp:=E9 V->Hp->VK->XK->Prop
abbrev pP:=E9 Env->Hp->Fn->XK->Fh->Fn->Prop
structure uD (P:Ga) (w:GN) (K:Fe) (mg:FR->Ft Fh) (base:GY) (A:GV) (outer:E9 Env) (s:Fn) (H:Hp):Prop where
 frames:A.frames=Fa outer
 mod:Mod K mg base
 bs: ∀b o,base.get? b=Fa o->s.heap.get? b=Fa o/\H b=FB
 U5:base.objs.size<=s.heap.objs.size
 funs:s.heap.FunFrames base outer
 WC: ∀b∈rK outer,H b=FB
 Iu:ib P w H s.heap
 bare:Qb s.gens
def CE (outer:E9 Env) (P:Ga) (w:GN) (H:Hp) (s:Fn) (Q:VK) (u:Fh) (s':Fn):Prop:=
 ∃v H',s'.os=s.os/\Qb s'.gens/\Un (rK outer) [] H H' s.heap s'.heap/\ib P w H' s'.heap/\bh v u/\Q v H'
def CR (CX:pP) (outer:E9 Env) (P:Ga) (w:GN) (H:Hp) (s:Fn) (Q:VK) (E:XK) (r:Result) (s':Fn):Prop:=
 match r with
 | .ok (.ret u)=>CE outer P w H s Q u s'
 | .ok _=>False
 | .error e=>CX outer H s E e s'
structure bU (P:Ga) (w:GN) (K:Fe) (mg:FR->Ft Fh) (base:GY) (CX:pP) (k:FC) (f:Fi) (fd:Gs) (ps:E9 FR) (sp:Sp):Prop where
 len: ∀vs H Q E,sp vs H Q E->vs.length=ps.length
 run: ∀(A:GV) (outer:E9 Env) (s:Fn) (H:Hp) (args:Args) (us:E9 Fh) (vs:E9 V) (Q:VK) (E:XK),bZ k A->uD P w K mg base A outer s H->Tb s fd args (ps.zip us)->aX vs us->sp vs H Q E->
  Lq (model P w) A (.call (.ref f) args) (CR CX outer P w H s Q E) s
def fZ (K:Fe) (fd:Gs) (ps:E9 FR) (ds:E9 Fh):Prop:=
 ∀(s:Fn) (us:E9 Fh),K.In s.heap->(us++ds).length=ps.length->Tb s fd #[us,[]] (ps.zip (us++ds))
theorem fZ.all {K:Fe}{fd:Gs}{ps:E9 FR}(h: ∀us:E9 Fh,us.length=ps.length->Hu fd #[us,[]]=pure (ps.zip us)):fZ K fd ps []:=λs us _ hl=>by
 rw[Hc] at hl ⊢;exact .of_eq (h us hl)
section
variable {X:Cx}{CX:pP}{k:FC}{f C:Fi}{fd:Gs}{ps:E9 FR}{sp:Sp}{Rt:E9 V}{ds:E9 Fh}{E:XK}{x m:FR}{p pos La:Pos}{e o:HH}{es:E9 HH}{ta:TE}{t:TA}
structure CD (K:Fe) (mg:FR->Ft Fh) (x:FR) (f:Fi) (fd:Gs) (ps:E9 FR):Prop where
 m:mg x=Fa (.ref f)
 k:IF K (.ref f)=FM
 b:fZ K fd ps []
structure MD (K:Fe) (C:Fi) (m:FR) (f:Fi) (fd:Gs) (ps:E9 FR):Prop where
 m:Meth K C m f
 b:fZ K fd ps []
structure Mk (K:Fe) (C f:Fi):Prop where
 makes:Vt K C=FM
 init:HS K (.ref C) "__init__"=Fa (Fa (.ref f))
 fn:Pd K (.ref f)=FM
 kp:IF K (.ref C)=FM
end
def aB (s:Stmt) (j:FC):Stmt:=match s with
 | .ClassDef _ _ _ body _ _ _ _ _ _ _=>body.getD j (.Pass #[0,0,0,0])
 |_=> .Pass #[0,0,0,0]
def dM (s:Stmt):Arguments:=match s with
 | .FunctionDef _ a _ _ _ _ _ _ _ _=>a
 |_=> { posonlyargs:=[],args:=[],vararg:=FB,kwonlyargs:=[],kw_defaults:=[],kwarg:=FB,defaults:=[] }
def be (s:Stmt):E9 Stmt:=match s with
 | .FunctionDef _ _ b _ _ _ _ _ _ _=>b
 |_=>[]
def af (s:Stmt):Scope:=match s with
 | .FunctionDef _ _ _ _ _ _ sc _ _ _=>sc
 |_=> { kind:= .function,names:=[],isGenerator:=FS,isCoroutine:=FS }
abbrev wX:pP:=λ_ _ _ _ _ _=>False
structure oX (K:Fe) (x He:FR) (st:Stmt) (f:Fi) (fd:Gs):Prop where
 ex: ∃(oc:Fh) (od:Ft Fi) (kV doc pm:Fh) (an:Ft Fi) (GU ct:Fh) (WD:Jw (Ft Fh)),
  fd=Io x He (dM st) (be st) (af st) .none kV doc pm an GU ct/\K.lookup f=Fa #[oc,od, .func fd,WD]/\Lc K GU He=FM
 kp:IF K (.ref f)=FM
section
variable {P:Ga}{w:GN}{K:Fe}{mg:FR->Ft Fh}{base:GY}
theorem oX.binds {x He:FR}{st:Stmt}{f:Fi}{fd:Gs}{ps:E9 FR}(F:oX K x He st f fd)
  (h: ∀(kV doc pm:Fh) (an:Ft Fi) (GU ct:Fh) (us:E9 Fh),us.length=ps.length->Hu (Io x He (dM st) (be st) (af st) .none kV doc pm an GU ct) #[us,[]]=pure (ps.zip us)):fZ K fd ps []:=by
 obtain⟨oc,od,kV,doc,pm,an,GU,ct,WD,rfl,lk,Sy⟩:=F.ex;exact .all (h kV doc pm an GU ct)
theorem kO {x He:FR}{st:Stmt}{f:Fi}{oc:Fh}{od an:Ft Fi}{WD:Jw (Ft Fh)}{kV doc pm GU ct:Fh}(l:K.lookup f=Fa #[oc,od, .func (Io x He (dM st) (be st) (af st) .none kV doc pm an GU ct),WD])
  (c:Lc K GU He=FM) (k:IF K (.ref f)=FM):oX K x He st f (Io x He (dM st) (be st) (af st) .none kV doc pm an GU ct):=#[#[oc,od,kV,doc,pm,an,GU,ct,WD,Gc,l,c],k]
end
end L2
section
set_option maxHeartbeats 2000000
namespace L2
open PySem PySem.Spec PyProof.Rows
open PySem.W (WData Codec OpenSpec Well WellAll ReadsW ReadsAllW)
mutual
inductive Dw (K:Fe) (H:Hp):V->WData->Prop
 |IJ:Dw K H .IJ .none
 |bl (b:Gu):Dw K H (.bl b) (.bool b)
 |int (i:Int):Dw K H (.int i) (.int i)
 |str (x:FR):Dw K H (.str x) (.str x)
 |Sx (b:Jw Jc):Dw K H (.Sx b) (.bytes b.toList)
 |lst {a:Fi}{xs:E9 V}{ds:E9 WData} :cB K H a xs->ie K H xs ds->Dw K H (.ref a) (.list ds)
 |tup {a:Fi}{xs:E9 V}{ds:E9 WData} :pH K H a xs->ie K H xs ds->Dw K H (.ref a) (.tuple ds)
inductive ie (K:Fe) (H:Hp):E9 V->E9 WData->Prop
 |nil:ie K H [] []
 |cons {v:V}{vs:E9 V}{d:WData}{ds:E9 WData} :Dw K H v d->ie K H vs ds->ie K H (v::vs) (d::ds)
end
theorem xg {K:Fe}{H:Hp} : ∀ns:E9 Int,ie K H (ns.map V.int) (ns.map WData.int)
 |[]=> .nil
 |n::r=> .cons (.int n) (xg r)
theorem ro {K:Fe}{H:Hp} : ∀(ns:E9 Int) (xs:E9 V),ie K H xs (ns.map WData.int)->xs=ns.map V.int
 |[],xs,h=>by
  cases h
  rfl
 |n::r,xs,h=>by
  cases h with
  |cons h1 h2=>
   cases h1;rw[ro r _ h2]<;>rfl
section
variable {P:Ga}{w:GN}{K:Fe}{H:Hp}{h:GY}{R:U1}{cl:FR->Ft Fi}
theorem Zo {a:Fi}(Iu:ib P w H h) (KX:K.In h) (q:cB K H a xs): ∃(HD:E9 Fh) (o:IW) (n:FC),aX xs HD/\h.get? a=Fa o/\o.cls= .type "list"/\o.data= .seq HD.toArray n:=by
 rcases q with q|⟨o,HD,n,e,hc,_,hd,_,hv⟩
 .obtain⟨_,HD,n,hv,e⟩:=(show cx P w H h a (.lst xs) from q.ok Iu)
  exact#[HD,_,n,hv,e,Gc,Gc]
 .exact#[HD.toList,o,n,hv,KX _ _ e,hc,by simp [hd]]
theorem Zp {a:Fi}(Iu:ib P w H h) (KX:K.In h) (q:pH K H a xs): ∃(HD:E9 Fh) (o:IW) (n:FC),aX xs HD/\h.get? a=Fa o/\o.cls= .type "tuple"/\o.data= .seq HD.toArray n:=by
 rcases q with q|⟨o,HD,n,e,hc,hd,_,hv⟩
 .obtain⟨_,HD,hv,o,e,hc,n,hd⟩:=(show cx P w H h a (.tup xs) from q.ok Iu)
  exact#[HD,o,n,hv,e,hc,hd]
 .exact#[HD.toList,o,n,hv,KX _ _ e,hc,by simp [hd]]
mutual
theorem Dw.reads (Iu:ib P w H h) (KX:K.In h): ∀(d:WData) (v:V) (u:Fh),Dw K H v d->bh v u-> ∃as,ReadsW R cl h u d as
 | .none,_,_,x,r=>by
  cases x;cases r;exact#[_,ReadsW.none]
 | .bool b,_,_,x,r=>by
  cases x;cases r;exact#[_,ReadsW.bool b]
 | .int i,_,_,x,r=>by
  cases x;obtain⟨t,rfl⟩:=r;exact#[_,ReadsW.int i t]
 | .str s,_,_,x,r=>by
  cases x;obtain⟨t,rfl⟩:=r;exact#[_,ReadsW.str s t]
 | .bytes b,_,_,x,r=>by
  cases x;obtain⟨t,rfl⟩:=r;exact#[_,ReadsW.bytes _ t]
 | .list ds,_,_,x,r=>by
  cases x with
  |lst hs ha=>
   cases r;obtain⟨HD,o,n,rv,ho,hc,hd⟩:=Zo Iu KX hs;obtain⟨as,hr⟩:=Dw.readsAll Iu KX ds _ HD ha rv;exact#[_,ReadsW.list ho hc hd hr]
 | .tuple ds,_,_,x,r=>by
  cases x with
  |tup hs ha=>
   cases r;obtain⟨HD,o,n,rv,ho,hc,hd⟩:=Zp Iu KX hs;obtain⟨as,hr⟩:=Dw.readsAll Iu KX ds _ HD ha rv;exact#[_,ReadsW.tuple ho hc hd hr]
 | .float _,_,_,x,_=>by cases x
 | .dict _,_,_,x,_=>by cases x
 | .bytearray _,_,_,x,_=>by cases x
 | .set _,_,_,x,_=>by cases x
 | .frozenset _,_,_,x,_=>by cases x
 | .obj _ _,_,_,x,_=>by cases x
theorem Dw.readsAll (Iu:ib P w H h) (KX:K.In h): ∀(ds:E9 WData) (vs:E9 V) (us:E9 Fh),ie K H vs ds->aX vs us-> ∃as,ReadsAllW R cl h us ds as
 |[],_,_,x,r=>by
  cases x;cases r;exact#[_,ReadsAllW.nil]
 |d::ds,_,_,x,r=>by
  cases x with
  |cons h1 h2=>
   cases r with
   |cons r1 r2=>
    obtain⟨as,q1⟩:=Dw.reads Iu KX d _ _ h1 r1;obtain⟨bs,q2⟩:=Dw.readsAll Iu KX ds _ _ h2 r2;exact#[_,ReadsAllW.cons q1 q2]
end
end
mutual
def xm:WData->Gu
 | .none=>FM
 | .bool _=>FM
 | .int _=>FM
 | .str _=>FM
 | .bytes _=>FM
 | .list xs=>l0 xs
 | .tuple xs=>l0 xs
 |_=>FS
def l0:E9 WData->Gu
 |[]=>FM
 |x::r=>xm x&&l0 r
end
theorem rZ {α:Type}{f:α->WData}(h: ∀a,xm (f a)=FM): ∀l:E9 α,l0 (l.map f)=FM
 |[]=>rfl
 |x::r=>by
  show(xm (f x)&&l0 (r.map f))=FM
  rw[h x,rZ h r]<;>rfl
theorem iK: ∀(c:Codec) (a:c.denote),xm (c.enc a)=FM
 | .unit,_=>rfl
 | .bool,_=>rfl
 | .int _ _,_=>rfl
 | .nat _ _,_=>rfl
 | .u8,_=>rfl
 | .bytes _ _,_=>rfl
 | .text _ _ _ _,_=>rfl
 | .list _ _ c,a=>rZ (λx=>iK c x) a
 | .pair c d,a=>by
  show(xm (c.enc a.1)&&(xm (d.enc a.2)&&FM))=FM
  rw[iK c a.1,iK d a.2]<;>rfl
 | .triple c d e,a=>by
  show(xm (c.enc a.1)&&(xm (d.enc a.2.1)&&(xm (e.enc a.2.2)&&FM)))=FM
  rw[iK c a.1,iK d a.2.1,iK e a.2.2]<;>rfl
 | .option c,none=>rfl
 | .option c,some x=>iK c x
theorem pG: ∀(cs:E9 Codec) (a:Codec.denoteAll cs),l0 (Codec.encAll cs a)=FM
 |[],_=>rfl
 |c::cs,a=>by
  show(xm (c.enc a.1)&&l0 (Codec.encAll cs a.2))=FM
  rw[iK c a.1,pG cs a.2]<;>rfl
theorem jE: ∀ {xs:E9 WData}{d:WData},d∈xs->d.weight<=WData.weightAll xs
 |[],d,h=>FH h (by simp)
 |x::r,d,h=>by
  show d.weight<=x.weight+1+WData.weightAll r
  rcases Fy.mp h with e|m
  .rw[e]
   omega
  .have z:=jE m
   omega
def tj:Fh->V
 | .none=> .IJ
 | .bool b=> .bl b
 | .int i _=> .int i
 | .str x _=> .str x
 | .bytes b _=> .Sx b
 | .ref a=> .ref a
 |_=> .IJ
def yf (A:E9 Fi):Fh->Prop
 | .none=>True
 | .bool _=>True
 | .int _ _=>True
 | .str _ _=>True
 | .bytes _ _=>True
 | .ref a=>a∈A
 |_=>False
theorem yf.mono {A B:E9 Fi}(h: ∀a∈A,a∈B): ∀ {u:Fh},yf A u->yf B u:=λ{u} x=>by
 cases u with
 |ref a=>exact h a x
 |none=>trivial
 |bool b=>trivial
 |int i t=>trivial
 |str s t=>trivial
 |bytes b t=>trivial
 |_=>exact IM x
theorem BY {A:E9 Fi}(x:yf A u):bh (tj u) u:=by
 cases u with
 |ref a=>rfl
 |none=>rfl
 |bool b=>rfl
 |int i t=>exact#[t,Gc]
 |str s t=>exact#[t,Gc]
 |bytes b t=>exact#[t,Gc]
 |_=>exact IM x
theorem gK {A:E9 Fi} : ∀ {vs:E9 Fh},(∀u∈vs,yf A u)->aX (vs.map tj) vs
 |[],_=> .nil
 |u::r,h=> .cons (BY (h u (Fq ..))) (gK λx hx=>h x (Fp _ hx))
def ia (h:GY) (A:E9 Fi) (a:Fi):Prop:= ∃vs:E9 Fh,vs.length<=F8/\(∀u∈vs,yf A u)/\
 (h.get? a=Fa { cls:= .type "list",data:= .seq vs.toArray } \/h.get? a=Fa { cls:= .type "tuple",data:= .seq vs.toArray })
theorem ia.mono {h:GY}{A B:E9 Fi}{a:Fi}(k: ∀a∈A,a∈B) (x:ia h A a):ia h B a:=by
 obtain⟨vs,h1,h2,h3⟩:=x;exact#[vs,h1,λu hu=>(h2 u hu).mono k,h3]
theorem f7 {P:Params}{h:GY} : ∀ {vs:E9 Fh}{ds:E9 WData},WellAll P h vs ds->vs.length=ds.length
 |_,_, .nil=>rfl
 |_,_, .cons _ b=>by
  show _+1=_+1
  rw[f7 b]
theorem pV {P:Params}{h:GY}(x:Well P h v (.list ds)): ∃(a:Fi) (vs:E9 Fh),v= .ref a/\h.get? a=Fa { cls:= .type "list",data:= .seq vs.toArray } /\WellAll P h vs ds:=by
 cases x with
 |list ho PU=>exact#[_,_,Gc,ho,PU]
theorem ou {P:Params}{h:GY}(x:Well P h v (.tuple ds)): ∃(a:Fi) (vs:E9 Fh),v= .ref a/\h.get? a=Fa { cls:= .type "tuple",data:= .seq vs.toArray } /\WellAll P h vs ds:=by
 cases x with
 |tuple ho PU=>exact#[_,_,Gc,ho,PU]
theorem qc {P:Params}{h:GY}(x:WellAll P h us (d::ds)): ∃(v:Fh) (vs:E9 Fh),us=v::vs/\Well P h v d/\WellAll P h vs ds:=by
 cases x with
 |cons a b=>exact#[_,_,Gc,a,b]
theorem xL (h:n<=1048576):n<=F8:=FP h [01]
section
variable {P:Params}{h:GY}
mutual
theorem AQ: ∀(d:WData) (v:Fh),Well P h v d->xm d=FM->d.weight<=1048576-> ∃A:E9 Fi,yf A v/\ ∀a∈A,ia h A a
 | .none,_,x,_,_=>by
  cases x;exact#[[],trivial,λa m=>FH m (by simp)]
 | .bool b,_,x,_,_=>by
  cases x;exact#[[],trivial,λa m=>FH m (by simp)]
 | .int i,_,x,_,_=>by
  cases x;exact#[[],trivial,λa m=>FH m (by simp)]
 | .str s,_,x,_,_=>by
  cases x;exact#[[],trivial,λa m=>FH m (by simp)]
 | .bytes b,_,x,_,_=>by
  cases x;exact#[[],trivial,λa m=>FH m (by simp)]
 | .list ds,_,x,p,z=>by
  obtain⟨a,vs,rfl,ho,PU⟩:=pV x;have z2:WData.weightAll ds<=1048576:=z;obtain⟨A,h1,h2⟩:=jP ds _ PU p λd hd=>FP (jE hd) z2;have k: ∀b∈A,b∈a::A:=λb hb=>Fp _ hb
  refine#[a::A,Fq ..,λb hb=>?_];rcases Fy.mp hb with e|m
  .rw[e]
   exact#[vs,xL (by rw[f7 PU];exact FP (Qv ds) z2),λu hu=>(h1 u hu).mono k, .inl ho]
  .exact(h2 b m).mono k
 | .tuple ds,_,x,p,z=>by
  obtain⟨a,vs,rfl,ho,PU⟩:=ou x;have z2:WData.weightAll ds<=1048576:=z;obtain⟨A,h1,h2⟩:=jP ds _ PU p λd hd=>FP (jE hd) z2;have k: ∀b∈A,b∈a::A:=λb hb=>Fp _ hb
  refine#[a::A,Fq ..,λb hb=>?_];rcases Fy.mp hb with e|m
  .rw[e]
   exact#[vs,xL (by rw[f7 PU];exact FP (Qv ds) z2),λu hu=>(h1 u hu).mono k, .inr ho]
  .exact(h2 b m).mono k
 | .float _,_,_,p,_=>Ht (show FS=FM from p)
 | .dict _,_,_,p,_=>Ht (show FS=FM from p)
 | .bytearray _,_,_,p,_=>Ht (show FS=FM from p)
 | .set _,_,_,p,_=>Ht (show FS=FM from p)
 | .frozenset _,_,_,p,_=>Ht (show FS=FM from p)
 | .obj _ _,_,_,p,_=>Ht (show FS=FM from p)
theorem jP: ∀(ds:E9 WData) (vs:E9 Fh),WellAll P h vs ds->l0 ds=FM->(∀d∈ds,d.weight<=1048576)-> ∃A:E9 Fi,(∀u∈vs,yf A u)/\ ∀a∈A,ia h A a
 |[],_,x,_,_=>by
  cases x;exact#[[],λu m=>FH m (by simp),λa m=>FH m (by simp)]
 |d::ds,_,x,p,z=>by
  obtain⟨v,vs,rfl,x1,x2⟩:=qc x;have q:xm d=FM/\l0 ds=FM:=Kx.mp p;obtain⟨A,a1,a2⟩:=AQ d v x1 q.1 (z d (Fq ..));obtain⟨B,b1,b2⟩:=jP ds vs x2 q.2 λe he=>z e (Fp _ he);have kA: ∀b∈A,b∈A++B:=λb hb=>FY.mpr (.inl hb)
  have kB: ∀b∈B,b∈A++B:=λb hb=>FY.mpr (.inr hb)
  refine#[A++B,λu hu=>?_,λb hb=>?_]
  .rcases Fy.mp hu with e|m
   .rw[e]
    exact a1.mono kA
   .exact(b1 u m).mono kB
  .rcases FY.mp hb with m|m
   .exact(a2 b m).mono kA
   .exact(b2 b m).mono kB
end
end
def Dy (o:IW):Ft HO:=match o.data with
 | .seq vs _=>if(o.cls == MR "list")=FM then Fa (.QN o (.lst (vs.toList.map tj))) else Fa (.QN o (.tup (vs.toList.map tj)))
 |_=>FB
def gV (K:Fe) (h:GY) (A:E9 Fi):Hp:=λb=>if b∈A then(if(K.lookup b).isNone=FM then(h.get? b).bind Dy else FB) else FB
def sW (H:Hp):Prop:= ∀b,H b=FB\/ ∃o u,H b=Fa (.QN o u)
theorem sO (vs:E9 Fh):Dy { cls:= .type "list",data:= .seq vs.toArray } =Fa (.QN { cls:= .type "list",data:= .seq vs.toArray } (.lst (vs.map tj))):=by
 show(if(MR "list" == MR "list")=FM then Fa (HO.QN { cls:= .type "list",data:= .seq vs.toArray } (.lst (vs.toArray.toList.map tj))) else Fa (HO.QN { cls:= .type "list",data:= .seq vs.toArray } (.tup (vs.toArray.toList.map tj))))=_
 rw[Fm (G7 _)]
theorem tS (vs:E9 Fh):Dy { cls:= .type "tuple",data:= .seq vs.toArray } =Fa (.QN { cls:= .type "tuple",data:= .seq vs.toArray } (.tup (vs.map tj))):=by
 show(if(MR "tuple" == MR "list")=FM then Fa (HO.QN { cls:= .type "tuple",data:= .seq vs.toArray } (.lst (vs.toArray.toList.map tj))) else Fa (HO.QN { cls:= .type "tuple",data:= .seq vs.toArray } (.tup (vs.toArray.toList.map tj))))=_
 rw[Fj [01]]
section
variable {P:Ga}{w:GN}{K:Fe}{h:GY}{A:E9 Fi}
theorem mw (hb:b∈A) (hk:K.lookup b=FB) (e:h.get? b=Fa o):gV K h A b=Dy o:=by
 unfold gV;rw[Fm hb,hk,Fm (show(FB:Ft IW).isNone=FM from Gc),e]<;>rfl
theorem Er (q:gV K h A b=Fa u):b∈A/\K.lookup b=FB:=by
 unfold gV at q;by_cases hb:b∈A
 .rw[Fm hb] at q
  cases hk:K.lookup b with
  |none=>exact#[hb,Gc]
  |some o=>
   rw[hk,Fj (by simp)] at q;cases q
 .rw[Fj hb] at q
  cases q
theorem mj (ar: ∀a∈A,ia h A a) (q:gV K h A b=Fa u):K.lookup b=FB/\ ∃vs:E9 Fh,vs.length<=F8/\(∀u∈vs,yf A u)/\
  ((h.get? b=Fa { cls:= .type "list",data:= .seq vs.toArray } /\u= .QN { cls:= .type "list",data:= .seq vs.toArray } (.lst (vs.map tj)))\/
    (h.get? b=Fa { cls:= .type "tuple",data:= .seq vs.toArray } /\u= .QN { cls:= .type "tuple",data:= .seq vs.toArray } (.tup (vs.map tj)))):=by
 obtain⟨hb,hk⟩:=Er q;obtain⟨vs,h1,h2,h3⟩:=ar b hb;refine#[hk,vs,h1,h2,?_];rcases h3 with e|e
 .rw[mw hb hk e,sO] at q
  exact .inl #[e,(FG q).symm]
 .rw[mw hb hk e,tS] at q
  exact .inr #[e,(FG q).symm]
theorem yN (ar: ∀a∈A,ia h A a):sW (gV K h A):=λb=>by
 cases q:gV K h A b with
 |none=>exact .inl Gc
 |some u=>
  obtain⟨_,vs,_,_,⟨_,e⟩|⟨_,e⟩⟩:=mj ar q
  .exact .inr #[_,_,by rw[e]]
  .exact .inr #[_,_,by rw[e]]
theorem DP (ar: ∀a∈A,ia h A a):ib P w (gV K h A) h:=λb u q=>by
 obtain⟨_,vs,h1,h2,⟨e,rfl⟩|⟨e,rfl⟩⟩:=mj ar q
 .exact#[e,by rw[Fx];exact h1,vs,_,gK h2,e]
 .exact#[e,by rw[Fx];exact h1,vs,gK h2,_,e,Gc,_,Gc]
theorem mn {c c':Fh}{vs us:E9 Fh}(e:(Fa { cls:=c,data:= .seq vs.toArray } :Ft IW)=Fa { cls:=c',data:= .seq us.toArray }):c=c'/\vs=us:=by
 have e1:=FG e
 have e2:c=c':=Gq IW.cls e1
 have e3:Ur vs.toArray=Ur us.toArray:=Gq IW.data e1;injection e3 with e4;refine#[e2,?_]
 have e5:=Gq Sv e4
 simpa using e5
theorem aiY (KX:K.In h) (ar: ∀a∈A,ia h A a) {a:Fi}{vs:E9 Fh}(ha:a∈A) (e:h.get? a=Fa { cls:= .type "list",data:= .seq vs.toArray }):(∀u∈vs,yf A u)/\cB K (gV K h A) a (vs.map tj):=by
 obtain⟨us,h1,h2,h3⟩:=ar a ha;have hu:us=vs:=by
  rcases h3 with q|q
  .rw[e] at q
   exact(mn q).2.symm
  .rw[e] at q
   exact FH (Us (mn q).1) [01]
 subst hu;refine#[h2,?_];cases hk:K.lookup a with
 |none=>exact .inl (.inr #[_,by rw[mw ha hk e,sO]])
 |some o=>
  have e2:=KX a o hk;rw[e] at e2;obtain rfl:=FG e2;exact .inr #[_,us.toArray,_,hk,Gc,Gc,Gc,by rw[Gv];exact h1,by simpa using gK h2]
theorem aiZ (KX:K.In h) (ar: ∀a∈A,ia h A a) {a:Fi}{vs:E9 Fh}(ha:a∈A) (e:h.get? a=Fa { cls:= .type "tuple",data:= .seq vs.toArray }):(∀u∈vs,yf A u)/\pH K (gV K h A) a (vs.map tj):=by
 obtain⟨us,h1,h2,h3⟩:=ar a ha;have hu:us=vs:=by
  rcases h3 with q|q
  .rw[e] at q
   exact FH (Us (mn q).1) [01]
  .rw[e] at q
   exact(mn q).2.symm
 subst hu;refine#[h2,?_];cases hk:K.lookup a with
 |none=>exact .inl (.inr #[_,by rw[mw ha hk e,tS]])
 |some o=>
  have e2:=KX a o hk;rw[e] at e2;obtain rfl:=FG e2;exact .inr #[_,us.toArray,_,hk,Gc,Gc,by rw[Gv];exact h1,by simpa using gK h2]
mutual
theorem Zq {Pm:Params}(KX:K.In h) (ar: ∀a∈A,ia h A a): ∀(d:WData) (v:Fh),Well Pm h v d->xm d=FM->yf A v->Dw K (gV K h A) (tj v) d
 | .none,_,x,_,_=>by
  cases x;exact .IJ
 | .bool b,_,x,_,_=>by
  cases x;exact .bl b
 | .int i,_,x,_,_=>by
  cases x;exact .int i
 | .str s,_,x,_,_=>by
  cases x;exact .str s
 | .bytes b,_,x,_,_=>by
  cases x;have z:=Dw.Sx (K:=K) (H:=gV K h A) b.toArray;exact z
 | .list ds,_,x,p,hu=>by
  obtain⟨a,vs,rfl,ho,PU⟩:=pV x;obtain⟨h2,hs⟩:=aiY KX ar hu ho;exact .lst hs (rB KX ar ds _ PU p h2)
 | .tuple ds,_,x,p,hu=>by
  obtain⟨a,vs,rfl,ho,PU⟩:=ou x;obtain⟨h2,hs⟩:=aiZ KX ar hu ho;exact .tup hs (rB KX ar ds _ PU p h2)
 | .float _,_,_,p,_=>Ht (show FS=FM from p)
 | .dict _,_,_,p,_=>Ht (show FS=FM from p)
 | .bytearray _,_,_,p,_=>Ht (show FS=FM from p)
 | .set _,_,_,p,_=>Ht (show FS=FM from p)
 | .frozenset _,_,_,p,_=>Ht (show FS=FM from p)
 | .obj _ _,_,_,p,_=>Ht (show FS=FM from p)
theorem rB (KX:K.In h) (ar: ∀a∈A,ia h A a): ∀(ds:E9 WData) (vs:E9 Fh),WellAll Pm h vs ds->l0 ds=FM->(∀u∈vs,yf A u)->ie K (gV K h A) (vs.map tj) ds
 |[],_,x,_,_=>by
  cases x;exact .nil
 |d::ds,_,x,p,hu=>by
  obtain⟨v,vs,rfl,x1,x2⟩:=qc x;have q:xm d=FM/\l0 ds=FM:=Kx.mp p;exact .cons (Zq KX ar d v x1 q.1 (hu _ (Fq ..))) (rB KX ar ds vs x2 q.2 λu m=>hu u (Fp _ m))
end
end
theorem ye {P:Ga}{w:GN}{K:Fe}{mg mb:FR->Ft Fh}{CX:pP}{k:FC}{fa:Fi}{fd:Gs}{ps:E9 FR}{sp:Sp}{s₁:Fn}{vals:E9 Fh}{ds:E9 WData}{R:U1}{cl:FR->Ft Fi}{d0:WData}
  (KX:K.In s₁.heap) (hns:s₁.heap.Ns Jp mg) (hb:s₁.heap.Ns Y7 mb) (hbb: ∀x:FR,x≠"__name__"->mb x=K4 x) (ai0:s₁.heap.NoLimit) (hg:s₁.gens= [].toArray)
  (hwl:WellAll w.params s₁.heap vals ds) (MT:l0 ds=FM) (hwt: ∀d∈ds,d.weight<=1048576) (hr:bZ k Tc)
  (F: ∀base:GY,K.In base->base.Ns Jp mg->bU P w K mg base CX k fa fd ps sp) (abP: ∀(s:Fn) (us:E9 Fh),us.length=ps.length->Tb s fd #[us,[]] (ps.zip us)) (NF:ds.length=ps.length)
  (TR: ∀(H:Hp) (xs:E9 V),sW H->ie K H xs ds->sp xs H (λv H'=>Dw K H' v d0) λ_ _ _=>False)
  (hCX: ∀H e s',CX [] H s₁ (λ_ _ _=>False) e s'->False):
  Lq (model P w) Tc (.call (.ref fa) #[vals,[]]) (λr s'=> ∃u as,r= .ok (.ret u)/\ReadsW R cl s'.heap u d0 as/\OldK s₁.heap s'.heap/\s'.os=s₁.os/\Qb s'.gens) s₁:=by
 obtain⟨A,ho,ar⟩:=jP ds vals hwl MT hwt;have hO:sW (gV K s₁.heap A):=yN ar;have Iu:ib P w (gV K s₁.heap A) s₁.heap:=DP ar;have hS:=rB KX ar ds vals hwl MT ho;have hV:=gK ho;have hK: ∀b u,gV K s₁.heap A b=Fa u->K.lookup b=FB:=λb u q=>(mj ar q).1
 have noA: ∀ {b:Fi}{o:IW}{es:Jw Oz}{ep:FC},s₁.heap.get? b=Fa o->o.data= .dict es ep->gV K s₁.heap A b=FB:=λ{b o es ep} e d=>by
  cases q:gV K s₁.heap A b with
  |none=>rfl
  |some u=>
   obtain⟨_,vs,_,_,⟨e2,_⟩|⟨e2,_⟩⟩:=mj ar q
   .rw[e2] at e
    cases e;have d':Ur vs.toArray _=Data.dict es ep:=d;cases d'
   .rw[e2] at e
    cases e;have d':Ur vs.toArray _=Data.dict es ep:=d;cases d'
 generalize gV K s₁.heap A=H at hO Iu hS hK noA;have Uu: ∀ {b:Fi}{o:IW},s₁.heap.get? b=Fa o->H b=FB->(rg s₁.heap H).get? b=Fa o:=λe n=>Df e n
 have VA: ∀ {b:Fi}{m:FR->Ft Fh},s₁.heap.Ns b m->(rg s₁.heap H).Ns b m:=λ{b m} ⟨o,es,ep,e,d,r⟩=>#[o,es,ep,Uu e (noA e d),d,r]
 have nK: ∀b o,K.lookup b=Fa o->H b=FB:=λb o e=>by
  cases q:H b with
  |none=>rfl
  |some u=>
   rw[hK b u q] at e;cases e
 have hKb:K.In (rg s₁.heap H):=λb o e=>Uu (KX b o e) (nK b o e)
 have hM:Mod K mg (rg s₁.heap H):=#[hKb,VA hns,#[mb,VA hb,hbb],let ⟨mc,h1,h2⟩:=ai0;#[mc,VA h1,h2]]
 have e0:uD P w K mg (rg s₁.heap H) Tc [] s₁ H:=#[Gc,hM,λb o e=>EZ e,JM (xQ _ _),trivial,λb hb=>FH (show b∈([]:E9 Fi) from hb) (by simp),Iu, .of_eq hg]
 have hl:vals.length=ps.length:=by rw[f7 hwl];exact NF
 refine Nl ((F _ hKb (VA hns)).run Tc [] s₁ H #[vals,[]] vals (vals.map tj) _ _ hr e0 (abP s₁ vals hl) hV (TR H _ hO hS)) λr s' x=>?_;cases r with
 |error e=>exact(hCX H e s' x).elim
 |ok fl=>
  cases fl with
  |next=>exact IM x
  |brk=>exact IM x
  |cont=>exact IM x
  |ret u=>
   obtain⟨v,H',os,bare,un,abQ,r',q⟩:=x;have kept: ∀b o,s₁.heap.get? b=Fa o->s'.heap.get? b=Fa o:=λb o e=>by
    cases q2:H b with
    |none=>exact un.keep b o e q2 (by intro z;exact FH (show b∈([]:E9 Fi) from z) (by simp)) (by simp)
    |some u2=>
     rcases hO b with z|⟨ob,u3,z⟩
     .rw[q2] at z
      cases z
     .have z2:=un.QO b ob _ z
      obtain⟨e1,_⟩:=Iu b _ z;obtain⟨e2,_⟩:=abQ b _ z2;rw[e] at e1;cases e1;exact e2
   have KX':K.In s'.heap:=λb o e=>kept b o (KX b o e)
   obtain⟨as,hrd⟩:=Dw.reads (R:=R) (cl:=cl) abQ KX' d0 v u q r';exact#[u,as,Gc,hrd,OldK.of_keep kept,os,bare]
theorem oj (h:WData.layableAll ds=FM): ∀d∈ds,d.weight<=1048576:=λd hd=>
 (PySem.W.layableW_iff.mp (LW.mp h d hd)).2.2
theorem oK: ∀(cs:E9 Codec) (a:Codec.denoteAll cs),(Codec.encAll cs a).length=cs.length
 |[],_=>rfl
 |c::cs,a=>by
  show(Codec.encAll cs a.2).length+1=cs.length+1
  rw[oK cs a.2]
theorem xO {XP:(FR->Ft Fh)->GY->Prop}{YP:GN->GY->Prop}{K:Params->Fe}{CX:GN->pP}{sp:GN->Sp}
  (VY:r.wellSaid=FM) (hdf:d.params.defaults=[]) (NF:r.args.length=ps.length) (hr:bZ k Tc)
  (hY: ∀(w:GN) (h:GY),YP w h->(K w.params).In h)
  (F: ∀(w:GN) (mg:FR->Ft Fh) (fa:Fi) (h:GY),YP w h->(K w.params).In h->h.Ns Jp mg->mg d.name=Fa (.ref fa)->
   ∃fd:Gs,(∀(s:Fn) (us:E9 Fh),us.length=ps.length->Tb s fd #[us,[]] (ps.zip us))/\
    ∀base:GY,(K w.params).In base->base.Ns Jp mg->bU r.prog w (K w.params) mg base (CX w) k fa fd ps (sp w))
  (TR: ∀(w:GN) (H:Hp) (xs:E9 V) (a:Codec.denoteAll r.args),sW H->Codec.withinAll r.args a=FM->Codec.app r.args r.asked a=FM->ie (K w.params) H xs (Codec.encAll r.args a)->
   sp w xs H (λv H'=>Dw (K w.params) H' v (r.ret.enc (Codec.app r.args r.f a))) λ_ _ _=>False)
  (hCX: ∀(w:GN) (H:Hp) (s:Fn) (e:Fh) (s':Fn),CX w [] H s (λ_ _ _=>False) e s'->False):
  VS q loose XP YP r d [] (λf vs=>PySem.call f vs):=by
 intro w PV s₁ mg mb G Y fa o pm cd doc dV kV ho hd Sy hD hmg hg args vals as ai1 ai2 hrd hwl hlo;obtain⟨a,e1,e2⟩:=PySem.W.os_pre_some ai1;obtain⟨e3,hwi⟩:=Codec.encAll_of_decAll r.args args a e1;subst e3;have KX:=hY w _ Y;obtain⟨fd,hb,hF⟩:=F w mg fa _ Y KX G.T.g hmg;refine PySem.W.enter_call (Nl (ye (R:=[]) (cl:=classAt PV.heap) (d0:=r.ret.enc (Codec.app r.args r.f a)) KX G.T.g G.T.b G.T.builtins G.T.nolimit hg hwl (pG _ _) (oj ai2) hr hF hb (by rw[oK];exact NF)
  (λH xs hO hS=>TR w H xs a hO hwi e2 hS) λH e s'=>hCX w H s₁ e s') λr' s' hq=>?_)
 obtain⟨u,as',rfl,h1,h2,h3,h4⟩:=hq;exact#[.inl #[u,_,as',Gc,λ_=>rfl,h1,(OpenSpec.post_iff VY hwi _ _).mpr Gc,λz=>Ht (show FS=FM from z)],h2,h3,h4]
theorem vB {XP:(FR->Ft Fh)->GY->Prop}{YP:GN->GY->Prop}{K:Params->Fe}{CX:pP}{sp:Fe->Sp}
  (VY:r.wellSaid=FM) (hdf:d.params.defaults=[]) (NF:r.args.length=ps.length) (hr:bZ k Tc)
  (hY: ∀(w:GN) (h:GY),YP w h->(K w.params).In h)
  (F: ∀(w:GN) (mg:FR->Ft Fh) (fa:Fi) (h:GY),YP w h->(K w.params).In h->h.Ns Jp mg->mg d.name=Fa (.ref fa)->
   ∃fd:Gs,(∀(s:Fn) (us:E9 Fh),us.length=ps.length->Tb s fd #[us,[]] (ps.zip us))/\
    ∀base:GY,(K w.params).In base->base.Ns Jp mg->bU r.prog w (K w.params) mg base CX k fa fd ps (sp (K w.params)))
  (TR: ∀(K:Fe) (H:Hp) (xs:E9 V) (a:Codec.denoteAll r.args),sW H->Codec.withinAll r.args a=FM->Codec.app r.args r.asked a=FM->ie K H xs (Codec.encAll r.args a)->
   sp K xs H (λv H'=>Dw K H' v (r.ret.enc (Codec.app r.args r.f a))) λ_ _ _=>False)
  (hCX: ∀(H:Hp) (s:Fn) (e:Fh) (s':Fn),CX [] H s (λ_ _ _=>False) e s'->False):
  VS q loose XP YP r d [] (λf vs=>PySem.call f vs):=
 xO (K:=K) (CX:=λ_=>CX) (sp:=λw=>sp (K w.params)) VY hdf NF hr hY F (λw H xs a h1 h2 h3 h4=>TR (K w.params) H xs a h1 h2 h3 h4) λ_ H s e s'=>hCX H s e s'
end L2
end
namespace OS
open PySem
abbrev c7:E9 Fh:=[.type "Exception", .type "BaseException", .type "object"]
end OS
namespace OS
open PySem PySem.Spec L2
open PyProof.Rows hiding St
def cY:E9 FR:=["__getattribute__","__getattr__","__setattr__","number","kind","line","column"]
def XO (h:GY) (C N:Fi) (bm:E9 Fh):Prop:= ∃(nm q:FR) (bs:E9 Fh) (sn:E9 FR) (sub:E9 Fh) (ab:Gu) (col:Ft Gu) (dd:Ft Fi) (k0 k1 k2 k3 k5:Ft Fh),h.get? C=Fa (Ir nm q C N bs bm FM sn sub ab col dd k0 k1 k2 k3 k5 "Exception.__new__")
def XAt (h:GY) (R C fI:Fi):Prop:= ∃(N:Fi) (mN:FR->Ft Fh) (oI:IW) (NR:Fi) (mR:FR->Ft Fh),XO h C N (.ref R::c7)/\h.Ns N mN/\mN "__init__"=Fa (.ref fI)/\(∀n∈cY,mN n=FB)/\h.get? fI=Fa oI/\oI.cls= .type "function"/\
 XO h R NR c7/\h.Ns NR mR/\ ∀n∈cY,mR n=FB
structure dD (K:Fe) (R C fI:Fi):Prop where
 at_: ∀h:GY,K.In h->XAt h R C fI
 kp:IF K (.ref C)=FM
end OS
namespace OS
open Vbemac
open PySem (Str)
def sb (w:Gm):FR:=#[(w.map Nk).toArray]
def Zr:FR:=#[[47,114,101,115,116].toArray]
def dI (s:Gm):FR:=if s=[37] then Zr else sb s
end OS
namespace OS
open PySem PySem.Spec L2
open PyProof.Rows hiding St
def ph (K:Fe) (a:Fi) (xs:E9 V):Prop:= ∃(o:IW) (HD:Jw Fh) (n:FC),K.lookup a=Fa o/\o.cls= .type "tuple"/\o.data= .seq HD n/\HD.size<=F8/\aX xs HD.toList
structure zM (P:Ga) (w:GN) (K:Fe) (a:Fi) (aD:E9 (E9 a8×V)):Prop where
 at_: ∃xs:E9 (E9 a8×Fi×Fh),(∀h:GY,K.In h->h.DictOfH (NI (aU P w)) a xs)/\Paired (λ(p:E9 a8×V) (q:E9 a8×Fi×Fh)=>p.1=q.1/\bh p.2 q.2.2) aD xs
 no:(a == IC)=FS
structure yn (K:Fe) (C:Fi):Prop where
 cl:gM K C
 ha:HS K (.ref C) "__class__"=Fa (Fa (.builtin "object.__class__"))
 hn:Pb K (.builtin "object.__class__") "__get__"=Fa (Fa (.builtin "getset_descriptor.__get__"))
 htk:Vu K (.builtin "object.__class__")=Fa FM
 hm:WB K C (.type "object")=Fa FM
def tp (i:FC):Stmt:=PySem.Challenge.pw_ordersheets_s07_same.main.body.getD i (.Pass #[0,0,0,0])
abbrev abR:Stmt:=aB (tp 4) 0
abbrev abS:Stmt:=aB (tp 5) 0
abbrev abT:Stmt:=aB (tp 6) 0
abbrev abU:Stmt:=aB (tp 7) 0
abbrev abV:Stmt:=aB (tp 8) 0
abbrev abW:Stmt:=aB (tp 9) 0
abbrev abX:Stmt:=aB (tp 10) 0
abbrev abY:Stmt:=aB (tp 11) 0
abbrev abZ:Stmt:=aB (tp 12) 0
abbrev ab0:Stmt:=aB (tp 13) 0
abbrev ab1:Stmt:=aB (tp 14) 0
abbrev ab2:Stmt:=aB (tp 15) 0
abbrev ab3:Stmt:=aB (tp 16) 0
abbrev ab4:Stmt:=aB (tp 17) 0
abbrev ab5:Stmt:=aB (tp 18) 0
abbrev ab6:Stmt:=aB (tp 19) 0
abbrev ab7:Stmt:=aB (tp 23) 0
abbrev ab8:Stmt:=aB (tp 24) 0
abbrev s_M:Stmt:=tp 25
abbrev s_N:Stmt:=tp 26
abbrev s_o:Stmt:=aB (tp 28) 0
abbrev ab9:Stmt:=aB (tp 29) 0
abbrev s_5:Stmt:=aB (tp 30) 0
abbrev s_O:Stmt:=aB (tp 31) 0
abbrev s_P:Stmt:=aB (tp 32) 0
abbrev aca:Stmt:=aB (tp 33) 0
abbrev acb:Stmt:=aB (tp 34) 0
abbrev acd:Stmt:=aB (tp 35) 0
abbrev ace:Stmt:=aB (tp 36) 0
abbrev s_Q:Stmt:=tp 39
abbrev s_R:Stmt:=tp 40
abbrev s_S:Stmt:=tp 41
abbrev acf:Stmt:=tp 42
abbrev acg:Stmt:=tp 43
abbrev ach:Stmt:=tp 44
abbrev s_T:Stmt:=tp 45
abbrev aci:Stmt:=aB (tp 48) 0
abbrev acj:Stmt:=aB (tp 49) 0
abbrev ack:Stmt:=aB (tp 49) 1
abbrev acm:Stmt:=aB (tp 49) 2
abbrev acn:Stmt:=aB (tp 49) 3
abbrev aco:Stmt:=aB (tp 49) 4
abbrev acp:Stmt:=aB (tp 49) 5
abbrev acq:Stmt:=aB (tp 49) 6
abbrev s_6:Stmt:=tp 50
abbrev s_7:Stmt:=tp 51
abbrev s_8:Stmt:=tp 52
abbrev s_9:Stmt:=tp 53
abbrev acr:Stmt:=tp 54
abbrev acs:Stmt:=tp 55
abbrev acu:Stmt:=tp 56
abbrev s_y:Stmt:=tp 57
abbrev acv:Stmt:=tp 58
abbrev acw:Stmt:=tp 59
abbrev acx:Stmt:=tp 60
abbrev acy:Stmt:=aB (tp 66) 0
abbrev acz:Stmt:=aB (tp 67) 0
abbrev s_U:Stmt:=tp 68
abbrev acA:Stmt:=tp 69
abbrev s_z:Stmt:=tp 70
abbrev s_k:Stmt:=tp 71
abbrev s_V:Stmt:=tp 72
abbrev s_A:Stmt:=tp 73
abbrev s_E:Stmt:=tp 74
abbrev acB:Stmt:=tp 75
abbrev acC:Stmt:=tp 76
abbrev s_W:Stmt:=tp 77
abbrev acD:Stmt:=tp 78
abbrev s_F:Stmt:=tp 79
abbrev acE:Stmt:=tp 80
abbrev acF:Stmt:=tp 81
abbrev s_G:Stmt:=aB (tp 95) 0
abbrev s_e:Stmt:=tp 96
abbrev s_h:Stmt:=tp 97
abbrev s_H:Stmt:=tp 98
abbrev s_I:Stmt:=tp 99
abbrev s_J:Stmt:=tp 100
abbrev s_K:Stmt:=tp 101
abbrev s_L:Stmt:=tp 102
abbrev s_r:Stmt:=tp 103
abbrev s_s:Stmt:=tp 104
abbrev s_i:Stmt:=tp 105
abbrev acG:Stmt:=aB (tp 116) 0
abbrev s_a:Stmt:=aB (tp 116) 1
abbrev s_c:Stmt:=aB (tp 116) 2
abbrev s_p:Stmt:=aB (tp 116) 3
abbrev acH:Stmt:=aB (tp 116) 4
abbrev acI:Stmt:=aB (tp 116) 5
abbrev s_X:Stmt:=aB (tp 116) 6
abbrev acJ:Stmt:=aB (tp 116) 7
abbrev s_t:Stmt:=aB (tp 116) 8
abbrev acK:Stmt:=aB (tp 116) 9
abbrev acL:Stmt:=aB (tp 116) 10
abbrev s_B:Stmt:=aB (tp 116) 11
abbrev acM:Stmt:=aB (tp 116) 12
abbrev acN:Stmt:=aB (tp 116) 13
abbrev acO:Stmt:=aB (tp 116) 14
abbrev acP:Stmt:=aB (tp 116) 15
abbrev s_f:Stmt:=tp 120
abbrev s_d:Stmt:=tp 121
abbrev acQ:Stmt:=tp 122
abbrev s_u:Stmt:=tp 123
abbrev s_l:Stmt:=tp 124
abbrev acR:Stmt:=tp 125
abbrev acS:Stmt:=tp 126
abbrev acT:Stmt:=tp 127
abbrev s_Y:Stmt:=tp 128
abbrev acU:Stmt:=tp 129
abbrev s_j:Stmt:=tp 134
abbrev acV:Stmt:=tp 135
abbrev acW:Stmt:=tp 136
abbrev s_q:Stmt:=tp 137
abbrev acX:Stmt:=tp 138
abbrev acY:Stmt:=tp 139
abbrev acZ:Stmt:=tp 140
abbrev ac0:Stmt:=tp 141
abbrev s_m:Stmt:=tp 142
abbrev ac1:Stmt:=tp 143
abbrev s_Z:Stmt:=tp 144
abbrev ac2:Stmt:=tp 145
abbrev ac3:Stmt:=tp 146
abbrev ac4:Stmt:=tp 147
abbrev ac5:Stmt:=tp 148
abbrev s_n:Stmt:=tp 149
abbrev s_C:Stmt:=tp 150
abbrev s_1:Stmt:=tp 151
abbrev s_2:Stmt:=tp 152
abbrev ac6:Stmt:=tp 153
abbrev ac7:Stmt:=tp 154
abbrev s_w:Stmt:=tp 160
abbrev s_3:Stmt:=tp 161
abbrev ac8:Stmt:=tp 162
abbrev s_g:Stmt:=tp 163
abbrev s_4:Stmt:=tp 164
abbrev s_x:Stmt:=tp 165
abbrev s_D:Stmt:=tp 166
abbrev s_b:Stmt:=tp 167
set_option genInjectivity false in
structure bf where
 (ac9 ada adb ade adf adg adh adi adj adk adl adm adn ado adp adq ads adt f_M f_N f_o Zs f_5 f_O f_P Zu Zv Zw Zy f_Q f_R f_S ai3 ai4 ai5 f_T adu adv ai6 ai7 ai8 ai9 aja ajb f_6 f_7 f_8 f_9 adw adx ajc f_y ady adz adA adB adC f_U ajd f_z f_k f_V f_A f_E aje ajf f_W ajg f_F ajh aji f_G f_e f_h f_H f_I f_J f_K f_L f_r f_s f_i adD f_a f_c f_p ajj ajk f_X ajl f_t ajm ajn f_B ajo ajp ajq ajr f_f f_d ajs f_u f_l ajt aju ajv f_Y ajw f_j ajx ajy f_q ajz ajA ajB ajC f_m ajD f_Z ajE ajF ajG ajH f_n f_C f_1 f_2 ajI ajJ f_w f_3 ajK f_g f_4 f_x f_D f_b LP Ob NO KP JO Km Oc LQ Nr QA KY K3 JF Mr OI NP Hz HB Hg LR HM JB KZ Ku Kv JC LF My HC J7 Gr Jm GA SA J4 Qi Hh Il:Fi)
 (adE adF adG adH adI adJ adK adL adM adN adO adP adQ adR adS adT adU adV ajL ajM ajN adW ajO ajP ajQ adX adY adZ ad0 ajR ajS ajT ad1 ad2 ad3 ajU ad4 ad5 ad6 ad7 ad8 ad9 aea aeb aec aed aee aef X0 X2 aeg ajV X3 X4 X5 aeh aei ajW aej ajX ajY ajZ aj0 aj1 aek ael aj2 aem aj3 aen aeo aj4 aj5 aj6 aj7 aj8 aj9 aka akb akc akd ake aep akf akg akh aeq aer aki aes akj aet aeu akk aev aew aex aey akl aez aeA akm akn aeB aeC aeD ako aeE akp aeF aeG akq aeH aeI aeJ aeK akr aeL aeM aeN aeO aeP aeQ aks akt aeR aeS aeT aeU aku akv aeV akw akx aky akz VZ:Gs)
structure cD (K:Fe) (mg:FR->Ft Fh) (n:FR) (st:Stmt) (ps:E9 FR) (f:Fi) (fd:Gs):Prop where
 F:oX K n n st f fd
 c:CD K mg n f fd ps
structure eG (K:Fe) (C:Fi) (n q:FR) (st:Stmt) (ps:E9 FR) (f:Fi) (fd:Gs):Prop where
 F:oX K n q st f fd
 c:MD K C n f fd ps
structure aW (K:Fe) (mg:FR->Ft Fh) (a:bf):Prop where
 Ru:mg "Number"=Fa (.ref a.LP)
 Uv:mg "Name"=Fa (.ref a.Ob)
 Uw:mg "Call"=Fa (.ref a.NO)
 SD:mg "Unary"=Fa (.ref a.KP)
 SE:mg "Chain"=Fa (.ref a.JO)
 Rv:mg "Choice"=Fa (.ref a.Km)
 Zz:mg "Sum"=Fa (.ref a.Oc)
 TU:mg "Let"=Fa (.ref a.LQ)
 V1:mg "For"=Fa (.ref a.Nr)
 X6:mg "If"=Fa (.ref a.QA)
 Ux:mg "Step"=Fa (.ref a.KY)
 TV:mg "Amounts"=Fa (.ref a.K3)
 V2:mg "Block"=Fa (.ref a.JF)
 SG:mg "Const"=Fa (.ref a.Mr)
 V3:mg "Fun"=Fa (.ref a.OI)
 Uy:mg "Desk"=Fa (.ref a.NP)
 Pf:mg "StepOrder"=Fa (.ref a.Hz)
 Rf:mg "BlockOrder"=Fa (.ref a.HB)
 HU:mg "Refusal"=Fa (.ref a.Hg)
 Pg:mg "NotAsTold"=Fa (.ref a.LR)
 QP:mg "Fault"=Fa (.ref a.HM)
 Nt:mg "DivisorIsZero"=Fa (.ref a.JB)
 Qj:mg "TooGreat"=Fa (.ref a.KZ)
 OJ:mg "NoStepLeft"=Fa (.ref a.Ku)
 OK:mg "OutOfRange"=Fa (.ref a.Kv)
 Nu:mg "TooManyOrders"=Fa (.ref a.JC)
 Qk:mg "NoParent"=Fa (.ref a.LF)
 W0:mg "Task"=Fa (.ref a.My)
 U6:mg "Worker"=Fa (.ref a.HC)
 U7:mg "Market"=Fa (.ref a.J7)
 RK:mg "Expansion"=Fa (.ref a.Gr)
 SH:mg "Token"=Fa (.ref a.Jm)
 U8:mg "Reader"=Fa (.ref a.GA)
 aeW:eG K a.LP "__init__" "Number.__init__" abR ["self","worth"] a.ac9 a.adE
 aeX:eG K a.Ob "__init__" "Name.__init__" abS ["self","name"] a.ada a.adF
 aeY:eG K a.NO "__init__" "Call.__init__" abT ["self","name","arguments"] a.adb a.adG
 aeZ:eG K a.KP "__init__" "Unary.__init__" abU ["self","sign","operand"] a.ade a.adH
 ae0:eG K a.JO "__init__" "Chain.__init__" abV ["self","strength","operands","signs"] a.adf a.adI
 ae1:eG K a.Km "__init__" "Choice.__init__" abW ["self","condition","chosen","otherwise"] a.adg a.adJ
 ae2:eG K a.Oc "__init__" "Sum.__init__" abX ["self","name","first","last","body"] a.adh a.adK
 ae3:eG K a.LQ "__init__" "Let.__init__" abY ["self","name","exp"] a.adi a.adL
 ae4:eG K a.Nr "__init__" "For.__init__" abZ ["self","name","first","last","statements"] a.adj a.adM
 ae5:eG K a.QA "__init__" "If.__init__" ab0 ["self","condition","statements","else_statements"] a.adk a.adN
 ae6:eG K a.KY "__init__" "Step.__init__" ab1 ["self","side","zone","quarter","price","to_price","amount"] a.adl a.adO
 ae7:eG K a.K3 "__init__" "Amounts.__init__" ab2 ["self","name","exp"] a.adm a.adP
 ae8:eG K a.JF "__init__" "Block.__init__" ab3 ["self","name","side","zone","price","amounts","under","group"] a.adn a.adQ
 ae9:eG K a.Mr "__init__" "Const.__init__" ab4 ["self","name","exp"] a.ado a.adR
 afa:eG K a.OI "__init__" "Fun.__init__" ab5 ["self","name","parameters","exp"] a.adp a.adS
 afb:eG K a.NP "__init__" "Desk.__init__" ab6 ["self","name","statements"] a.adq a.adT
 afc:eG K a.Hz "__init__" "StepOrder.__init__" ab7 ["self","desk","zone","quarter","side","low","high","amount"] a.ads a.adU
 afd:eG K a.HB "__init__" "BlockOrder.__init__" ab8 ["self","desk","zone","side","price","group","parent","amounts"] a.adt a.adV
 d_M:cD K mg "side_number" s_M ["word"] a.f_M a.ajL
 d_N:cD K mg "order_numbers" s_N ["order"] a.f_N a.ajM
 WE:eG K a.Hg "__init__" "Refusal.__init__" s_o ["self","number"] a.f_o a.ajN
 ZA:eG K a.LR "__init__" "NotAsTold.__init__" ab9 ["self"] a.Zs a.adW
 d_5:eG K a.HM "__init__" "Fault.__init__" s_5 ["self","kind","line","column"] a.f_5 a.ajO
 d_O:eG K a.JB "__init__" "DivisorIsZero.__init__" s_O ["self"] a.f_O a.ajP
 d_P:eG K a.KZ "__init__" "TooGreat.__init__" s_P ["self"] a.f_P a.ajQ
 ZC:eG K a.Ku "__init__" "NoStepLeft.__init__" aca ["self"] a.Zu a.adX
 ZD:eG K a.Kv "__init__" "OutOfRange.__init__" acb ["self"] a.Zv a.adY
 ZE:eG K a.JC "__init__" "TooManyOrders.__init__" acd ["self"] a.Zw a.adZ
 ZF:eG K a.LF "__init__" "NoParent.__init__" ace ["self"] a.Zy a.ad0
 d_Q:cD K mg "has_result" s_Q ["sign","right"] a.f_Q a.ajR
 d_R:cD K mg "sign_result" s_R ["sign","left","right"] a.f_R a.ajS
 d_S:cD K mg "is_so" s_S ["sign","left","right"] a.f_S a.ajT
 ZG:cD K mg "unary_result" acf ["sign","number"] a.ai3 a.ad1
 ZH:cD K mg "function_result" acg ["name","numbers"] a.ai4 a.ad2
 ZI:cD K mg "decides" ach ["strength","number"] a.ai5 a.ad3
 d_T:cD K mg "decided_value" s_T ["strength"] a.f_T a.ajU
 ZJ:eG K a.My "__init__" "Task.__init__" aci ["self","exp"] a.adu a.ad4
 ZK:eG K a.HC "__init__" "Worker.__init__" acj ["self"] a.adv a.ad5
 V4:eG K a.HC "take_step" "Worker.take_step" ack ["self"] a.ai6 a.ad6
 W3:eG K a.HC "set_value" "Worker.set_value" acm ["self","name","value"] a.ai7 a.ad7
 ZL:eG K a.HC "value_of" "Worker.value_of" acn ["self","name"] a.ai8 a.ad8
 W4:eG K a.HC "begin" "Worker.begin" aco ["self","exp"] a.ai9 a.ad9
 ZM:eG K a.HC "finish" "Worker.finish" acp ["self","value"] a.aja a.aea
 ZN:eG K a.HC "work_out" "Worker.work_out" acq ["self","exp"] a.ajb a.aeb
 d_6:cD K mg "go_on" s_6 ["worker","exp","parts"] a.f_6 a.aec
 d_7:cD K mg "go_on_call" s_7 ["worker","call","parts"] a.f_7 a.aed
 d_8:cD K mg "go_on_unary" s_8 ["worker","unary","parts"] a.f_8 a.aee
 d_9:cD K mg "go_on_chain" s_9 ["worker","chain","parts"] a.f_9 a.aef
 afe:cD K mg "go_on_deciding" acr ["worker","chain","parts"] a.adw a.X0
 aff:cD K mg "go_on_reckoning" acs ["worker","chain","parts"] a.adx a.X2
 ZO:cD K mg "checked_result" acu ["sign","left","right"] a.ajc a.aeg
 d_y:cD K mg "not_too_great" s_y ["value"] a.f_y a.ajV
 afg:cD K mg "go_on_choice" acv ["worker","choice","parts"] a.ady a.X3
 afh:cD K mg "go_on_sum" acw ["worker","summed","parts"] a.adz a.X4
 afi:cD K mg "go_on_turns" acx ["worker","summed","parts"] a.adA a.X5
 afj:eG K a.J7 "__init__" "Market.__init__" acy ["self","zones","quarters","low","high"] a.adB a.aeh
 ZP:eG K a.Gr "__init__" "Expansion.__init__" acz ["self","market"] a.adC a.aei
 d_U:cD K mg "expand_tops" s_U ["market","tops"] a.f_U a.ajW
 ZQ:cD K mg "do_top" acA ["expansion","top"] a.ajd a.aej
 d_z:cD K mg "give_value" s_z ["worker","given"] a.f_z a.ajX
 W5:cD K mg "do_statements" s_k ["expansion","statements"] a.f_k a.ajY
 d_V:cD K mg "do_statement" s_V ["expansion","statement"] a.f_V a.ajZ
 d_A:cD K mg "do_for" s_A ["expansion","loop"] a.f_A a.aj0
 d_E:cD K mg "do_if" s_E ["expansion","condition"] a.f_E a.aj1
 ZR:cD K mg "need_range" acB ["number","least","most"] a.aje a.aek
 ZT:cD K mg "do_step" acC ["expansion","step"] a.ajf a.ael
 d_W:cD K mg "add_order" s_W ["expansion","order"] a.f_W a.aj2
 ZU:cD K mg "do_block" acD ["expansion","block"] a.ajg a.aem
 d_F:cD K mg "work_out_amounts" s_F ["expansion","amounts"] a.f_F a.aj3
 ZV:cD K mg "parent_of" acE ["expansion","block"] a.ajh a.aen
 ZW:cD K mg "add_block" acF ["expansion","name","order"] a.aji a.aeo
 d_G:eG K a.Jm "__init__" "Token.__init__" s_G ["self","kind","value","line","column"] a.f_G a.aj4
 d_e:cD K mg "is_digit" s_e ["byte"] a.f_e a.aj5
 d_h:cD K mg "is_letter" s_h ["byte"] a.f_h a.aj6
 d_H:cD K mg "comment_end" s_H ["text","at"] a.f_H a.aj7
 d_I:cD K mg "word_end" s_I ["text","at"] a.f_I a.aj8
 d_J:cD K mg "digits_end" s_J ["text","at"] a.f_J a.aj9
 d_K:cD K mg "token_end" s_K ["text","at"] a.f_K a.aka
 d_L:cD K mg "token_kind" s_L ["text","at","end"] a.f_L a.akb
 d_r:cD K mg "decimal_worth" s_r ["part"] a.f_r a.akc
 d_s:cD K mg "token_value" s_s ["kind","part"] a.f_s a.akd
 d_i:cD K mg "scan_text" s_i ["text"] a.f_i a.ake
 ZX:eG K a.GA "__init__" "Reader.__init__" acG ["self","tokens"] a.adD a.aep
 V5:eG K a.GA "current" "Reader.current" s_a ["self"] a.f_a a.akf
 V6:eG K a.GA "fail" "Reader.fail" s_c ["self","kind"] a.f_c a.akg
 d_p:eG K a.GA "sees" "Reader.sees" s_p ["self","value"] a.f_p a.akh
 ZY:eG K a.GA "at_end" "Reader.at_end" acH ["self"] a.ajj a.aeq
 ZZ:eG K a.GA "at_number" "Reader.at_number" acI ["self"] a.ajk a.aer
 d_X:eG K a.GA "at_name" "Reader.at_name" s_X ["self"] a.f_X a.aki
 Z0:eG K a.GA "number_follows" "Reader.number_follows" acJ ["self"] a.ajl a.aes
 d_t:eG K a.GA "take" "Reader.take" s_t ["self"] a.f_t a.akj
 Z1:eG K a.GA "expect" "Reader.expect" acK ["self","value"] a.ajm a.aet
 Z3:eG K a.GA "skips" "Reader.skips" acL ["self","value"] a.ajn a.aeu
 d_B:eG K a.GA "need_name" "Reader.need_name" s_B ["self"] a.f_B a.akk
 Z4:eG K a.GA "take_free_name" "Reader.take_free_name" acM ["self"] a.ajo a.aev
 Z5:eG K a.GA "take_name_not_in" "Reader.take_name_not_in" acN ["self","given"] a.ajp a.aew
 Z6:eG K a.GA "learn" "Reader.learn" acO ["self","name"] a.ajq a.aex
 W6:eG K a.GA "forget" "Reader.forget" acP ["self","name"] a.ajr a.aey
 d_f:cD K mg "deeper" s_f ["reader","depth"] a.f_f a.akl
 SI:cD K mg "read_exp" s_d ["reader","depth"] a.f_d a.aez
 W7:cD K mg "read_choice" acQ ["reader","depth"] a.ajs a.aeA
 X7:cD K mg "read_chain" s_u ["reader","depth","strength"] a.f_u a.akm
 WG:cD K mg "read_unary" s_l ["reader","depth"] a.f_l a.akn
 W8:cD K mg "read_primary" acR ["reader","depth"] a.ajt a.aeB
 W9:cD K mg "read_brackets" acS ["reader","depth"] a.aju a.aeC
 Xa:cD K mg "read_sum" acT ["reader","depth"] a.ajv a.aeD
 d_Y:cD K mg "read_call" s_Y ["reader","depth"] a.f_Y a.ako
 Z7:cD K mg "refuse_here" acU ["reader","sign"] a.ajw a.aeE
 d_j:cD K mg "read_sheet" s_j ["text"] a.f_j a.akp
 Xb:cD K mg "read_top" acV ["reader"] a.ajx a.aeF
 Xc:cD K mg "read_const" acW ["reader"] a.ajy a.aeG
 X8:cD K mg "read_given" s_q ["reader"] a.f_q a.akq
 Xd:cD K mg "read_fun" acX ["reader"] a.ajz a.aeH
 Z8:cD K mg "read_parameters" acY ["reader","function"] a.ajA a.aeI
 Z9:cD K mg "read_parameter" acZ ["reader","function"] a.ajB a.aeJ
 Xe:cD K mg "read_desk" ac0 ["reader"] a.ajC a.aeK
 WH:cD K mg "read_braces" s_m ["reader","depth"] a.f_m a.akr
 Xf:cD K mg "read_statement" ac1 ["reader","depth"] a.ajD a.aeL
 d_Z:cD K mg "read_let" s_Z ["reader"] a.f_Z a.aeM
 aaa:cD K mg "deeper_braces" ac2 ["reader","depth"] a.ajE a.aeN
 Xg:cD K mg "read_for" ac3 ["reader","depth"] a.ajF a.aeO
 Xh:cD K mg "read_if" ac4 ["reader","depth"] a.ajG a.aeP
 aab:cD K mg "read_side" ac5 ["reader"] a.ajH a.aeQ
 Xi:cD K mg "read_part" s_n ["reader","word"] a.f_n a.aks
 d_C:cD K mg "read_part_if_there" s_C ["reader","word"] a.f_C a.akt
 d_1:cD K mg "read_step" s_1 ["reader"] a.f_1 a.aeR
 d_2:cD K mg "read_block" s_2 ["reader"] a.f_2 a.aeS
 Xj:cD K mg "read_amounts" ac6 ["reader"] a.ajI a.aeT
 aac:cD K mg "read_under_name" ac7 ["reader"] a.ajJ a.aeU
 d_w:cD K mg "is_text" s_w ["text"] a.f_w a.aku
 d_3:cD K mg "is_price" s_3 ["price"] a.f_3 a.akv
 aad:cD K mg "is_market" ac8 ["zones","quarters","low","high"] a.ajK a.aeV
 d_g:cD K mg "need" s_g ["as_told"] a.f_g a.akw
 d_4:cD K mg "expanded" s_4 ["zones","quarters","low","high","text"] a.f_4 a.akx
 d_x:cD K mg "order_rows" s_x ["expansion"] a.f_x a.aky
 d_D:cD K mg "row" s_D ["numbers"] a.f_D a.akz
 d_b:cD K mg "same" s_b ["zones","quarters","low","high","text","other"] a.f_b a.VZ
 PX:gM K a.LP
 U9:Mk K a.LP a.ac9
 NX:ao K a.LP "worth"
 RL:gM K a.Ob
 Xk:Mk K a.Ob a.ada
 Ph:ao K a.Ob "name"
 QG:gM K a.NO
 Xl:Mk K a.NO a.adb
 Pj:ao K a.NO "name"
 MW:ao K a.NO "arguments"
 Pk:gM K a.KP
 V7:Mk K a.KP a.ade
 OL:ao K a.KP "sign"
 Nv:ao K a.KP "operand"
 Nw:gM K a.JO
 V8:Mk K a.JO a.adf
 Ld:ao K a.JO "strength"
 MX:ao K a.JO "operands"
 Od:ao K a.JO "signs"
 PY:gM K a.Km
 Va:Mk K a.Km a.adg
 Mh:ao K a.Km "condition"
 Ny:ao K a.Km "chosen"
 Mi:ao K a.Km "otherwise"
 PZ:gM K a.Oc
 aae:Mk K a.Oc a.adh
 Ql:ao K a.Oc "name"
 Pl:ao K a.Oc "first"
 Qm:ao K a.Oc "last"
 Qn:ao K a.Oc "body"
 RM:gM K a.LQ
 aaf:Mk K a.LQ a.adi
 Oe:ao K a.LQ "name"
 QQ:ao K a.LQ "exp"
 P0:gM K a.Nr
 aag:Mk K a.Nr a.adj
 Qp:ao K a.Nr "name"
 Pn:ao K a.Nr "first"
 Qq:ao K a.Nr "last"
 MY:ao K a.Nr "statements"
 SJ:gM K a.QA
 afk:Mk K a.QA a.adk
 NY:ao K a.QA "condition"
 Nz:ao K a.QA "statements"
 Lu:ao K a.QA "else_statements"
 Ms:gM K a.KY
 Xm:Mk K a.KY a.adl
 Pp:ao K a.KY "side"
 Pq:ao K a.KY "zone"
 NZ:ao K a.KY "quarter"
 OM:ao K a.KY "price"
 LG:ao K a.KY "to_price"
 Of:ao K a.KY "amount"
 OV:gM K a.K3
 TX:Mk K a.K3 a.adm
 N0:ao K a.K3 "name"
 Og:ao K a.K3 "exp"
 KI:gM K a.JF
 V9:Mk K a.JF a.adn
 ON:ao K a.JF "name"
 OO:ao K a.JF "side"
 OP:ao K a.JF "zone"
 Oh:ao K a.JF "price"
 NA:ao K a.JF "amounts"
 Oi:ao K a.JF "under"
 Mz:ao K a.JF "group"
 QR:gM K a.Mr
 Wa:Mk K a.Mr a.ado
 OQ:ao K a.Mr "name"
 Pu:ao K a.Mr "exp"
 QS:gM K a.OI
 aah:Mk K a.OI a.adp
 Qr:ao K a.OI "name"
 MZ:ao K a.OI "parameters"
 QT:ao K a.OI "exp"
 RN:gM K a.NP
 Xn:Mk K a.NP a.adq
 RO:ao K a.NP "name"
 MA:ao K a.NP "statements"
 NQ:gM K a.Hz
 RP:Mk K a.Hz a.ads
 M0:ao K a.Hz "desk"
 M3:ao K a.Hz "zone"
 LS:ao K a.Hz "quarter"
 M4:ao K a.Hz "side"
 NC:ao K a.Hz "low"
 M5:ao K a.Hz "high"
 Mj:ao K a.Hz "amount"
 Ng:gM K a.HB
 Rg:Mk K a.HB a.adt
 MB:ao K a.HB "desk"
 MC:ao K a.HB "zone"
 ME:ao K a.HB "side"
 Ml:ao K a.HB "price"
 Mm:ao K a.HB "group"
 LU:ao K a.HB "parent"
 Lw:ao K a.HB "amounts"
 Pw:gM K a.My
 Xo:Mk K a.My a.adu
 Qs:ao K a.My "exp"
 Nh:ao K a.My "parts"
 Ih:gM K a.HC
 Vb:Mk K a.HC a.adv
 L6:ao K a.HC "taken"
 Ky:ao K a.HC "functions"
 JQ:ao K a.HC "scopes"
 IS:ao K a.HC "tasks"
 LH:ao K a.HC "result"
 Rw:gM K a.J7
 Vc:Mk K a.J7 a.adB
 L7:ao K a.J7 "zones"
 K0:ao K a.J7 "quarters"
 Ni:ao K a.J7 "low"
 Lf:ao K a.J7 "high"
 HI:gM K a.Gr
 RQ:Mk K a.Gr a.adC
 Mn:ao K a.Gr "market"
 Mo:ao K a.Gr "worker"
 JP:ao K a.Gr "orders"
 Lg:ao K a.Gr "desk"
 J5:ao K a.Gr "named"
 II:gM K a.Jm
 SK:Mk K a.Jm a.f_G
 Kb:ao K a.Jm "kind"
 Jv:ao K a.Jm "value"
 Nj:ao K a.Jm "line"
 L8:ao K a.Jm "column"
 F9:gM K a.GA
 Vd:Mk K a.GA a.adD
 LI:ao K a.GA "tokens"
 Kw:ao K a.GA "at"
 J8:ao K a.GA "known"
 IK:ao K a.GA "functions"
 L9:ao K a.GA "desks"
 JR:ao K a.GA "blocks"
 Wb: ∃t,mg "EITHER"=Fa (.int 0 t)
 TY: ∃t,mg "BOTH"=Fa (.int 1 t)
 RR: ∃t,mg "COMPARISON"=Fa (.int 2 t)
 Xp: ∃t,mg "SELLS"=Fa (.int 0 t)
 aai: ∃t,mg "BUYS"=Fa (.int 1 t)
 TZ: ∃t,mg "GREATEST"=Fa (.int 1000000000000000000 t)
 RT: ∃t,mg "MOST_STEPS"=Fa (.int 10000 t)
 Rh: ∃t,mg "MOST_ORDERS"=Fa (.int 48 t)
 OR: ∃t,mg "MOST_AMOUNT"=Fa (.int 1000000000 t)
 Ri: ∃t,mg "MOST_SPREAD"=Fa (.int 10000 t)
 RU: ∃t,mg "MOST_GROUP"=Fa (.int 9 t)
 T1: ∃t,mg "WORD"=Fa (.int 0 t)
 Px: ∃t,mg "NUMBER"=Fa (.int 1 t)
 Wc: ∃t,mg "SIGN"=Fa (.int 2 t)
 X9: ∃t,mg "END"=Fa (.int 3 t)
 Py: ∃t,mg "WRONG"=Fa (.int 4 t)
 QU: ∃t,mg "LONGEST_WORD"=Fa (.int 24 t)
 P1: ∃t,mg "LONGEST_NUMBER"=Fa (.int 18 t)
 Qt: ∃t,mg "LINE_FEED"=Fa (.int 10 t)
 Ve: ∃t,mg "COMMENT"=Fa (.int 35 t)
 Wd:mg "BLANKS"=Fa (.ref a.SA)
 RV:mg "SIGNS"=Fa (.ref a.J4)
 T3: ∃t,mg "SPELLING"=Fa (.str "0123456789:;<=>?@ABCDEFGHIJKLMNOPQRSTUVWXYZ[\\]^_`abcdefghijklmnopqrstuvwxyz" t)
 Rj: ∃t,mg "WRONG_TOKEN"=Fa (.int 1 t)
 OW: ∃t,mg "NOT_HERE"=Fa (.int 2 t)
 Qu: ∃t,mg "NOT_KNOWN"=Fa (.int 3 t)
 OX: ∃t,mg "NOT_FREE"=Fa (.int 4 t)
 SM: ∃t,mg "ARGUMENTS"=Fa (.int 5 t)
 QV: ∃t,mg "TOO_DEEP"=Fa (.int 6 t)
 QW: ∃t,mg "TOO_MANY"=Fa (.int 7 t)
 SN:mg "KEY_WORDS"=Fa (.ref a.Qi)
 M6:mg "FIRST_FUNCTIONS"=Fa (.ref a.Hh)
 Rk: ∃t,mg "MOST_LEVELS"=Fa (.int 12 t)
 OT:mg "CHAIN_SIGNS"=Fa (.ref a.Il)
 Rl: ∃t,mg "MOST_BRACES"=Fa (.int 6 t)
 P2: ∃t,mg "MOST_FUNCTIONS"=Fa (.int 6 t)
 Pz: ∃t,mg "MOST_PARAMETERS"=Fa (.int 6 t)
 QX: ∃t,mg "LONGEST_TEXT"=Fa (.int 3000 t)
 RW: ∃t,mg "MOST_ZONES"=Fa (.int 6 t)
 QB: ∃t,mg "MOST_QUARTERS"=Fa (.int 4 t)
 PB: ∃t,mg "MOST_PRICE"=Fa (.int 1000000 t)
 We:ph K a.SA [.int 9, .int 10, .int 13, .int 32]
 SO:ph K a.Qi [.str "const", .str "fun", .str "desk", .str "let", .str "for", .str "in", .str "if", .str "then", .str "else", .str "sell", .str "buy", .str "zone", .str "quarter", .str "price", .str "to", .str "amount", .str "block", .str "under", .str "group", .str "sum"]
 SQ:mg "Exception"=FB
 Ya:mg "abs"=FB
 afl:mg "all"=FB
 Wf:mg "dict"=FB
 Lh:mg "isinstance"=FB
 Kj:mg "len"=FB
 afm:mg "max"=FB
 afn:mg "min"=FB
 Xq:mg "range"=FB
 afo:mg "sum"=FB
 RY:mg "tuple"=FB
 afp:mg "zip"=FB
variable {P:Ga}{w:GN}{K:Fe}{mg:FR->Ft Fh}{base:GY}{a:bf}
abbrev nb (c:Jc):Int:=(c.toNat:Int)
def kb (c:Jc):a8:=JN (nb c)
def dO:E9 (E9 a8×V):=GI.map λs=>(s.map kb,V.str (dI s))
structure Ah (K:Fe) (R:Fi) (m:FR) (f:Fi):Prop where
 sp:Pb K (.ref R) "__getattribute__"=Fa (Fa (.builtin "type.__getattribute__"))
 ty:VT K (.ref R)=Fa (.type "type")
 rd:PySem.W.readsIn K R (.type "type")=FM
 fc:Vv K (.ref R) (.type "type") m=Fa (.val (.ref f))
 kp:IF K (.ref f)=FM
structure XT (K:Fe) (a:bf):Prop where
 fc:dD K a.Hg a.HM a.f_5
 rm:Ah K a.Hg "__init__" a.f_o
structure Dt (P:Ga) (w:GN) (K:Fe) (a:Fi) (aD:E9 (a8×V)):Prop where
 at_: ∃vs:E9 (a8×Fh),(∀h:GY,K.In h->h.DictOf (aU P w) a vs)/\KV aD vs
 len:aD.length<=F8
 no:(a == IC)=FS
def dv:E9 (a8×V):=[(.inr "min", .int 2),(.inr "max", .int 2),(.inr "abs", .int 1)]
end OS
namespace OS
open PySem PySem.Spec L2
open PyProof.Rows hiding St
variable {P:Ga}{w:GN}{K:Fe}{mg:FR->Ft Fh}{base:GY}{a:bf}
structure XW (K:Fe) (a:bf):Prop extends XT K a where
 Ma:dD K a.Hg a.JB a.f_O
 OY:dD K a.Hg a.KZ a.f_P
 NS:dD K a.Hg a.Ku a.Zu
 NT:dD K a.Hg a.Kv a.Zv
 Mb:dD K a.Hg a.JC a.Zw
 OZ:dD K a.Hg a.LF a.Zy
def yB (a:bf):E9 Fi:=[a.LP,a.Ob,a.NO,a.KP,a.JO,a.Km,a.Oc,a.LQ,a.Nr,a.QA,a.KY,a.JF,a.Mr,a.OI,a.NP]
structure mh (K:Fe) (a:bf):Prop where
 ty: ∀C∈yB a,yn K C
 kit:((yB a).map λC=>(yB a).map λD=>HK K (.ref C) (.ref D))=(Jx 15).map λi=>(Jx 15).map λj=>Fa (decide (i=j))
end OS
namespace OS
open PySem PySem.Spec L2
open PyProof.Rows hiding St
variable {P:Ga}{w:GN}{K:Fe}{mg:FR->Ft Fh}{base:GY}{a:bf}
def zJ (K:Fe) (ad:Fi) (rows:E9 (E9 V)):Prop:= ∃qs:E9 Fi,ph K ad (qs.map V.ref)/\Paired (λq xs=>ph K q xs) qs rows
def di:E9 (E9 V):=[[.str "||"],[.str "&&"],[.str "==", .str "!=", .str "<=", .str ">=", .str "<", .str ">"],[.str "+", .str "-"],[.str "*", .str "/", .str "/rest"]]
end OS
namespace OS
open PySem PySem.Spec L2
open PyProof.Rows hiding St
variable {P:Ga}{w:GN}{K:Fe}{mg:FR->Ft Fh}{base:GY}{a:bf}


def fW (zs:E9 Int):E9 V:=zs.map V.int
structure XN (K:Fe) (a:bf):Prop extends XW K a where
 Oj:dD K a.Hg a.LR a.Zs
structure OdK (K:Fe) (a:bf):Prop where
 s:yn K a.Hz
 b:yn K a.HB
 ss:HK K (.ref a.Hz) (.ref a.Hz)=Fa FM
 bs:HK K (.ref a.HB) (.ref a.Hz)=Fa FS
inductive m6 (K:Fe) (vs:E9 V) (H:Hp) (Q:VK) (_E:XK):Prop
 |mk (z t lo hi:Int) (l k:Fi) (zs ys:E9 Int) (_:vs=[.int z, .int t, .int lo, .int hi, .ref l, .ref k]) (_:cB K H l (fW zs)) (_:zs.length<=4000) (_:cB K H k (fW ys)) (_:ys.length<=4000) (_: ∀(H':Hp) (p:Fi),H' p=Fa (.lst (fW (LC z t lo hi zs ys)))->Q (.ref p) H'):m6 K vs H Q _E
def dOf:Data->E9 Oz
 | .dict es _=>es.toList
 |_=>[]
theorem aaj (h:dOf d=e::r): ∃es ep,d= .dict es ep/\es.toList=e::r:=by
 cases d with
 |dict es n=>exact#[es,n,Gc,h]
 |_=>cases h
noncomputable def SR (K:Fe) (a:Fi):E9 Oz:=((K.lookup a).map λo=>if o.cls= .type "dict"/\o.dict=FB/\o.slots.size=0 then dOf o.data else []).getD []
theorem wW {K:Fe}{a:Fi}(h:SR K a=e::r): ∃o es ep,K.lookup a=Fa o/\o.ExactDict/\o.data= .dict es ep/\es.toList=e::r:=by
 unfold SR at h;cases q:K.lookup a with
 |none=>rw[q] at h;cases h
 |some o=>
  rw[q] at h;have h:(if o.cls= .type "dict"/\o.dict=FB/\o.slots.size=0 then dOf o.data else [])=e::r:=h
  by_cases c:o.cls= .type "dict"/\o.dict=FB/\o.slots.size=0
  .rw[Fm c] at h
   obtain⟨es,n,h1,h2⟩:=aaj h;exact#[o,es,n,Gc,#[c.1,c.2.1,Jw.eq_empty_of_size_eq_zero c.2.2],h1,h2]
  .rw[Fj c] at h
   cases h
section
variable {a:Fi}
theorem Eo {mg:FR->Ft Fh}(X:K.In h) (G:h.Ns N mg) (e:J1 K N n=Fa (Fa v)):mg n=Fa v:=by
 obtain⟨o,es,ep,ho,hd,_,hf⟩:=G;unfold J1 at e;split at e
 .rename_i c d es' n' sl q
  have:=X _ _ q;rw[ho] at this;cases this;cases hd;split at e
  .rename_i en he
   cases e;rw[<-hf];unfold nsFind findBy;rw[<-UX,he]
   rfl
  .split at e<;>cases e
 .cases e
def iOf:Fh->Ft Int
 | .int i _=>Fa i
 |_=>FB
def xOf:Fh->Ft FR
 | .str i _=>Fa i
 |_=>FB
def rOf:Fh->Ft Fi
 | .ref i=>Fa i
 |_=>FB
theorem vL (h:iOf v=Fa i): ∃t,v= .int i t:=by
 cases v with
 |int j t=>cases h;exact#[t,Gc]
 |_=>cases h
theorem uQ (h:xOf v=Fa i): ∃t,v= .str i t:=by
 cases v with
 |str j t=>cases h;exact#[t,Gc]
 |_=>cases h
theorem zQ (h:rOf v=Fa i):v= .ref i:=by
 cases v with
 |ref j=>cases h;rfl
 |_=>cases h
abbrev tI {A:Type}(f:Fh->Ft A) (l:E9 Fh):Ft (E9 A):=l.mapM f
abbrev nv:=tI iOf
abbrev oN:=tI xOf
abbrev vA:=tI rOf
theorem iP {A B:Type}{f:Fh->Ft A}{g:A->B}{R:B->Fh->Prop}(hf: ∀v x,f v=Fa x->R (g x) v): ∀ {vs:E9 Fh}{l:E9 A},tI f vs=Fa l->Paired R (l.map g) vs
 |[],l,h=>by cases h;exact .nil
 |v::r,l,h=>by
  rw[tI,E9.mapM_cons] at h;cases e:f v with
  |none=>rw[e] at h;cases h
  |some x=>
   cases q:r.mapM f with
   |none=>rw[e,q] at h;cases h
   |some l'=>rw[e,q] at h;cases h;exact .cons (hf v x e) (iP hf q)
def qOf:Data->Ft (Jw Fh)
 | .seq HD _=>Fa HD
 |_=>FB
theorem aak (h:qOf d=Fa HD): ∃n,d= .seq HD n:=by
 cases d with
 |seq es n=>cases h;exact#[n,Gc]
 |_=>cases h
noncomputable def MF (K:Fe) (a:Fi):Ft (E9 Fh):=(K.lookup a).bind λo=>(qOf o.data).bind λHD=>if o.cls= .type "tuple"/\HD.size<=1000 then Fa HD.toList else FB
theorem uj (h:MF K a=Fa l): ∃o HD n,K.lookup a=Fa o/\o.cls= .type "tuple"/\o.data= .seq HD n/\HD.size<=F8/\HD.toList=l:=by
 obtain⟨o,h1,h⟩:=Iy.mp h;obtain⟨HD,h2,h⟩:=Iy.mp h;obtain⟨n,h2⟩:=aak h2;by_cases c:o.cls= .type "tuple"/\HD.size<=1000
 .rw[Fm c] at h
  exact#[o,HD,n,h1,c.1,h2,FP c.2 [01],FG h]
 .rw[Fj c] at h
  cases h
theorem rS (h:nv vs=Fa l):aX (l.map V.int) vs:=iP (λ_ _ e=>vL e) h
theorem tF (h:oN vs=Fa l):aX (l.map V.str) vs:=iP (λ_ _ e=>uQ e) h
theorem tq (h:vA vs=Fa l):aX (l.map V.ref) vs:=iP (λ_ _ e=>zQ e) h
theorem rG (h:MF K a=Fa vs) (v:aX xs vs):ph K a xs:=by
 obtain⟨o,HD,n,h1,h2,h3,h4,h5⟩:=uj h;exact#[o,HD,n,h1,h2,h3,h4,by rw[h5];exact v]
theorem Ac (h:(MF K a).bind nv=Fa l):ph K a (l.map V.int):=by
 cases e:MF K a with
 |none=>rw[e] at h;cases h
 |some vs=>rw[e] at h;exact rG e (rS h)
theorem ub (h:(MF K a).bind oN=Fa l):ph K a (l.map V.str):=by
 cases e:MF K a with
 |none=>rw[e] at h;cases h
 |some vs=>rw[e] at h;exact rG e (tF h)
noncomputable def Uz (K:Fe) (e:Oz):Ft (Int×E9 Int×FR):=(rOf e.key).bind λp=>(xOf e.val).bind λx=>((MF K p).bind nv).map λl=>(e.hash,l,x)
theorem CY (z:Uz K e=Fa (h,l,x)): ∃p t,e.key= .ref p/\e.val= .str x t/\e.hash=h/\(MF K p).bind nv=Fa l:=by
 obtain⟨p,h1,z⟩:=Iy.mp z;obtain⟨x',h2,z⟩:=Iy.mp z;obtain⟨l',h3,z⟩:=Gj.mp z;cases z;obtain⟨t,h2⟩:=uQ h2;exact#[p,t,zQ h1,h2,Gc,h3]
theorem AV (h:Paired (λk v=>(aU P w).is k v=FM) ks vs):ItemsAre (aU P w) ks vs:=by
 induction h with
 |nil=>exact .nil
 |cons h _ i=>exact .cons h i
theorem yk (h:nv vs=Fa l):ItemsAre (aU P w) (l.map λi=>(JN i:a8)) vs:=
 AV (iP (f:=iOf) (g:=λi=>(JN i:a8)) (λv i e=>by
  obtain⟨t,rfl⟩:=vL e;exact G7 i) h)
theorem xo: ∀ {es:E9 Oz}{L:E9 (E9 Int×FR)},es.map (Uz K)=(L.map λp=>Fa (VG (aU P w) (p.1.map λi=>(JN i:a8)),p.1,p.2))->
  ∃xs:E9 (E9 a8×Fi×Fh),Paired (λ(p:E9 a8×V) (q:E9 a8×Fi×Fh)=>p.1=q.1/\bh p.2 q.2.2) (L.map λp=>(p.1.map λi=>(JN i:a8),V.str p.2)) xs/\es=xs.map (entryOfKey (NI (aU P w)))/\(xs.map (·.1))=(L.map λp=>p.1.map λi=>(JN i:a8))/\ ∀h:GY,K.In h-> ∀x∈xs,(NI (aU P w)).is h x.1 x.2.1
 |[],[],_=>#[[], .nil,Gc,Gc,λ_ _ _ z=>nomatch z]
 |[],_::_,h=>by cases h
 |_::_,[],h=>by cases h
 |e::es,p::L,h=>by
  rw[FQ,FQ] at h;obtain⟨h1,h2⟩:=IB h;obtain⟨xs,k1,k2,k3,k4⟩:=xo h2;obtain⟨q,t,e1,e2,e3,e4⟩:=CY h1;refine#[(p.1.map λi=>JN i,q, .str p.2 t)::xs, .cons #[Gc,#[t,Gc]] k1,?_,by rw[FQ,FQ,k3],λhp hK y hy=>?_]
  .rw[FQ,<-k2]
   congr 1
   obtain⟨eh,ek,ev⟩:=e;cases e1;cases e2;cases e3
   rfl
  .rcases Fy.mp hy with rfl|hy
   .cases z:MF K q with
    |none=>rw[z] at e4;cases e4
    |some vs=>
     rw[z] at e4;obtain⟨o,HD,n,g1,g2,g3,g4,g5⟩:=uj z;exact#[o,HD,n,hK _ _ g1,g2,g3,by rw[g5];exact yk e4]
   .exact k4 hp hK y hy
theorem aal {L:E9 (E9 Int×FR)}(ne:L≠[]) (h:(SR K a).map (Uz K)=(L.map λp=>Fa (VG (aU P w) (p.1.map λi=>(JN i:a8)),p.1,p.2))) (nd:(L.map λp=>p.1.map λi=>(JN i:a8)).Nodup) (no:(a == IC)=FS):
  zM P w K a (L.map λp=>(p.1.map λi=>(JN i:a8),V.str p.2)):=by
 obtain⟨xs,k1,k2,k3,k4⟩:=xo (P:=P) (w:=w) h;cases he:SR K a with
 |nil=>rw[he] at h;exact FH (E9.map_eq_nil_iff.mp h.symm) ne
 |cons e r=>
  obtain⟨o,es,ep,lk,ex,od,el⟩:=wW he;refine#[#[xs,λhp hK=>#[o,es,ep,hK a o lk,ex,od,by rw[el,<-he];exact k2,k4 hp hK,by rw[k3];exact nd],k1],no]
def Yb:E9 (E9 Int×FR):=GI.map λs=>(s.map nb,dI s)
theorem Ap:dO=Yb.map λp=>(p.1.map λi=>(JN i:a8),V.str p.2):=by decide+kernel
theorem EQ {mg:FR->Ft Fh}{a:bf}(_:aW K mg a) (e:(SR K a.J4).map (Uz K)=(Yb.map λp=>Fa (VG (aU P w) (p.1.map λi=>(JN i:a8)),p.1,p.2))) (no:(a.J4 == IC)=FS):zM P w K a.J4 dO:=by
 rw[Ap];exact aal [00] e [00] no
theorem iJ {A:Type}{C:E9 A->Prop}{us:E9 A}(h:us.length=n+1) (k: ∀a r,r.length=n->C (a::r)):C us:=by
 cases us with
 |nil=>cases h
 |cons a r=>exact k a r (Rr h)
theorem v0 {A:Type}{C:E9 A->Prop}{us:E9 A}(h:us.length=0) (k:C []):C us:=by
 cases us with
 |nil=>exact k
 |cons a r=>cases h
theorem v1 {A:Type}{C:E9 A->Prop}{us:E9 A}(h:us.length=1) (k: ∀a,C [a]):C us:=iJ h λa r h=>v0 (C:=λr=>C (a::r)) h (k a)
theorem v2 {A:Type}{C:E9 A->Prop}{us:E9 A}(h:us.length=2) (k: ∀a b,C [a,b]):C us:=iJ h λa r h=>v1 (C:=λr=>C (a::r)) h (k a)
theorem v3 {A:Type}{C:E9 A->Prop}{us:E9 A}(h:us.length=3) (k: ∀a b c,C [a,b,c]):C us:=iJ h λa r h=>v2 (C:=λr=>C (a::r)) h (k a)
theorem v4 {A:Type}{C:E9 A->Prop}{us:E9 A}(h:us.length=4) (k: ∀a b c d,C [a,b,c,d]):C us:=iJ h λa r h=>v3 (C:=λr=>C (a::r)) h (k a)
theorem v5 {A:Type}{C:E9 A->Prop}{us:E9 A}(h:us.length=5) (k: ∀a b c d e,C [a,b,c,d,e]):C us:=iJ h λa r h=>v4 (C:=λr=>C (a::r)) h (k a)
theorem v6 {A:Type}{C:E9 A->Prop}{us:E9 A}(h:us.length=6) (k: ∀a b c d e f,C [a,b,c,d,e,f]):C us:=iJ h λa r h=>v5 (C:=λr=>C (a::r)) h (k a)
theorem v7 {A:Type}{C:E9 A->Prop}{us:E9 A}(h:us.length=7) (k: ∀a b c d e f g,C [a,b,c,d,e,f,g]):C us:=iJ h λa r h=>v6 (C:=λr=>C (a::r)) h (k a)
theorem v8 {A:Type}{C:E9 A->Prop}{us:E9 A}(h:us.length=8) (k: ∀a b c d e f g h,C [a,b,c,d,e,f,g,h]):C us:=iJ h λa r h=>v7 (C:=λr=>C (a::r)) h (k a)
theorem u0 {fd:Gs}{ps:E9 FR}{us:E9 Fh}(h:us.length=0) (k:Hu fd #[[],[]]=pure (ps.zip [])):Hu fd #[us,[]]=pure (ps.zip us):=v0 (C:=λus=>Hu fd #[us,[]]=pure (ps.zip us)) h k
theorem u1 {fd:Gs}{ps:E9 FR}{us:E9 Fh}(h:us.length=1) (k: ∀a,Hu fd #[[a],[]]=pure (ps.zip [a])):Hu fd #[us,[]]=pure (ps.zip us):=v1 (C:=λus=>Hu fd #[us,[]]=pure (ps.zip us)) h k
theorem u2 {fd:Gs}{ps:E9 FR}{us:E9 Fh}(h:us.length=2) (k: ∀a b,Hu fd #[[a,b],[]]=pure (ps.zip [a,b])):Hu fd #[us,[]]=pure (ps.zip us):=v2 (C:=λus=>Hu fd #[us,[]]=pure (ps.zip us)) h k
theorem u3 {fd:Gs}{ps:E9 FR}{us:E9 Fh}(h:us.length=3) (k: ∀a b c,Hu fd #[[a,b,c],[]]=pure (ps.zip [a,b,c])):Hu fd #[us,[]]=pure (ps.zip us):=v3 (C:=λus=>Hu fd #[us,[]]=pure (ps.zip us)) h k
theorem u4 {fd:Gs}{ps:E9 FR}{us:E9 Fh}(h:us.length=4) (k: ∀a b c d,Hu fd #[[a,b,c,d],[]]=pure (ps.zip [a,b,c,d])):Hu fd #[us,[]]=pure (ps.zip us):=v4 (C:=λus=>Hu fd #[us,[]]=pure (ps.zip us)) h k
theorem u5 {fd:Gs}{ps:E9 FR}{us:E9 Fh}(h:us.length=5) (k: ∀a b c d e,Hu fd #[[a,b,c,d,e],[]]=pure (ps.zip [a,b,c,d,e])):Hu fd #[us,[]]=pure (ps.zip us):=v5 (C:=λus=>Hu fd #[us,[]]=pure (ps.zip us)) h k
theorem u6 {fd:Gs}{ps:E9 FR}{us:E9 Fh}(h:us.length=6) (k: ∀a b c d e f,Hu fd #[[a,b,c,d,e,f],[]]=pure (ps.zip [a,b,c,d,e,f])):Hu fd #[us,[]]=pure (ps.zip us):=v6 (C:=λus=>Hu fd #[us,[]]=pure (ps.zip us)) h k
theorem u7 {fd:Gs}{ps:E9 FR}{us:E9 Fh}(h:us.length=7) (k: ∀a b c d e f g,Hu fd #[[a,b,c,d,e,f,g],[]]=pure (ps.zip [a,b,c,d,e,f,g])):Hu fd #[us,[]]=pure (ps.zip us):=v7 (C:=λus=>Hu fd #[us,[]]=pure (ps.zip us)) h k
theorem u8 {fd:Gs}{ps:E9 FR}{us:E9 Fh}(h:us.length=8) (k: ∀a b c d e f g h,Hu fd #[[a,b,c,d,e,f,g,h],[]]=pure (ps.zip [a,b,c,d,e,f,g,h])):Hu fd #[us,[]]=pure (ps.zip us):=v8 (C:=λus=>Hu fd #[us,[]]=pure (ps.zip us)) h k
theorem EE {h:GY}{mg:FR->Ft Fh}(X:K.In h) (G:h.Ns Jp mg) {x:FR}{st:Stmt}{ps:E9 FR}{f:Fi}{oc:Fh}{od an:Ft Fi}{sl:Jw (Ft Fh)}{kV doc pm cd ct:Fh}
  (a:J1 K Jp x=Fa (Fa (.ref f))) (l:K.lookup f=Fa #[oc,od, .func (Io x x (dM st) (be st) (af st) .none kV doc pm an cd ct),sl]) (c:Lc K cd x=FM) (k:IF K (.ref f)=FM)
  (hb: ∀(kV doc pm:Fh) (an:Ft Fi) (GU ct:Fh) (us:E9 Fh),us.length=ps.length->Hu (Io x x (dM st) (be st) (af st) .none kV doc pm an GU ct) #[us,[]]=pure (ps.zip us)):
  ∃fd,cD K mg x st ps f fd/\ ∀(s:Fn) (us:E9 Fh),us.length=ps.length->Tb s fd #[us,[]] (ps.zip us):=#[_,#[kO (st:=st) l c k,FW X G a,k,(kO (st:=st) l c k).binds hb],λs us hu=> .of_eq (hb _ _ _ _ _ _ us hu)]
theorem aC {h:GY}{mg:FR->Ft Fh}(X:K.In h) (G:h.Ns Jp mg) {x:FR}{st:Stmt}{ps:E9 FR}{f:Fi}{oc:Fh}{od an:Ft Fi}{sl:Jw (Ft Fh)}{kV doc pm cd ct:Fh}
  (z:J1 K Jp x=Fa (Fa (.ref f))/\K.lookup f=Fa #[oc,od, .func (Io x x (dM st) (be st) (af st) .none kV doc pm an cd ct),sl]/\Lc K cd x=FM/\IF K (.ref f)=FM)
  (hb: ∀(kV doc pm:Fh) (an:Ft Fi) (GU ct:Fh) (us:E9 Fh),us.length=ps.length->Hu (Io x x (dM st) (be st) (af st) .none kV doc pm an GU ct) #[us,[]]=pure (ps.zip us)):
  cD K mg x st ps f (Io x x (dM st) (be st) (af st) .none kV doc pm an cd ct):=#[kO (st:=st) z.2.1 z.2.2.1 z.2.2.2,FW X G z.1,z.2.2.2,(kO (st:=st) z.2.1 z.2.2.1 z.2.2.2).binds hb]
theorem aI {x q:FR}{st:Stmt}{ps:E9 FR}{C f:Fi}{oc:Fh}{od an:Ft Fi}{sl:Jw (Ft Fh)}{kV doc pm cd ct:Fh}
  (z:HS K (.ref C) x=Fa (Fa (.ref f))/\Pd K (.ref f)=FM/\K.lookup f=Fa #[oc,od, .func (Io x q (dM st) (be st) (af st) .none kV doc pm an cd ct),sl]/\Lc K cd q=FM/\IF K (.ref f)=FM)
  (hb: ∀(kV doc pm:Fh) (an:Ft Fi) (GU ct:Fh) (us:E9 Fh),us.length=ps.length->Hu (Io x q (dM st) (be st) (af st) .none kV doc pm an GU ct) #[us,[]]=pure (ps.zip us)):
  eG K C x q st ps f (Io x q (dM st) (be st) (af st) .none kV doc pm an cd ct):=#[kO (st:=st) z.2.2.1 z.2.2.2.1 z.2.2.2.2,#[z.1,z.2.1,z.2.2.2.2],(kO (st:=st) z.2.2.1 z.2.2.2.1 z.2.2.2.2).binds hb]
end
section
variable {a:Fi}
def cOf:Data->Ft ClassData
 | .cls c=>Fa c
 |_=>FB
theorem aam (h:cOf d=Fa c):d= .cls c:=by
 cases d with
 |cls c=>cases h;rfl
 |_=>cases h
theorem six {A:Type}{l:Jw A}{x:A}(h:l.toList.length=6):l.toList[4]?=Fa x-> ∃a b c d f,l= [a,b,c,d,x,f].toArray:=by
 obtain⟨l⟩:=l;exact v6 (C:=λl=>l[4]?=Fa x-> ∃a b c d f,(#[l]:Jw A)= [a,b,c,d,x,f].toArray) h λa b c d e f z=>by cases z;exact#[a,b,c,d,f,Gc]
noncomputable def aan (K:Fe) (C:Fi) (u:E9 Fi):Ft Fi:=(K.lookup C).bind λo=>(cOf o.data).bind λcd=>
 if o.cls= .type "type"/\cd.mro= .ref C::(u.map FZ++c7)/\cd.hasDict=FM/\cd.hasDel=FS/\o.slots.toList.length=6/\o.slots.toList[4]?=Fa (Fa (.builtin "Exception.__new__")) then Fa cd.ns else FB
theorem wq (q:aan K C u=Fa N) (X:K.In h):XO h C N (u.map FZ++c7):=by
 obtain⟨o,h1,q⟩:=Iy.mp q;obtain⟨cd,h2,q⟩:=Iy.mp q;split at q
 .rename_i g
  obtain⟨g1,g2,g3,g4,g5,g6⟩:=g;cases q;obtain⟨k0,k1,k2,k3,k5,g5⟩:=six g5 g6;have h2:=aam h2;obtain⟨nm,bs,mro,ns,qn,hd,sn,sub,ab,col,Dr⟩:=cd;obtain⟨cl,dd,da,sl⟩:=o;cases g1;cases g2;cases g3;cases g4;cases h2;cases g5;exact#[nm,qn,bs,sn,sub,ab,col,dd,k0,k1,k2,k3,k5,X _ _ h1]
 .cases q
theorem gt {mg:FR->Ft Fh}(_:K.In h0) (_:mg x=Fa (.ref C)) (_:mg "Refusal"=Fa (.ref R)) (l:aan K C [R]=Fa N)
  (Iu:VU K N=FM) (hi:J1 K N "__init__"=Fa (Fa (.ref fI))) (hq:(cY.map λn=>J1 K N n)=cY.map λ_=>Fa FB) (lI:((K.lookup fI).map λo=>o.cls)=Fa (.type "function")) (kp:IF K (.ref C)=FM)
  (lR:aan K R []=Fa NR) (afq:VU K NR=FM) (hqR:(cY.map λn=>J1 K NR n)=cY.map λ_=>Fa FB):dD K R C fI:=by
 obtain⟨oI,lI,cI⟩:=Gj.mp lI;refine#[λh X=>?_,kp];have ns:h.Ns N (h.nsMap N):= .of_isNs (TK X Iu);have nR:h.Ns NR (h.nsMap NR):= .of_isNs (TK X afq);have all: ∀ {M:Fi},(cY.map λn=>J1 K M n)=(cY.map λ_=>Fa FB)-> ∀n∈cY,J1 K M n=Fa FB:=λe=>E9.map_inj_left.mp e
 exact#[N,h.nsMap N,oI,NR,h.nsMap NR,wq l X,ns,Eo X ns hi,λn hn=>Q7 X Iu (all hq n hn),X _ _ lI,cI,wq lR X,nR,λn hn=>Q7 X afq (all hqR n hn)]
end
def vY (e:Oz):Ft (Int×FR×Int):=(xOf e.key).bind λx=>(iOf e.val).map λi=>(e.hash,x,i)
theorem Db (z:vY e=Fa (h,x,i)): ∃t u,e.key= .str x t/\e.val= .int i u/\e.hash=h:=by
 obtain⟨x',h1,z⟩:=Iy.mp z;obtain⟨i',h2,z⟩:=Gj.mp z;cases z;obtain⟨t,h1⟩:=uQ h1;obtain⟨u,h2⟩:=vL h2;exact#[t,u,h1,h2,Gc]
section
variable {a:Fi}
theorem xc: ∀ {es:E9 Oz}{L:E9 (FR×Int)},es.map vY=(L.map λp=>Fa (hashStr w p.1,p.1,p.2))->
  ∃vs:E9 (a8×Fh),KV (L.map λp=>((Ie p.1:a8),V.int p.2)) vs/\PySem.Pairs (aU P w) es vs/\(vs.map (·.1))=(L.map λp=>(Ie p.1:a8))/\ ∀e∈es,∃k,(aU P w).is k e.key=FM/\e.hash=(aU P w).hash k
 |[],[],_=>#[[], .nil, .nil,Gc,λ_ z=>nomatch z]
 |[],_::_,h=>by cases h
 |_::_,[],h=>by cases h
 |e::es,p::L,h=>by
  rw[FQ,FQ] at h;obtain⟨h1,h2⟩:=IB h;obtain⟨vs,k1,k2,k3,k4⟩:=xc h2;obtain⟨t,u,e1,e2,e3⟩:=Db h1;have is:(aU P w).is (Ie p.1) e.key=FM:=by rw[e1];show O4 p.1 (.str p.1 t)=FM;simp [O4]
  refine#[(Ie p.1, .int p.2 u)::vs, .cons #[Gc,#[u,Gc]] k1, .cons is e2 k2,by rw[FQ,FQ,k3],λy hy=>?_];rcases Fy.mp hy with rfl|hy
  .exact#[Ie p.1,is,e3]
  .exact k4 y hy
theorem aao {p:FR×Int}{L:E9 (FR×Int)}(h:(SR K a).map vY=((p::L).map λp=>Fa (hashStr w p.1,p.1,p.2))) (nd:((p::L).map (·.1)).Nodup) (len:(p::L).length<=F8) (no:(a == IC)=FS):
  Dt P w K a ((p::L).map λp=>((Ie p.1:a8),V.int p.2)):=by
 obtain⟨vs,k1,k2,k3,k4⟩:=xc (P:=P) h;cases he:SR K a with
 |nil=>rw[he] at h;cases h
 |cons e r=>
  obtain⟨o,es,ep,lk,ex,od,el⟩:=wW he;rw[he,<-el] at k2;rw[he] at k4;refine#[#[vs,λhp hK=>#[o,es,ep,hK a o lk,ex,od,λy hy=>k4 y (by rw[<-el];exact TF.mpr hy),k2,?_],k1],by rw[Fx];exact len,no];rw[k3,FQ];rw[show(λp:FR×Int=>(Ie p.1:a8))=(λx=>Ie x) ∘ (λp:FR×Int=>p.1) from Gc];rw[show(Ie p.1:a8)::L.map ((λx=>(Ie x:a8)) ∘ λp=>p.1)=((p::L).map (·.1)).map (λx=>(Ie x:a8)) by rw[FQ,FQ,JK]];exact E9.Pairwise.map (λx=>(Ie x:a8)) (λ_ _ h z=>h (JE z)) nd
theorem wb: ∀ {qs:E9 Fi}{rows:E9 (E9 FR)},(qs.map λq=>(MF K q).bind oN)=rows.map Fa->Paired (λq xs=>ph K q xs) qs (rows.map λr=>r.map V.str)
 |[],[],_=> .nil
 |[],_::_,h=>by cases h
 |_::_,[],h=>by cases h
 |q::qs,r::rows,h=>by
  rw[FQ,FQ] at h;obtain⟨h1,h2⟩:=IB h;exact .cons (ub h1) (wb h2)
theorem aap {qs:E9 Fi}{rows:E9 (E9 FR)}(h:(MF K a).bind vA=Fa qs) (h2:(qs.map λq=>(MF K q).bind oN)=rows.map Fa):zJ K a (rows.map λr=>r.map V.str):=by
 cases e:MF K a with
 |none=>rw[e] at h;cases h
 |some vs=>rw[e] at h;exact#[qs,rG e (tq h),wb h2]
theorem Ez {mg:FR->Ft Fh}{a:bf}(_:aW K mg a) (e:(SR K a.Hh).map vY=(([("min",2),("max",2),("abs",1)]:E9 (FR×Int)).map λp=>Fa (hashStr w p.1,p.1,p.2))) (no:(a.Hh == IC)=FS):Dt P w K a.Hh dv:=aao (p:=("min",2)) (L:=[("max",2),("abs",1)]) e [00] [01] no
theorem Ej {mg:FR->Ft Fh}{a:bf}(_:aW K mg a) (e:(((MF K a.Il).bind vA).map λqs=>qs.map λq=>(MF K q).bind oN)=Fa (([["||"],["&&"],["==","!=","<=",">=","<",">"],["+","-"],["*","/","/rest"]]:E9 (E9 FR)).map Fa)):zJ K a.Il di:=by
 obtain⟨qs,e1,e2⟩:=Gj.mp e;exact aap e1 e2
end
theorem afr (_:aW K mg a) (c:Ah K a.Hg "__init__" a.f_o) (x0:dD K a.Hg a.HM a.f_5) (x1:dD K a.Hg a.JB a.f_O) (x2:dD K a.Hg a.KZ a.f_P) (x3:dD K a.Hg a.Ku a.Zu) (x4:dD K a.Hg a.Kv a.Zv) (x5:dD K a.Hg a.JC a.Zw) (x6:dD K a.Hg a.LF a.Zy) (x7:dD K a.Hg a.LR a.Zs):XN K a:=#[#[#[x0,c],x1,x2,x3,x4,x5,x6],x7]
def ya (K:Fe):E9 Fi->Prop
 |[]=>True
 |C::l=>yn K C/\ya K l
theorem sR {C:Fi} : ∀ {l:E9 Fi},ya K l->C∈l->yn K C
 |D::l,h,m=>by
  rcases Fy.mp m with z|z
  .rw[z];exact h.1
  .exact sR h.2 z
theorem zU:ya K []:=trivial
theorem bV (h:yn K C) (t:ya K l):ya K (C::l):=#[h,t]
theorem aaq {a:bf}(t:ya K (yB a)) (kit:((yB a).map λC=>(yB a).map λD=>HK K (.ref C) (.ref D))=(Jx 15).map λi=>(Jx 15).map λj=>Fa (decide (i=j))):mh K a:=#[λC h=>sR t h,kit]
end OS
set_option hygiene false in
local macro_rules
|`(command|#synth [$n,*])=>do
 let t:=λc:Lean.Name=>do
  let i:=Lean.mkIdent (.str `PySem.W.Fast s!"tw{c.hash}")
  `(theorem $i:ident:True:=trivial)
 let f:=λ(k:String) (i:Nat)=>t (.str `OS.hd s!"{k}_{i}")
 let a<-(Array.range 1625).mapM (f "o")
 let b<-n.getElems.mapM λx=>match x with|`($k:ident*$i:num)=>f k.getId.toString i.getNat|x=>t x.getId
 return Lean.mkNullNode ((a++b).map (·.raw))
#synth [heap*1625,tree*1624,tree*1582,tree*1505,tree*1419,tree*1253,tree*1338,heap*1,tree*1123,tree*1086,tree*1025,tree*999,tree*933,tree*875,tree*852,tree*773,tree*708,view*1,tree*664,PySem.Challenge.pw_ordersheets_s07_same,tree*614,tree*592,tree*570,tree*548,tree*526,tree*504,tree*482,tree*460,tree*437,tree*400,tree*377,tree*354,tree*331,tree*308,tree*285,tree*262,tree*239,tree*216,tree*193,sts*1342,sts*774,tree*170,sts*934,sts*1506,sts*1420,sts*1087,tree*147,sts*1126,tree*124,tree*101,sts*876,sts*1583,sts*709,tree*78,sts*615,sts*401,sts*1029,sts*1000,tree*55,sts*665,sts*378,sts*286,sts*240,tree*32,sts*483,sts*355,sts*853,sts*148,sts*194,sts*10,sts*217,sts*332,sts*102,sts*125,sts*438,sts*263,sts*56,sts*79,sts*309,sts*171,sts*593,sts*505,sts*461,sts*549,sts*527,sts*571,sts*33,heap*7,tree*8,env*2]
section
open PySem PySem.W PyProof.Rows
set_option hygiene false
local macro_rules
|`(tactic|o_headS ($_ $k $a $e))=>`(tactic|o_headS ((OS.hook $k $a $e):PySem.W.Hook))
local macro_rules
|`(?hc)=>`(OS.ap Z ?hcc)
|`([0x0])=>`((by kernel_rfl))
|`([0x1])=>`(#[_,FW KX G (by exact Gc)])
|`([0x3])=>`(OS.noAttr (by kernel_rfl))
|`([0x4])=>`(#[by kernel_rfl,by kernel_rfl,by kernel_rfl,by kernel_rfl])
|`([0x5])=>`(#[by exact Gc,by exact Gc,by kernel_rfl,by kernel_rfl])
|`([0x6])=>`(#[by exact Gc,by kernel_rfl,by exact Gc,by kernel_rfl,by kernel_rfl])
|`([0x2])=>`(#[by kernel_rfl,by kernel_rfl,by kernel_rfl,by kernel_rfl,by kernel_rfl])
def OS.Zt:Prop:= ∀ {P:Ga}{w:GN}{K:Fe}{mg:FR->Ft Fh}{base:GY}{a:OS.bf}(_:OS.aW K mg a) (_:OS.XN K a) (_:OS.zM P w K a.J4 OS.dO) (_:OS.Dt P w K a.Hh OS.dv) (_:OS.zJ K a.Il OS.di) (_:OS.mh K a) (_:OS.OdK K a),L2.bU P w K mg base L2.wX 180 a.f_b a.VZ ["zones","quarters","low","high","text","other"] (OS.m6 K)
theorem OS.noAttr {K:Fe}{C:Fi}{f:FR}(h:HS K (.ref C) f=Fa FB):L2.ao K C f:=h
theorem OS.ap {P:Prop}(z:OS.Zt) (h:OS.Zt->P):P:=h z
set_option maxRecDepth 100000 in
set_option maxHeartbeats 0 in
theorem OS.hd (Z:OS.Zt):PySem.Challenge.rw_ordersheets_s07_same.Holds:=by
 have W:=OS.abO
 w_on;k_headS;(case hw=>exact#[[.int 0, .int 0, .int 0, .int 0, .list [], .list []],by decide+kernel,by decide+kernel])
 k_fillS
 intro Z;refine L2.vB (r:=PySem.Challenge.rw_ordersheets_s07_same) (k:=180) (CX:=L2.wX) (ps:=["zones","quarters","low","high","text","other"]) (sp:=OS.m6) [00] Gc Gc #[Gc,by decide,by decide] (λw h Y=>OS.Vz Y) ?F ?S (λ_ _ _ _ z=>z)
 case F=>
  intro w mg fa h Y KX G hmg;obtain⟨VZ,d_b,akA⟩:=OS.EE (x:="same") (st:=OS.s_b) (ps:=["zones","quarters","low","high","text","other"]) KX G [09] [09] [09] [09] (λ_ _ _ _ _ _ us hl=>OS.u6 hl λ_ _ _ _ _ _=>[0x0]);have T:OS.aW _ mg ⟨_,_,_,_,_,_,_,_,_,_,_,_,_,_,_,_,_,_,_,_,_,_,_,_,_,_,_,_,_,_,_,_,_,_,_,_,_,_,_,_,_,_,_,_,_,_,_,_,_,_,_,_,_,_,_,_,_,_,_,_,_,_,_,_,_,_,_,_,_,_,_,_,_,_,_,_,_,_,_,_,_,_,_,_,_,_,_,_,_,_,_,_,_,_,_,_,_,_,_,_,_,_,_,_,_,_,_,_,_,_,_,_,_,_,_,_,_,_,_,_,_,_,_,_,_,_,_,_,_,_,_,_,_,_,_,_,_,_,_,_,_,_,_,_,_,_,_,_,_,_,_,_,_,_,_,_,_,_,_,_,_,_,_,_,_,_,_,_,_,_,_,_,_,_,_,_,_,_,_,_,_,_,_,_,_,_,_,_,_,_,_,_,_,_,_,_,_,_,_,_,_,_,_,_,_,_,_,_,_,_,_,_,_,_,_,_,_,_,_,_,_,_,_,_,_,_,_,_,_,_,_,_,_,_,_,_,_,_,_,_,_,_,_,_,_,_,_,_,_,_,_,_,_,_,_,_,_,_,_,_,_,_,_,_,_,_,_,_,_,_,_,_,_,_,_,_,_,_,_,_,_,_,_,_,_,_,_,_,_,_,_,_,_,_,_,_,_,_,_,_,_,_,_,_,_,_,_,_,_,_,_,VZ⟩:=#[[006],[006],[006],[006],[006],[006],[006],[006],[006],[006],[006],[006],[006],[006],[006],[006],[006],[006],[006],[006],[006],[006],[006],[006],[006],[006],[006],[006],[006],[006],[006],[006],[006],(OS.aI [0x6] [04]),(OS.aI [0x6] [04]),(OS.aI [0x6] [004]),(OS.aI [0x6] [004]),(OS.aI [0x6] (λ_ _ _ _ _ _ us hl=>OS.u4 hl λ_ _ _ _=>[0x0])),(OS.aI [0x6] (λ_ _ _ _ _ _ us hl=>OS.u4 hl λ_ _ _ _=>[0x0])),(OS.aI [0x6] (λ_ _ _ _ _ _ us hl=>OS.u5 hl λ_ _ _ _ _=>[0x0])),(OS.aI [0x6] [004]),(OS.aI [0x6] (λ_ _ _ _ _ _ us hl=>OS.u5 hl λ_ _ _ _ _=>[0x0])),(OS.aI [0x6] (λ_ _ _ _ _ _ us hl=>OS.u4 hl λ_ _ _ _=>[0x0])),(OS.aI [0x6] (λ_ _ _ _ _ _ us hl=>OS.u7 hl λ_ _ _ _ _ _ _=>[0x0])),(OS.aI [0x6] [004]),(OS.aI [0x6] (λ_ _ _ _ _ _ us hl=>OS.u8 hl λ_ _ _ _ _ _ _ _=>[0x0])),(OS.aI [0x6] [004]),(OS.aI [0x6] (λ_ _ _ _ _ _ us hl=>OS.u4 hl λ_ _ _ _=>[0x0])),(OS.aI [0x6] [004]),(OS.aI [0x6] (λ_ _ _ _ _ _ us hl=>OS.u8 hl λ_ _ _ _ _ _ _ _=>[0x0])),(OS.aI [0x6] (λ_ _ _ _ _ _ us hl=>OS.u8 hl λ_ _ _ _ _ _ _ _=>[0x0])),[009],[009],(OS.aI [0x6] [04]),(OS.aI [0x6] [06]),(OS.aI [0x6] (λ_ _ _ _ _ _ us hl=>OS.u4 hl λ_ _ _ _=>[0x0])),(OS.aI [0x6] [06]),(OS.aI [0x6] [06]),(OS.aI [0x6] [06]),(OS.aI [0x6] [06]),(OS.aI [0x6] [06]),(OS.aI [0x6] [06]),[000],(OS.aC KX G [0x5] [004]),(OS.aC KX G [0x5] [004]),[000],[000],[000],[009],(OS.aI [0x6] [04]),(OS.aI [0x6] [06]),(OS.aI [0x6] [06]),(OS.aI [0x6] [004]),(OS.aI [0x6] [04]),(OS.aI [0x6] [04]),(OS.aI [0x6] [04]),(OS.aI [0x6] [04]),(OS.aC KX G [0x5] [004]),(OS.aC KX G [0x5] [004]),(OS.aC KX G [0x5] [004]),(OS.aC KX G [0x5] [004]),(OS.aC KX G [0x5] [004]),(OS.aC KX G [0x5] [004]),(OS.aC KX G [0x5] [004]),[009],(OS.aC KX G [0x5] [004]),(OS.aC KX G [0x5] [004]),(OS.aC KX G [0x5] [004]),(OS.aI [0x6] (λ_ _ _ _ _ _ us hl=>OS.u5 hl λ_ _ _ _ _=>[0x0])),(OS.aI [0x6] [04]),[000],[000],[000],[000],[000],[000],[000],(OS.aC KX G [0x5] [004]),[000],[000],[000],[000],[000],(OS.aC KX G [0x5] [004]),(OS.aI [0x6] (λ_ _ _ _ _ _ us hl=>OS.u5 hl λ_ _ _ _ _=>[0x0])),[009],[009],[000],[000],[000],[000],(OS.aC KX G [0x5] [004]),[009],[000],[009],(OS.aI [0x6] [04]),(OS.aI [0x6] [06]),(OS.aI [0x6] [04]),(OS.aI [0x6] [04]),(OS.aI [0x6] [06]),(OS.aI [0x6] [06]),(OS.aI [0x6] [06]),(OS.aI [0x6] [06]),(OS.aI [0x6] [06]),(OS.aI [0x6] [04]),(OS.aI [0x6] [04]),(OS.aI [0x6] [06]),(OS.aI [0x6] [06]),(OS.aI [0x6] [04]),(OS.aI [0x6] [04]),(OS.aI [0x6] [04]),[000],[000],[000],(OS.aC KX G [0x5] [004]),[000],[000],[000],[000],[000],[000],[009],[009],[009],[009],[009],[000],[000],[009],[000],[000],[009],[000],[000],[000],[009],[000],[000],[009],[009],[009],[009],[009],[009],(OS.aC KX G [0x5] (λ_ _ _ _ _ _ us hl=>OS.u4 hl λ_ _ _ _=>[0x0])),[009],(OS.aC KX G [0x5] (λ_ _ _ _ _ _ us hl=>OS.u5 hl λ_ _ _ _ _=>[0x0])),[009],[009],d_b,[0x4],[0x4],[0x3],[0x4],[0x4],[0x3],[0x4],[0x4],[0x3],[0x3],[0x4],[0x4],[0x3],[0x3],[0x4],[0x4],[0x3],[0x3],[0x3],[0x4],[0x4],[0x3],[0x3],[0x3],[0x4],[0x4],[0x3],[0x3],[0x3],[0x3],[0x4],[0x4],[0x3],[0x3],[0x4],[0x4],[0x3],[0x3],[0x3],[0x3],[0x4],[0x4],[0x3],[0x3],[0x3],[0x4],[0x4],[0x3],[0x3],[0x3],[0x3],[0x3],[0x3],[0x4],[0x4],[0x3],[0x3],[0x4],[0x4],[0x3],[0x3],[0x3],[0x3],[0x3],[0x3],[0x3],[0x4],[0x4],[0x3],[0x3],[0x4],[0x4],[0x3],[0x3],[0x3],[0x4],[0x4],[0x3],[0x3],[0x4],[0x4],[0x3],[0x3],[0x3],[0x3],[0x3],[0x3],[0x3],[0x4],[0x4],[0x3],[0x3],[0x3],[0x3],[0x3],[0x3],[0x3],[0x4],[0x4],[0x3],[0x3],[0x4],[0x4],[0x3],[0x3],[0x3],[0x3],[0x3],[0x4],[0x4],[0x3],[0x3],[0x3],[0x3],[0x4],[0x4],[0x3],[0x3],[0x3],[0x3],[0x3],[0x4],[0x4],[0x3],[0x3],[0x3],[0x3],[0x4],[0x4],[0x3],[0x3],[0x3],[0x3],[0x3],[0x3],[0x1],[0x1],[0x1],[0x1],[0x1],[0x1],[0x1],[0x1],[0x1],[0x1],[0x1],[0x1],[0x1],[0x1],[0x1],[0x1],[0x1],[0x1],[0x1],[0x1],[006],[006],[0x1],[0x1],[0x1],[0x1],[0x1],[0x1],[0x1],[0x1],[006],[006],[0x1],[006],[0x1],[0x1],[0x1],[0x1],[0x1],[0x1],[0x1],(OS.Ac (l:=[9,10,13,32]) [0x0]),(OS.ub (l:=["const","fun","desk","let","for","in","if","then","else","sell","buy","zone","quarter","price","to","amount","block","under","group","sum"]) [0x0]),(Hv KX G [0x0]),(Hv KX G [0x0]),(Hv KX G [0x0]),(Hv KX G [0x0]),(Hv KX G [0x0]),(Hv KX G [0x0]),(Hv KX G [0x0]),(Hv KX G [0x0]),(Hv KX G [0x0]),(Hv KX G [0x0]),(Hv KX G [0x0]),(Hv KX G [0x0])]
  have kS:=OS.EQ T (P:=PySem.Challenge.rw_ordersheets_s07_same.prog) (w:=w) [0x0] Gc
  have kF:=OS.Ez T (P:=PySem.Challenge.rw_ordersheets_s07_same.prog) (w:=w) [0x0] Gc
  have KT:=OS.Ej T [0x0]
  have XC:=OS.afr T [0x2] (OS.gt KX T.QP T.HU [09] [0x0] [0x0] [0x0] [0x0] [0x0] [09] [0x0] [0x0]) (OS.gt KX T.Nt T.HU [09] [0x0] [0x0] [0x0] [0x0] [0x0] [09] [0x0] [0x0]) (OS.gt KX T.Qj T.HU [09] [0x0] [0x0] [0x0] [0x0] [0x0] [09] [0x0] [0x0]) (OS.gt KX T.OJ T.HU [09] [0x0] [0x0] [0x0] [0x0] [0x0] [09] [0x0] [0x0]) (OS.gt KX T.OK T.HU [09] [0x0] [0x0] [0x0] [0x0] [0x0] [09] [0x0] [0x0]) (OS.gt KX T.Nu T.HU [09] [0x0] [0x0] [0x0] [0x0] [0x0] [09] [0x0] [0x0]) (OS.gt KX T.Qk T.HU [09] [0x0] [0x0] [0x0] [0x0] [0x0] [09] [0x0] [0x0]) (OS.gt KX T.Pg T.HU [09] [0x0] [0x0] [0x0] [0x0] [0x0] [09] [0x0] [0x0]);cases hmg.symm.trans d_b.c.m;exact#[VZ,akA,λbase _ _=>Z T XC kS kF KT (OS.aaq (OS.bV #[T.PX,[0x0],[0x0],[0x0],[0x0]] (OS.bV #[T.RL,[0x0],[0x0],[0x0],[0x0]] (OS.bV #[T.QG,[0x0],[0x0],[0x0],[0x0]] (OS.bV #[T.Pk,[0x0],[0x0],[0x0],[0x0]] (OS.bV #[T.Nw,[0x0],[0x0],[0x0],[0x0]] (OS.bV #[T.PY,[0x0],[0x0],[0x0],[0x0]] (OS.bV #[T.PZ,[0x0],[0x0],[0x0],[0x0]] (OS.bV #[T.RM,[0x0],[0x0],[0x0],[0x0]] (OS.bV #[T.P0,[0x0],[0x0],[0x0],[0x0]] (OS.bV #[T.SJ,[0x0],[0x0],[0x0],[0x0]] (OS.bV #[T.Ms,[0x0],[0x0],[0x0],[0x0]] (OS.bV #[T.KI,[0x0],[0x0],[0x0],[0x0]] (OS.bV #[T.QR,[0x0],[0x0],[0x0],[0x0]] (OS.bV #[T.QS,[0x0],[0x0],[0x0],[0x0]] (OS.bV #[T.RN,[0x0],[0x0],[0x0],[0x0]] OS.zU))))))))))))))) [0x0]) #[#[T.NQ,[0x0],[0x0],[0x0],[0x0]],#[T.Ng,[0x0],[0x0],[0x0],[0x0]],[0x0],[0x0]]]
 case S=>
  intro K H xs a hO hwi amF hx;cases hx with
  |cons h1 hx=>
  cases hx with
  |cons h2 hx=>
  cases hx with
  |cons h3 hx=>
  cases hx with
  |cons h4 hx=>
  cases hx with
  |cons h5 hx=>
  cases hx with
  |cons h6 hx=>
  cases hx;cases h1;cases h2;cases h3;cases h4;cases h5 with
  |lst hs ha=>
  cases h6 with
  |lst UA ha2=>
   have e:=L2.ro a.2.2.2.2.1 _ ha
   have e2:=L2.ro a.2.2.2.2.2.1 _ ha2;subst e;subst e2
   let I:=Codec.inInt (-1000000000000000000) 1000000000000000000
   have q:(I a.1&&(I a.2.1&&(I a.2.2.1&&(I a.2.2.2.1&&((Codec.inLen 0 4000 a.2.2.2.2.1&&a.2.2.2.2.1.all I)&&((Codec.inLen 0 4000 a.2.2.2.2.2.1&&a.2.2.2.2.2.1.all I)&&FM))))))=FM:=hwi;simp only[GR] at q;exact#[_,_,_,_,_,_,a.2.2.2.2.1,a.2.2.2.2.2.1,Gc,hs,(Codec.inNat_iff.mp q.2.2.2.2.1.1).2,UA,(Codec.inNat_iff.mp q.2.2.2.2.2.1.1).2,λH' p hp=> .lst (L2.cB.of hp) (L2.xg _)]
end

namespace L2
open PySem PySem.Spec PyProof.Rows
theorem xX (i:Int) (t:Tok):jk (.inl i) (.int i t)=FM:=by simp [jk,Fh.isInt]
theorem zA (x:FR) (t:Tok):jk (.inr x) (.str x t)=FM:=by simp [jk,O4]
theorem rP (prog:Ga) (w:GN) (i:Int) (t:Tok):(aU prog w).is (.inl i) (.int i t)=FM:=xX i t
theorem rY (prog:Ga) (w:GN) (x:FR) (t:Tok):(aU prog w).is (.inr x) (.str x t)=FM:=zA x t
theorem aX.length {xs:E9 V}(r:aX xs us):xs.length=us.length:=Rp r
theorem aX.get: ∀ {xs:E9 V}{us:E9 Fh}{i:FC}{x:V},aX xs us->xs[i]?=Fa x-> ∃u,us[i]?=Fa u/\bh x u
 |_,_,_,_, .nil,e=>by simp at e
 |_,_,0,_, .cons r _,e=>by simp at e;subst e;exact#[_,Gc,r]
 |_,_,i+1,x, .cons _ t,e=>by
  obtain⟨u,h1,h2⟩:=aX.get (i:=i) (x:=x) t (by simpa using e);exact#[u,by simpa using h1,h2]
theorem aX.append: ∀ {xs ys:E9 V}{us ws:E9 Fh},aX xs us->aX ys ws->aX (xs++ys) (us++ws)
 |_,_,_,_, .nil,s=>s
 |_,_,_,_, .cons r t,s=> .cons r (aX.append t s)
theorem aX.take: ∀ {xs:E9 V}{us:E9 Fh}(n:FC),aX xs us->aX (xs.take n) (us.take n)
 |_,_,0,_=> .nil
 |_,_,_+1, .nil=> .nil
 |_,_,n+1, .cons r t=> .cons r (aX.take n t)
theorem aX.drop: ∀ {xs:E9 V}{us:E9 Fh}(n:FC),aX xs us->aX (xs.drop n) (us.drop n)
 |_,_,0,r=>r
 |_,_,_+1, .nil=> .nil
 |_,_,n+1, .cons _ t=>aX.drop n t
def aF (H:Hp) (a:Fi) (o:HO):Hp:=λb=>if b=a then Fa o else H b
theorem ae {H:Hp}{a:Fi}{o:HO} :aF H a o a=Fa o:=by unfold aF;rw[Fm Gc]
theorem ac {H:Hp}{a b:Fi}{o:HO}(h:b≠a):aF H a o b=H b:=by unfold aF;rw[Fj h]
theorem Et {H:Hp}{a:Fi}{o u:HO} :aF (aF H a o) a u=aF H a u:=by
 funext b;unfold aF;split<;>rfl
theorem pS {H:Hp}{a b:Fi}{o u:HO}(h:H a=Fa o) (h':H b=Fa u) (d:o≠u):a≠b:=by
 intro e;subst e;rw[h] at h';exact d (FG h')
theorem ai {H:Hp}{a b:Fi}{o:HO}(h:H a=Fa o) (h':H b=FB):a≠b:=by
 intro e;subst e;rw[h] at h';cases h'
section
variable {P:Ga}{w:GN}{H H':Hp}{h h':GY}{a:Fi}{o:HO}
theorem cx.lt (x:cx P w H h a o):a<h.objs.size:=by
 cases o with
 |lst xs=>obtain⟨_,_,_,_,e⟩:=x;exact FX e
 |tup xs=>obtain⟨_,_,_,p⟩:=x;exact p.lt
 |dK aD=>obtain⟨_,_,_,_,o,_,_,e,_⟩:=x;exact FX e
 |dT aD=>obtain⟨_,_,_,_,o,_,_,e,_⟩:=x;exact FX e
 |set S n=>obtain⟨o,_,_,_,e,_⟩:=x;exact FX e
 |ins C dx fs=>obtain⟨_,_,_,e,_⟩:=x;exact FX e
 |own y=>obtain⟨_,e⟩:=x;exact FX e
 |xd fs=>obtain⟨_,⟨_,_,_,e,_⟩,_⟩:=x;exact FX e
 |rng lo hi=>obtain⟨_,_,_,e⟩:=x;exact FX e
 |QN ob u=>obtain⟨e,_⟩:=x;exact FX e
 |Zn ps=>exact FX (show h.get? a=Fa _ from x)
 |met f y=>exact FX (show h.get? a=Fa _ from x)
 |ext φ=>obtain⟨_,⟨_,e⟩,_⟩:=x;exact FX e
theorem Paired.MU {α β:Type}{F G:α->β->Prop} : ∀ {l₁:E9 α}{l₂:E9 β},Paired F l₁ l₂->(∀a b,F a b->G a b)->Paired G l₁ l₂
 |_,_, .nil,_=> .nil
 |_,_, .cons r t,f=> .cons (f _ _ r) (Paired.MU t f)
theorem cx.RZ (x:cx P w H h a o) (k: ∀b u,(b=a\/H b=Fa (.own a))->h.get? b=Fa u->h'.get? b=Fa u)
  (ho: ∀b,H b=Fa (.own a)->H' b=Fa (.own a)) (ht: ∀b xs,H b=Fa (.tup xs)->H' b=Fa (.tup xs)):cx P w H' h' a o:=by
 induction o with
 |lst xs=>obtain⟨z,HD,n,r,e⟩:=x;exact#[z,HD,n,r,k _ _ (.inl Gc) e]
 |tup xs=>obtain⟨z,HD,r,ob,e,c⟩:=x;exact#[z,HD,r,ob,k _ _ (.inl Gc) e,c]
 |dK aD=>obtain⟨z,y,vs,r,ob,es,ep,e,c⟩:=x;exact#[z,y,vs,r,ob,es,ep,k _ _ (.inl Gc) e,c]
 |dT aD=>
  obtain⟨z,y,xs,r,ob,es,ep,e,c⟩:=x;exact#[z,y,xs,Paired.MU r λp q z=>#[z.1,ht _ _ z.2.1,z.2.2],ob,es,ep,k _ _ (.inl Gc) e,c]
 |set S n=>obtain⟨ob,es,ep,t,e,c⟩:=x;exact#[ob,es,ep,t,k _ _ (.inl Gc) e,c]
 |ins C dx fs=>
  obtain⟨d,z,ne,e,mA,⟨od,es,ep,e2,c⟩,r⟩:=x;exact#[ho _ d,z,ne,k _ _ (.inl Gc) e,mA,#[od,es,ep,k _ _ (.inr d) e2,c],r]
 |own y=>obtain⟨ob,e⟩:=x;exact#[ob,k _ _ (.inl Gc) e]
 |xd fs=>obtain⟨mA,⟨od,es,ep,e,c⟩,r⟩:=x;exact#[mA,#[od,es,ep,k _ _ (.inl Gc) e,c],r]
 |rng lo hi=>obtain⟨t,u,v,e⟩:=x;exact#[t,u,v,k _ _ (.inl Gc) e]
 |QN ob u ih=>obtain⟨e,q⟩:=x;exact#[k _ _ (.inl Gc) e,ih q]
 |Zn ps=>
  have e:h.get? a=Fa { cls:= .none,data:= .fields ps } :=x
  show h'.get? a=Fa { cls:= .none,data:= .fields ps }
  exact k a _ (.inl Gc) e
 |met f y=>
  have e:h.get? a=Fa (O8 (.ref f) (.ref y)):=x
  show h'.get? a=Fa (O8 (.ref f) (.ref y))
  exact k a _ (.inl Gc) e
 |ext φ=>obtain⟨p,⟨o,e⟩,st⟩:=x;exact#[st _ _ p λo q=>k _ _ (.inl Gc) q,#[o,k _ _ (.inl Gc) e],st]
theorem ib.lt (x:ib P w H h) (e:H a=Fa o):a<h.objs.size:=(x a o e).lt
theorem ib.fresh (x:ib P w H h) (e:h.objs.size<=a):H a=FB:=by
 cases q:H a with
 |none=>rfl
 |some u=>exact FH (F5 (x.lt q) e) (HZ _)
theorem ib.kept (x:ib P w H h) (k: ∀b u,h.get? b=Fa u->h'.get? b=Fa u):ib P w H h':=λa o e=>
 (x a o e).RZ (λb u _ q=>k b u q) [05] λ_ _ q=>q
theorem ib.laid (x:ib P w H h) (k: ∀b u,h.get? b=Fa u->h'.get? b=Fa u) (hp:h.objs.size<=a) (new:cx P w (aF H a o) h' a o):ib P w (aF H a o) h':=λb u e=>by
 have hn:=x.fresh hp;by_cases hb:b=a
 .subst hb;rw[ae] at e;cases e;exact new
 .rw[ac hb] at e
  exact(x b u e).RZ (λc v _ q=>k c v q) (λc q=>by rw[ac (ai q hn)];exact q) λc xs q=>by rw[ac (ai q hn)];exact q
end
def eQ:Ft HO->Prop
 |some (.lst _)=>True
 |some (.dK _)=>True
 |some (.dT _)=>True
 |some (.set _ _)=>True
 |some (.ins _ _ _)=>True
 |some (.ext _)=>True
 |_=>False
section
variable {P:Ga}{w:GN}{H:Hp}{h h':GY}{x e:Fi}{o':HO}
theorem ib.write (ok:ib P w H h) (mu:eQ (H x)) (he:e=x\/H e=Fa (.own x)) (k: ∀b u,b≠e->h.get? b=Fa u->h'.get? b=Fa u) (heo: ∃u,h'.get? e=Fa u)
  (new:cx P w (aF H x o') h' x o'):ib P w (aF H x o') h':=λb u q=>by
 have afs: ∀c y,H c=Fa (.own y)->c≠x:=λc y r z=>by subst z;rw[r] at mu;exact mu
 have akB: ∀c xs,H c=Fa (.tup xs)->c≠x:=λc xs r z=>by subst z;rw[r] at mu;exact mu
 by_cases hb:b=x
 .subst hb;rw[ae] at q;cases q;exact new
 .rw[ac hb] at q
  by_cases hbe:b=e
  .have q':H b=Fa (.own x):=by
    rcases he with z|z
    .exact FH (hbe.trans z) hb
    .rw[hbe];exact z
   rw[q] at q';cases q';obtain⟨v,hv⟩:=heo;exact#[v,by rw[hbe];exact hv]
  .refine(ok b u q).RZ (λc v hc r=>k c v ?_ r) (λc r=>by rw[ac (afs c b r)];exact r) λc xs r=>by rw[ac (akB c xs r)];exact r
   rcases hc with rfl|hc
   .exact hbe
   .rintro rfl
    rcases he with z|z
    .exact afs c b hc z
    .rw[hc] at z;cases z;exact hb Gc
end
section
variable {fs fs' ex ex':E9 Fi}{H H1 H2:Hp}{h h1 h2 h':GY}{a x e:Fi}{o:HO}
theorem Un.any (u:Un fs ex H H1 h h1) {b:Fi}(q:h.get? b=Fa ob) (n:H b=FB) (hx:b∉ex): ∃sl,h1.get? b=Fa { ob with slots:=sl } :=by
 by_cases hb:b∈fs
 .exact u.slot b ob q n hb hx
 .exact#[ob.slots,u.keep b ob q n hb hx]
theorem Un.kept (k: ∀b u,h.get? b=Fa u->h'.get? b=Fa u):Un fs ex H H h h':=
 #[λb ob q _ _ _=>k b ob q,λb ob q _ _ _=>#[ob.slots,k b ob q],λ_ _ _ n _=>n,λb ob q _=>#[ob,k b ob q],λ_ _ q=>q,λ_ _ _ q=>q,λ_ ps q=>#[[].toArray,by rw[q];simp]]
theorem Un.refl:Un fs ex H H h h:=Un.kept λ_ _ q=>q
theorem Un.laid (k: ∀b u,h.get? b=Fa u->h'.get? b=Fa u) (hp:h.objs.size<=a) (hn:H a=FB):Un fs ex H (aF H a o) h h' where
 keep:=λb u q _ _ _=>k b u q
 slot:=λb u q _ _ _=>#[u.slots,k b u q]
 free:=λb u q n _=>by rw[ac (Ha (F5 (FX q) hp))];exact n
 there:=λb u q _=>#[u,k b u q]
 Ra:=λb xs q=>by rw[ac (ai q hn)];exact q
 QO:=λb u xs q=>by rw[ac (ai q hn)];exact q
 Rc:=λb ps q=>#[[].toArray,by rw[ac (ai q hn),q];simp]
theorem Un.write (mu:eQ (H x)) (he:e=x\/H e=Fa (.own x)) (k: ∀b u,b≠e->h.get? b=Fa u->h'.get? b=Fa u) (heo: ∃u,h'.get? e=Fa u):Un fs ex H (aF H x o) h h':=by
 have hx: ∀b,H b=FB->b≠x:=λb n z=>by subst z;rw[n] at mu;exact mu
 have hb: ∀b,H b=FB->b≠e:=λb n z=>by
  subst z;rcases he with r|r
  .exact hx b n r
  .rw[n] at r;cases r
 have hm: ∀b u,H b=Fa u-> ¬eQ (Fa u)->b≠x:=λb u q nm z=>by subst z;rw[q] at mu;exact nm mu
 refine#[λb u q n _ _=>k b u (hb b n) q,λb u q n _ _=>#[u.slots,k b u (hb b n) q],λb u q n _=>by rw[ac (hx b n)];exact n,λb u q _=>?_,
  λb xs q=>by rw[ac (hm b _ q λz=>z)];exact q,λb u xs q=>by rw[ac (hm b _ q λz=>z)];exact q,λb ps q=>#[[].toArray,by rw[ac (hm b _ q λz=>z),q];simp]]
 by_cases hbe:b=e
 .subst hbe;exact heo
 .exact#[u,k b u hbe q]
end
structure Cx where
 prog:Ga
 w:GN
 K:Fe
 mg:FR->Ft Fh
 base:GY
 A:GV
 N:E9 FR
 PV:Fn
 H_0:Hp
 env:Env
 outer:E9 Env
 stack:E9 Env
 ex:E9 Fi
 fn:FR->Gu
 calm:Gu
 pn:E9 (Fi×IW)
 xe:Fh->Fn->Prop
abbrev Cx.fs (X:Cx):E9 Fi:=rK X.outer
def oU (sc:Scope) (x:FR):Prop:=sc.names.lookup x=Fa .local\/sc.names.lookup x=Fa .cell\/sc.names.lookup x=Fa .free
def Loc (sc:Scope) (x:FR):Prop:=sc.names.lookup x=Fa .local\/sc.names.lookup x=Fa .cell
def Look (env:Env) (h:GY) (m:FR->Ft Fh) (x:FR) (u:Fh):Prop:=
 (env.kindOf x=Fa .local/\m x=Fa u)\/((env.kindOf x=Fa .cell\/env.kindOf x=Fa .free)/\ ∃c,env.cells.lookup x=Fa c/\h.IsCell c (Fa u))
structure Cx.Ok (X:Cx):Prop where
 mod:Mod X.K X.mg X.base
 kind:X.env.scope.kind= .function
 glob:X.env.globals=Jp
 blt:X.env.builtins=Y7
 above:X.PV.heap.objs.size<=X.env.locals
 inj: ∀x y c,X.env.cells.lookup x=Fa c->X.env.cells.lookup y=Fa c->x=y
 has: ∀x,(X.env.kindOf x=Fa .cell\/X.env.kindOf x=Fa .free)-> ∃c,X.env.cells.lookup x=Fa c
 Yc: ∀x c,X.fn x=FM->X.env.cells.lookup x=Fa c->X.PV.heap.objs.size<=c
 hd:X.calm=FM->X.A.handled=FB
 frames:X.A.frames=Fa X.stack
 Yd:X.stack=X.outer\/(X.stack=X.env::X.outer/\X.env.frame=Fa X.env.locals)
 exf: ∀b∈X.ex,b≠X.env.locals/\ ∀x c,X.env.cells.lookup x=Fa c->c≠b
 bs: ∀b o,X.base.get? b=Fa o->X.PV.heap.get? b=Fa o/\X.H_0 b=FB
 U5:X.base.objs.size<=X.PV.heap.objs.size
 SS: ∀b o,X.base.get? b=Fa o->b∉X.ex
 SU: ∀b∈X.ex,b∉X.fs
 funs:X.PV.heap.FunFrames X.base X.outer
 WC: ∀b∈X.fs,X.H_0 b=FB
structure aE (X:Cx) (pins:E9 (Fi×IW)) (σ:E9 (Ft V)) (H:Hp) (s:Fn):Prop where
 ok:X.Ok
 os:s.os=X.PV.os
 bare:Qb s.gens
 base:Un X.fs X.ex X.H_0 H X.PV.heap s.heap
 loc: ∃m,s.heap.Ns X.env.locals m/\ ∀(i:FC) (x:FR) (v:V),X.N[i]?=Fa x->σ[i]?=Fa (Fa v)->oU X.env.scope x-> ∃u,bh v u/\Look X.env s.heap m x u
 cell: ∀x c,X.env.cells.lookup x=Fa c-> ∃v,s.heap.IsCell c v
 free:H X.env.locals=FB
 Mp: ∀x c,X.env.cells.lookup x=Fa c->H c=FB
 pin: ∀p∈X.pn++pins,s.heap.get? p.1=Fa p.2/\H p.1=FB/\p.1≠X.env.locals/\p.1∉X.fs/\ ∀v,p.2.data≠ .cell v
 Iu:ib X.prog X.w H s.heap
 len:σ.length=X.N.length
section
variable {X:Cx}{pins:E9 (Fi×IW)}{σ:E9 (Ft V)}{H H':Hp}{s:Fn}{h':GY}
theorem Cx.Ok.akC (ok:X.Ok) {b:Fi}{o:IW}(e:X.base.get? b=Fa o):b∉X.fs:=λhb=>by
 have:=(ok.funs.mem hb).1;rw[e] at this;cases this
theorem aE.bs (I:aE X pins σ H s): ∀b o,X.base.get? b=Fa o->s.heap.get? b=Fa o/\H b=FB:=λb o e=>
 #[I.base.keep b o (I.ok.bs b o e).1 (I.ok.bs b o e).2 (I.ok.akC e) (I.ok.SS b o e),I.base.free b o (I.ok.bs b o e).1 (I.ok.bs b o e).2 (I.ok.SS b o e)]
theorem aE.bk (I:aE X pins σ H s): ∀b o,X.base.get? b=Fa o->s.heap.get? b=Fa o:=λb o e=>(I.bs b o e).1
theorem aE.mod (I:aE X pins σ H s):Mod X.K X.mg X.base:=I.ok.mod
theorem aE.ND (I:aE X pins σ H s):X.K.In s.heap:=I.ok.mod.Vz.keeps I.bk
theorem aE.fr (I:aE X pins σ H s): ∃m,Fr X.base X.env.locals s.heap m:=
 let ⟨m,hn,_⟩:=I.loc
 #[m,hn,I.bk,FP I.ok.U5 I.ok.above]
theorem aE.lt (I:aE X pins σ H s):X.env.locals<s.heap.objs.size:=let ⟨_,hn,_⟩:=I.loc;hn.lt
theorem aE.sz (I:aE X pins σ H s):X.PV.heap.objs.size<=s.heap.objs.size:=FP I.ok.above (KD I.lt)
theorem aE.akD (I:aE X pins σ H s) {a:Fi}(h:s.heap.objs.size<=a):a∉X.fs:=λhb=>by
 obtain⟨_,o,ho,_⟩:=I.ok.funs.mem hb;exact FH (F5 (FX ho) (FP I.sz h)) (HZ _)
theorem aE.Ye (I:aE X pins σ H s): ∀x c,X.env.cells.lookup x=Fa c->c≠X.env.locals:=λx c e z=>by
 obtain⟨v,o,ho,hd⟩:=I.cell x c e;obtain⟨m,⟨o',es,ep,Rx,Xr,_⟩,_⟩:=I.loc;rw[z,Rx] at ho;cases ho;rw[Xr] at hd;cases hd
theorem aE.funs (I:aE X pins σ H s):s.heap.FunFrames X.base X.outer:=by
 have all: ∀(l:E9 Env),(∀b∈rK l,b∈X.fs)->X.PV.heap.FunFrames X.base l->s.heap.FunFrames X.base l:=by
  intro l
  induction l with
  |nil=>intro _ _;trivial
  |cons env r ih=>
   intro hs hl;obtain⟨hk,⟨L,o,hf,hn,ho,hd⟩,hr⟩:=hl;have hL:L∈X.fs:=hs L (by unfold rK;rw[KL,hf];exact Fq);obtain⟨sl,e⟩:=I.base.slot L o ho (I.ok.WC L hL) hL λz=>I.ok.SU L z hL;exact#[hk,#[L,_,hf,hn,e,hd],ih (λb hb=>hs b (by unfold rK;rw[KL,hf];exact Fp _ hb)) hr]
 exact all X.outer (λ_ hb=>hb) I.ok.funs
theorem aE.stack (I:aE X pins σ H s):s.heap.FunFrames X.base X.stack:=by
 rcases I.ok.Yd with e|⟨e,hf⟩
 .rw[e];exact I.funs
 .rw[e]
  obtain⟨m,hn,_⟩:=I.loc;refine .cons (by rw[I.ok.kind];decide) hf hn ?_ I.funs;exact GY.get?_none_of_le (FP I.ok.U5 I.ok.above)
theorem aE.R7 (I:aE X pins σ H s): ∀b∈rK X.stack,b∈X.env.locals::X.fs:=λb hb=>by
 rcases I.ok.Yd with e|⟨e,hf⟩
 .rw[e] at hb;exact Fp _ hb
 .rw[e] at hb
  unfold rK at hb;rw[KL,hf] at hb;exact hb
theorem aE.QH (I:aE X pins σ H s): ∀b∈rK X.stack,H b=FB:=λb hb=>by
 rcases Fy.mp (I.R7 b hb) with e|hb
 .rw[e];exact I.free
 .obtain⟨_,o,ho,_⟩:=I.ok.funs.mem hb
  exact I.base.free b o ho (I.ok.WC b hb) λz=>I.ok.SU b z hb
theorem aE.step {g':Jw Q8}{t':FC}{d':Drawn}{ch:E9 Fi}(I:aE X pins σ H s)
  (T4: ∀b∈ch,(b∈X.ex\/X.PV.heap.objs.size<=b)/\b≠X.env.locals/\(∀x c,X.env.cells.lookup x=Fa c->c≠b)/\ ∀p∈X.pn++pins,p.1≠b)
  (keep: ∀b o,b≠X.env.locals->b∉X.fs->b∉ch->s.heap.get? b=Fa o->H b=FB->h'.get? b=Fa o)
  (slot: ∀b o,b≠X.env.locals->b∈X.fs->b∉ch->s.heap.get? b=Fa o->H b=FB-> ∃sl,h'.get? b=Fa { o with slots:=sl }) (free: ∀b o,b∉ch->s.heap.get? b=Fa o->H b=FB->H' b=FB)
  (there: ∀b o,b∉ch->s.heap.get? b=Fa o-> ∃o',h'.get? b=Fa o')
  (Ra: ∀b xs,H b=Fa (.tup xs)->H' b=Fa (.tup xs)) (QO: ∀b o u,H b=Fa (.QN o u)->H' b=Fa (.QN o u)) (Rc: ∀b ps,H b=Fa (.Zn ps)-> ∃more,H' b=Fa (.Zn (ps++more)))
  (ns: ∀m,s.heap.Ns X.env.locals m->h'.Ns X.env.locals m) (Iu:ib X.prog X.w H' h') (hg:Qb g'):
  aE X pins σ H' { s with heap:=h',gens:=g',drawn:=d',toks:=t' } :=by
 have neL: ∀b o,X.PV.heap.get? b=Fa o->b≠X.env.locals:=λb o e=>Ha (F5 (FX e) I.ok.above)
 have neC: ∀b o,X.PV.heap.get? b=Fa o->b∉X.ex->b∉ch:=λb o e hx hb=>by
  rcases(T4 b hb).1 with z|z
  .exact hx z
  .exact FH (F5 (FX e) z) (HZ _)
 have cellK: ∀x c,X.env.cells.lookup x=Fa c-> ∀v,s.heap.IsCell c v->h'.IsCell c v:=λx c e v ⟨o,ho,hd⟩=>by
  have nch:c∉ch:=λz=>(T4 c z).2.2.1 x c e Gc
  by_cases hc:c∈X.fs
  .obtain⟨sl,q⟩:=slot c o (I.Ye x c e) hc nch ho (I.Mp x c e)
   exact#[_,q,hd]
  .exact#[o,keep c o (I.Ye x c e) hc nch ho (I.Mp x c e),hd]
 refine#[I.ok,I.os,hg,#[λb o e n hb hx=>?_,λb o e n hb hx=>?_,λb o e n hx=>?_,λb o e hx=>?_,λb xs e=>Ra b xs (I.base.Ra b xs e),λb o xs e=>QO b o xs (I.base.QO b o xs e),λb ps e=>?_],?_,λx c e=>?_,?_,λx c e=>?_,λp hp=>?_,Iu,I.len]
 .exact keep b o (neL b o e) hb (neC b o e hx) (I.base.keep b o e n hb hx) (I.base.free b o e n hx)
 .obtain⟨sl,e1⟩:=I.base.slot b o e n hb hx
  obtain⟨sl',e2⟩:=slot b _ (neL b o e) hb (neC b o e hx) e1 (I.base.free b o e n hx);exact#[sl',e2]
 .obtain⟨o',e1⟩:=I.base.there b o e hx
  exact free b o' (neC b o e hx) e1 (I.base.free b o e n hx)
 .obtain⟨o',e1⟩:=I.base.there b o e hx
  exact there b o' (neC b o e hx) e1
 .obtain⟨m1,e1⟩:=I.base.Rc b ps e
  obtain⟨m2,e2⟩:=Rc b _ e1;exact#[m1++m2,by rw[e2,Jw.append_assoc]]
 .obtain⟨m,hn,hl⟩:=I.loc
  refine#[m,ns m hn,λi x v e1 e2 e3=>?_];obtain⟨u,r,l⟩:=hl i x v e1 e2 e3;refine#[u,r,?_];rcases l with l|⟨k,c,e,z⟩
  .exact .inl l
  .exact .inr #[k,c,e,cellK x c e _ z]
 .obtain⟨v,z⟩:=I.cell x c e
  exact#[v,cellK x c e v z]
 .obtain⟨m,⟨o,_,_,ho,_⟩,_⟩:=I.loc
  exact free _ o (λz=>(T4 _ z).2.1 Gc) ho I.free
 .obtain⟨v,o,ho,hd⟩:=I.cell x c e
  exact free c o (λz=>(T4 c z).2.2.1 x c e Gc) ho (I.Mp x c e)
 .obtain⟨e,n,ne,nf,d⟩:=I.pin p hp
  have nch:p.1∉ch:=λz=>(T4 p.1 z).2.2.2 p hp Gc
  exact#[keep p.1 p.2 ne nf nch e n,free p.1 p.2 nch e n,ne,nf,d]
theorem aE.un {t':FC}(I:aE X pins σ H s) (u:Un X.fs [] H H' s.heap h') (Iu:ib X.prog X.w H' h'):aE X pins σ H' { s with heap:=h',toks:=t' } :=by
 obtain⟨m,⟨o,es,ep,ho,r⟩,_⟩:=id I.loc;obtain⟨sl,hL⟩:=u.any ho I.free (by simp);exact I.step (g':=s.gens) (d':=s.drawn) (ch:=[]) (λ_ z=>nomatch z) (λb o _ hb _ e n=>u.keep b o e n hb (by simp)) (λb o _ hb _ e n=>u.slot b o e n hb (by simp)) (λb o _ e n=>u.free b o e n (by simp)) (λb o _ e=>u.there b o e (by simp)) u.Ra u.QO u.Rc (λm' hm=>by
  obtain⟨o',es',ep',Rx,r'⟩:=hm;rw[ho] at Rx;cases Rx;exact#[_,es',ep',hL,r']) Iu I.bare
theorem aE.call {g':Jw Q8}{t':FC}{d':Drawn}{ch:E9 Fi}(I:aE X pins σ H s) (u:Un (rK X.stack) ch H H' s.heap h') (Iu:ib X.prog X.w H' h') (hg:Qb g')
  (T4: ∀b∈ch,(b∈X.ex\/X.PV.heap.objs.size<=b)/\b≠X.env.locals/\(∀x c,X.env.cells.lookup x=Fa c->c≠b)/\ ∀p∈X.pn++pins,p.1≠b):
  aE X pins σ H' { s with heap:=h',gens:=g',drawn:=d',toks:=t' } :=by
 obtain⟨m,⟨o,es,ep,ho,r⟩,_⟩:=id I.loc;obtain⟨sl,hL⟩:=u.any ho I.free λz=>(T4 _ z).2.1 Gc;exact I.step (ch:=ch) T4 (λb o hL hb hc e n=>u.keep b o e n (λz=>(Fy.mp (I.R7 b z)).elim hL hb) hc) (λb o _ _ hc e n=>u.any e n hc) (λb o hc e n=>u.free b o e n hc) (λb o hc e=>u.there b o e hc) u.Ra u.QO u.Rc (λm' hm=>by
  obtain⟨o',es',ep',Rx,r'⟩:=hm;rw[ho] at Rx;cases Rx;exact#[_,es',ep',hL,r']) Iu hg
theorem aE.turned {t':FC}{it:Fi}(I:aE X pins σ H s) (k: ∀b o,b≠it->s.heap.get? b=Fa o->h'.get? b=Fa o) (hn:H it=FB) (hL:it≠X.env.locals)
  (h1:it∈X.ex\/X.PV.heap.objs.size<=it) (h2: ∀x c,X.env.cells.lookup x=Fa c->c≠it) (h3: ∀p∈X.pn++pins,p.1≠it):aE X pins σ H { s with heap:=h',toks:=t' } :=by
 have nit: ∀b u,H b=Fa u->b≠it:=λb u e z=>by rw[z,hn] at e;cases e
 refine I.step (g':=s.gens) (d':=s.drawn) (ch:=[it]) (λb hb=>?_) (λb o _ _ hc e _=>k b o (λz=>hc (by simp [z])) e) (λb o _ _ hc e _=>#[o.slots,k b o (λz=>hc (by simp [z])) e]) (λ_ _ _ _ n=>n)
  (λb o hc e=>#[o,k b o (λz=>hc (by simp [z])) e]) (λ_ _ e=>e) (λ_ _ _ e=>e) (λb ps e=>#[[].toArray,by rw[e];simp]) (λm hm=>?_) (λb u e=>?_) I.bare
 .have e:b=it:=by simpa using hb
  subst e;exact#[h1,hL,h2,h3]
 .obtain⟨o,es,ep,ho,r⟩:=hm
  exact#[o,es,ep,k _ o (IG hL) ho,r]
 .refine(I.Iu b u e).RZ (λc v hc q=>k c v ?_ q) [05] λ_ _ q=>q
  rcases hc with z|z
  .rw[z];exact nit b u e
  .exact nit c _ z
theorem aE.tok (I:aE X pins σ H s) (t:FC):aE X pins σ H { s with toks:=t } :=I.un (h':=s.heap) (t':=t) Un.refl I.Iu
theorem aE.kept (I:aE X pins σ H s) (k: ∀b u,s.heap.get? b=Fa u->h'.get? b=Fa u):aE X pins σ H { s with heap:=h',toks:=t' } :=I.un (Un.kept k) (I.Iu.kept k)
theorem aE.laid {a:Fi}{o:HO}(I:aE X pins σ H s) (k: ∀b u,s.heap.get? b=Fa u->h'.get? b=Fa u) (hp:s.heap.objs.size<=a) (new:cx X.prog X.w (aF H a o) h' a o):
  aE X pins σ (aF H a o) { s with heap:=h',toks:=t' } :=I.un (Un.laid k hp (I.Iu.fresh hp)) (I.Iu.laid k hp new)
theorem aE.write {x e:Fi}{o:HO}(I:aE X pins σ H s) (mu:eQ (H x)) (he:e=x\/H e=Fa (.own x)) (k: ∀b u,b≠e->s.heap.get? b=Fa u->h'.get? b=Fa u) (heo: ∃u,h'.get? e=Fa u)
  (new:cx X.prog X.w (aF H x o) h' x o):aE X pins σ (aF H x o) { s with heap:=h',toks:=t' } :=I.un (Un.write mu he k heo) (I.Iu.write mu he k heo new)
theorem aE.weak (I:aE X pins σ H s) (hl:σ'.length=σ.length) (w: ∀(i:FC) v,σ'[i]?=Fa (Fa v)->σ[i]?=Fa (Fa v)):aE X pins σ' H s:=
 #[I.ok,I.os,I.bare,I.base,let ⟨m,hn,hl'⟩:=I.loc;#[m,hn,λi x v e1 e2 e3=>hl' i x v e1 (w i v e2) e3],I.cell,I.free,I.Mp,I.pin,I.Iu,hl.trans I.len]
theorem aE.UC (I:aE X pins σ H s) (h: ∀p∈UD,s.heap.get? p.1=Fa p.2/\H p.1=FB/\p.1≠X.env.locals/\p.1∉X.fs/\ ∀v,p.2.data≠ .cell v):aE X UD σ H s:=
 #[I.ok,I.os,I.bare,I.base,I.loc,I.cell,I.free,I.Mp,λp hp=>(FY.mp hp).elim (λz=>I.pin p (Md _ z)) (h p),I.Iu,I.len]
theorem oP {N:E9 FR}(hN:N.Nodup) {i j:FC}{x:FR}(a:N[i]?=Fa x) (b:N[j]?=Fa x):i=j:=by
 obtain⟨h1,e1⟩:=Gh.mp a;obtain⟨h2,e2⟩:=Gh.mp b;exact(E9.getElem_inj hN).mp (e1.trans e2.symm)
theorem yL {M:Model}{A:GV}{E:Fh->Fn->Prop}{i:FC}{x:FR}{v:V}{u:Fh}{Q:Nc->Fn->Prop}(I:aE X pins σ H s) (hN:X.N.Nodup) (hi:X.N[i]?=Fa x) (hx:Loc X.env.scope x) (r:bh v u)
  (h: ∀s',aE X pins (σ.set i (Fa v)) H s'->(∃a,MK a s.heap s'.heap/\(a=X.env.locals\/X.env.cells.lookup x=Fa a))->Q () s') (hf:X.fn x=FM\/X.env.scope.names.lookup x=Fa .local:=by first|exact .inl rfl|exact .inr rfl|assumption):FV M A (storeName X.env x u) Q E s:=by
 obtain⟨m,hn,hl⟩:=id I.loc;have aar:(X.env.scope.kind == .class||(X.env.scope.kind == .module&&X.env.locals !=X.env.globals))=FS:=by rw[I.ok.kind];rfl
 have hiσ:i<σ.length:=by rw[I.len];exact(Gh.mp hi).1
 have Ye:=I.Ye
 have tracked: ∀ {a:Fi}{h':GY},(∃o,s.heap.get? a=Fa o/\H a=FB)->MK a s.heap h'->ib X.prog X.w H h':=λ{a h'} ha hs b ob e=>by
  obtain⟨_,_,Ry⟩:=ha;refine(I.Iu b ob e).RZ (λc w' hc q=>(hs.2 c ?_).trans q) [05] λ_ _ q=>q;rintro rfl;rcases hc with rfl|hc
  .rw[Ry] at e;cases e
  .rw[Ry] at hc;cases hc
 rcases hx with hk|hk
 .refine wpAny_storeName_local hk hn (λh' Yf hs=>?_) aar
  obtain⟨oL,_,_,hoL,_⟩:=id hn;refine h _ #[I.ok,I.os,I.bare,#[λb o e n hb hx=>?_,λb o e n hb hx=>?_,I.base.free,λb o e hx=>?_,I.base.Ra,I.base.QO,I.base.Rc],#[_,Yf,λj y v' e1 e2 e3=>?_],λy c e=>?_,I.free,I.Mp,λp hp=>?_,tracked #[oL,hoL,I.free] hs,by simpa using I.len] #[_,hs, .inl Gc]
  .exact(hs.2 b (Ha (F5 (FX e) I.ok.above))).trans (I.base.keep b o e n hb hx)
  .obtain⟨sl,e1⟩:=I.base.slot b o e n hb hx
   exact#[sl,(hs.2 b (Ha (F5 (FX e) I.ok.above))).trans e1]
  .obtain⟨o',e1⟩:=I.base.there b o e hx
   exact#[o',(hs.2 b (Ha (F5 (FX e) I.ok.above))).trans e1]
  .by_cases hj:j=i
   .subst hj
    rw[hi] at e1;cases e1;rw[N4 hiσ] at e2;cases e2;exact#[u,r, .inl #[hk,by simp]]
   .rw[OE (IG hj)] at e2
    obtain⟨u',r',q⟩:=hl j y v' e1 e2 e3;refine#[u',r',?_];rcases q with⟨k,e⟩|⟨k,c,e,z⟩
    .refine .inl #[k,?_]
     have:y≠x:=λe=>hj (oP hN e1 (e▸hi))
     simp [this,e]
    .exact .inr #[k,c,e,z.sameBut hs (Ye y c e)]
  .obtain⟨w',z⟩:=I.cell y c e
   exact#[w',z.sameBut hs (Ye y c e)]
  .obtain⟨e,n,ne,nf,d⟩:=I.pin p hp
   exact#[(hs.2 p.1 ne).trans e,n,ne,nf,d]
 .have UE:X.fn x=FM:=by
   rcases hf with z|z
   .exact z
   .rw[z] at hk;cases hk
  obtain⟨c,hc⟩:=I.ok.has x (.inl hk);obtain⟨w',z⟩:=I.cell x c hc;refine wpAny_storeName_cell I.ok.kind hk hc z (λh' WI hs=>?_);obtain⟨oc,hoc,akE⟩:=id z;refine h { s with heap:=h' } #[I.ok,I.os,I.bare,#[λb o e n hb hx=>?_,λb o e n hb hx=>?_,I.base.free,λb o e hx=>?_,I.base.Ra,I.base.QO,I.base.Rc],#[m,hn.sameBut hs (IG (Ye x c hc)),λj y v' e1 e2 e3=>?_],λy c' e=>?_,I.free,I.Mp,λp hp=>?_,tracked #[oc,hoc,I.Mp x c hc] hs,by simpa using I.len] #[c,hs, .inr hc]
  .exact(hs.2 b (Ha (F5 (FX e) (I.ok.Yc x c UE hc)))).trans (I.base.keep b o e n hb hx)
  .obtain⟨sl,e1⟩:=I.base.slot b o e n hb hx
   exact#[sl,(hs.2 b (Ha (F5 (FX e) (I.ok.Yc x c UE hc)))).trans e1]
  .obtain⟨o',e1⟩:=I.base.there b o e hx
   exact#[o',(hs.2 b (Ha (F5 (FX e) (I.ok.Yc x c UE hc)))).trans e1]
  .by_cases hj:j=i
   .subst hj
    rw[hi] at e1;cases e1;rw[N4 hiσ] at e2;cases e2;exact#[u,r, .inr #[.inl hk,c,hc,WI]]
   .rw[OE (IG hj)] at e2
    obtain⟨u',r',q⟩:=hl j y v' e1 e2 e3;refine#[u',r',?_];rcases q with q|⟨k,c',e,z'⟩
    .exact .inl q
    .refine .inr #[k,c',e,z'.sameBut hs ?_]
     rintro rfl;exact hj (oP hN e1 (I.ok.inj _ _ _ e hc▸hi))
  .by_cases hcc:c'=c
   .subst hcc;exact#[_,WI]
   .obtain⟨w2,z2⟩:=I.cell y c' e
    exact#[w2,z2.sameBut hs hcc]
  .obtain⟨e,n,ne,nf,d⟩:=I.pin p hp
   refine#[(hs.2 p.1 ?_).trans e,n,ne,nf,d];intro q;rw[q,hoc] at e;have q':oc=p.2:=FG e;exact d w' (by rw[<-q'];exact akE)
theorem jN {A:GV}{E:Fh->Fn->Prop}{i:FC}{x:FR}{v:V}{u:Fh}{Q:Nc->Fn->Prop}(I:aE X pins σ H s) (hN:X.N.Nodup) (hi:X.N[i]?=Fa x) (hx:Loc X.env.scope x) (r:bh v u)
  (h: ∀s',aE X pins (σ.set i (Fa v)) H s'->Q () s') (hf:X.fn x=FM\/X.env.scope.names.lookup x=Fa .local:=by first|exact .inl rfl|exact .inr rfl|assumption):FV M A (storeName X.env x u) Q E s:=
 yL I hN hi hx r (λs' I' _=>h s' I') hf
theorem aE.Wg {s':Fn}(I:aE X pins σ H s) (ho:s'.os=s.os) (u:Un (rK X.stack) ch H H' s.heap s'.heap) (Iu:ib X.prog X.w H' s'.heap) (hg:Qb s'.gens)
  (T4: ∀b∈ch,(b∈X.ex\/X.PV.heap.objs.size<=b)/\b≠X.env.locals/\(∀x c,X.env.cells.lookup x=Fa c->c≠b)/\ ∀p∈X.pn++pins,p.1≠b):aE X pins σ H' s':=by
 obtain⟨h',g',d',t',o'⟩:=s';have e:o'=s.os:=ho;subst e;exact I.call (g':=g') (t':=t') (d':=d') u Iu hg T4
end
abbrev St:=E9 (Ft V)
abbrev TE:=St->Hp->VK->Prop
abbrev TT:=St->Hp->(Gu->Hp->Prop)->Prop
abbrev TA:=St->Hp->(E9 V->Hp->Prop)->Prop
structure eA where
 nx:St->Hp->Prop
 rt:VK
 bk:St->Hp->Prop:=λ_ _=>False
 ct:St->Hp->Prop:=λ_ _=>False
abbrev TS:=eA->St->Hp->Prop
inductive EP (X:Cx) (pins:E9 (Fi×IW)) (σ:St) (Q:VK) (u:Fh) (s':Fn):Prop
 |mk (v:V) (H':Hp) (_:aE X pins σ H' s') (_:bh v u) (_:Q v H'):EP X pins σ Q u s'
def TP (X:Cx) (pins:E9 (Fi×IW)) (σ:St) (Q:Gu->Hp->Prop) (b:Gu) (s':Fn):Prop:= ∃H',aE X pins σ H' s'/\Q b H'
inductive AP (X:Cx) (pins:E9 (Fi×IW)) (σ:St) (Q:E9 V->Hp->Prop) (us:E9 Fh) (s':Fn):Prop
 |mk (vs:E9 V) (H':Hp) (_:aE X pins σ H' s') (_:aX vs us) (_:Q vs H'):AP X pins σ Q us s'
def SP (X:Cx) (pins:E9 (Fi×IW)) (D:eA) (f:Flow) (s':Fn):Prop:=
 match f with
 | .next=> ∃σ' H',aE X pins σ' H' s'/\D.nx σ' H'
 | .brk=> ∃σ' H',aE X pins σ' H' s'/\D.bk σ' H'
 | .cont=> ∃σ' H',aE X pins σ' H' s'/\D.ct σ' H'
 | .ret u=> ∃v σ' H',aE X pins σ' H' s'/\bh v u/\D.rt v H'
def PE (X:Cx) (e:HH) (t:TE):Prop:=
 ∀(pins:E9 (Fi×IW)) (s:Fn) (σ:St) (H:Hp) (Q:VK),aE X pins σ H s->t σ H Q->FV (model X.prog X.w) X.A (eval e X.env) (EP X pins σ Q) X.xe s
def PT (X:Cx) (e:HH) (t:TT):Prop:=
 ∀(pins:E9 (Fi×IW)) (s:Fn) (σ:St) (H:Hp) (Q:Gu->Hp->Prop),aE X pins σ H s->t σ H Q->FV (model X.prog X.w) X.A (isTrue e X.env (eval e X.env)) (TP X pins σ Q) X.xe s
def PW (X:Cx) (e:HH) (t:TT):Prop:=
 ∀(whole:Sem Fh) (pins:E9 (Fi×IW)) (s:Fn) (σ:St) (H:Hp) (Q:Gu->Hp->Prop),aE X pins σ H s->t σ H Q->FV (model X.prog X.w) X.A (isTrue e X.env whole) (TP X pins σ Q) X.xe s
theorem PW.pt {X:Cx}{e:HH}{t:TT}(h:PW X e t):PT X e t:=h _
def PA (X:Cx) (es:E9 HH) (t:TA):Prop:=
 ∀(pos:Pos) (pins:E9 (Fi×IW)) (s:Fn) (σ:St) (H:Hp) (Q:E9 V->Hp->Prop),aE X pins σ H s->t σ H Q->FV (model X.prog X.w) X.A (spliced (IV pos (FK es X.env))) (AP X pins σ Q) X.xe s
def PS (X:Cx) (st:Stmt) (t:TS):Prop:=
 ∀(pins:E9 (Fi×IW)) (s:Fn) (σ:St) (H:Hp) (D:eA),aE X pins σ H s->t D σ H->FV (model X.prog X.w) X.A (exec st X.env) (SP X pins D) X.xe s
def uo (X:Cx) (st:E9 Stmt) (t:TS):Prop:=
 ∀(pins:E9 (Fi×IW)) (s:Fn) (σ:St) (H:Hp) (D:eA),aE X pins σ H s->t D σ H->FV (model X.prog X.w) X.A (execs st X.env) (SP X pins D) X.xe s
inductive Bd (X:Cx) (st:E9 Stmt) (D:eA) (σ:St) (H:Hp):Prop
 |mk (t:TS) (_:uo X st t) (_:t D σ H):Bd X st D σ H
theorem b8 {α:Type}{t:Sem α}{Q Q':α->Fn->Prop}{A:GV}{E:Fh->Fn->Prop}{s:Fn}(h:FV M A t Q E s) (hQ: ∀a s,Q a s->Q' a s):FV M A t Q' E s:=ID h hQ λ_ _ x=>x
section
variable {X:Cx}
theorem bin {a b:HH}{ta tb:TE}(ha:PE X a ta) (hb:PE X b tb) {pins:E9 (Fi×IW)}{s:Fn}{σ:St}{H:Hp}{R:V->V->Hp->Prop}(I:aE X pins σ H s) (h:ta σ H λx H1=>tb σ H1 λy H2=>R x y H2)
  {α:Type}{Q:α->Fn->Prop}{f:Fh->Fh->Sem α}
  (hf: ∀v u s2 x y H2,aE X pins σ H2 s2->bh x v->bh y u->R x y H2->FV (model X.prog X.w) X.A (f v u) Q X.xe s2):
  FV (model X.prog X.w) X.A (eval a X.env) (λv s₁=>FV (model X.prog X.w) X.A (eval b X.env) (λu s₂=>FV (model X.prog X.w) X.A (f v u) Q X.xe s₂) X.xe s₁) X.xe s:=by
 refine b8 (ha pins s σ H _ I h) λv s1 ⟨x,H1,I1,r1,q1⟩=>?_;refine b8 (hb pins s1 σ H1 _ I1 q1) λu s2 ⟨y,H2,I2,r2,q2⟩=>?_;exact hf v u s2 x y H2 I2 r1 r2 q2
def lr:FC->St->Hp->VK->Prop
 |0,some v::_,H,Q=>Q v H
 |i+1,_::σ,H,Q=>lr i σ H Q
 |_,_,_,_=>False
theorem BO {H:Hp}{Q:VK} : ∀ {i:FC}{σ:St},lr i σ H Q-> ∃v,σ[i]?=Fa (Fa v)/\Q v H
 |0,some v::_,h=>#[v,Gc,h]
 |i+1,_::σ,h=>BO (i:=i) (σ:=σ) h
theorem mM {H:Hp}{Q:VK}{v:V}(q:Q v H): ∀ {i:FC}{σ:St},σ[i]?=Fa (Fa v)->lr i σ H Q
 |0,some _::_,e=>FG (FG e)▸q
 |i+1,_::σ,e=>mM q (i:=i) (σ:=σ) e
def tC (v:V):TE:=λ_ H Q=>Q v H
theorem dR {i:FC}{x:FR}{pos:Pos}(hN:X.N[i]?=Fa x) (hv:oU X.env.scope x) (hd:(x == [003])=FS:=by decide) (Sy:(x == ("__classdict__":FR))=FS:=by decide):PE X (.Name x pos) (lr i):=by
 rw[01];obtain⟨v,e,h⟩:=BO h;obtain⟨m,hn,hl⟩:=I.loc;obtain⟨u,r,l⟩:=hl i x v hN e hv;have eN:EP X pins σ Q u s:=#[v,H,I,r,h];rcases l with⟨hk,hm⟩|⟨hk,c,hc,UG⟩
 .exact Y8 (WM I.ok.kind hk hn hm eN) hd
 .rcases hk with hk|hk
  .exact Y8 (XD I.ok.kind hk hc UG eN) hd
  .exact Y8 (wpAny_loadName_free I.ok.kind hk hc UG eN Sy) hd
theorem ak {i j pos} :PE X (.Constant (.int i) j pos) (tC (.int i)):=λ_ _ _ H _ I h=>wpAny_Constant_int #[.int i,H,I.tok _,#[_,Gc],h]
theorem sr {b j pos} :PE X (.Constant (.bool b) j pos) (tC (.bl b)):=λ_ _ _ H _ I h=>Constant_bool #[.bl b,H,I,Gc,h]
theorem aas {j pos} :PE X (.Constant .none j pos) (tC .IJ):=λ_ _ _ H _ I h=>Constant_none #[.IJ,H,I,Gc,h]
theorem dH {x j pos} :PE X (.Constant (.str x) j pos) (tC (.str x)):=λ_ _ _ H _ I h=>Calls.Constant_str #[.str x,H,I.tok _,#[_,Gc],h]
def Gl (X:Cx) (x:FR):Prop:=X.env.kindOf x=Fa .globalImplicit
theorem ga {E:Fh->Fn->Prop}{pins:E9 (Fi×IW)}{s:Fn}{σ:St}{H:Hp}{x:FR}{u:Fh}{pos:Pos}{Q:Fh->Fn->Prop}(I:aE X pins σ H s) (hg:Gl X x) (hm:X.mg x=Fa u) (h:Q u s)
  (hd:(x == [003])=FS:=by decide):FV (model X.prog X.w) X.A (eval (.Name x pos) X.env) Q E s:=
 Q6 I.ok.kind hg (Calls.loadGlobal_global (by rw[I.ok.glob];exact I.mod.glob.keeps I.bk) hm h) hd
theorem lD {E:Fh->Fn->Prop}{pins:E9 (Fi×IW)}{s:Fn}{σ:St}{H:Hp}{x:FR}{u:Fh}{pos:Pos}{Q:Fh->Fn->Prop}(I:aE X pins σ H s) (hg:Gl X x) (hm:X.mg x=FB) (hv:K4 x=Fa u) (h:Q u s)
  (hn:x≠"__name__":=by decide) (hd:(x == [003])=FS:=by decide):FV (model X.prog X.w) X.A (eval (.Name x pos) X.env) Q E s:=by
 obtain⟨mb,h1,h2⟩:=I.mod.blt;exact Q6 I.ok.kind hg (Calls.loadGlobal_builtin (by rw[I.ok.glob];exact I.mod.glob.keeps I.bk) hm (by rw[I.ok.blt];exact h1.keeps I.bk) ((h2 x hn).trans hv) h) hd
theorem qD {x:FR}{v:V}{u:Fh}{pos:Pos}(hg:Gl X x) (hm:X.mg x=Fa u) (r:bh v u) (hd:(x == [003])=FS:=by decide):PE X (.Name x pos) (tC v):=
 λ_ _ _ H _ I h=>ga I hg hm #[v,H,I,r,h] hd
variable {a b:HH}{ta tb:TE}{pos:Pos}
def PC (X:Cx) (op:CmpOp) (a b:HH) (t:TE):Prop:=
 ∀(pins:E9 (Fi×IW)) (s:Fn) (σ:St) (H:Hp) (Q:VK),aE X pins σ H s->t σ H Q->
  FV (model X.prog X.w) X.A (eval a X.env) (λv s₁=>FV (model X.prog X.w) X.A (eval b X.env) (λu s₂=>FV (model X.prog X.w) X.A (Ii op v u) (EP X pins σ Q) X.xe s₂) X.xe s₁) X.xe s
theorem A9 (b:HH) (h:op≠ .In) (h2:op≠ .NotIn):behindInMarks op b=FS:=by
 have e1:(op == CmpOp.In)=FS:=by cases op<;>first|rfl|exact FH Gc h
 have e2:(op == CmpOp.NotIn)=FS:=by cases op<;>first|rfl|exact FH Gc h2
 cases b<;>simp [behindInMarks,e1,e2]
def aft (ta:TE):TE:=λσ H Q=>ta σ H λx H1=>Q (.bl (!decide (x= .IJ))) H1
theorem bh.Wh {x:V}{v:Fh}(r:bh x v):(v == HY)=decide (x= .IJ):=by
 cases x with
 |IJ=>cases r;rfl
 |bl _=>cases r;rfl
 |int _=>obtain⟨t,rfl⟩:=r;rfl
 |str _=>obtain⟨t,rfl⟩:=r;rfl
 |Sx _=>obtain⟨t,rfl⟩:=r;rfl
 |XZ _=>obtain⟨t,rfl⟩:=r;rfl
 |ref _=>cases r;rfl
 |ty _=>cases r;rfl
theorem DW {j NG} (ha:PE X a ta):PC X .IsNot a (.Constant .none j NG) (aft ta):=by
 rw[01];refine b8 (ha pins s σ H _ I h) λv s1 ⟨x,H1,I1,r1,q1⟩=>?_;exact Constant_none (isnot_none_gen #[.bl _,H1,I1,by rw[r1.Wh];rfl,q1])
inductive uP (R:Gu->Hp->Prop) (x:V) (H1:Hp):Prop
 |mk (c:Gu) (_:x= .bl c) (_:R c H1):uP R x H1
def tB (t:TE):TT:=λσ H Q=>t σ H (uP Q)
theorem fB {t:TE}(h:PC X op a b t) (h1:behindInMarks op b=FS:=by first|exact A9 _ [01] [01]|rfl):PT X (.Compare a [op] [b] pos) (tB t):=by
 intro pins s σ H Q I hw;refine Wr (b8 (h pins s σ H _ I hw) λv s1 h1=>b8 h1 λu s2 h2=>b8 h2 λc s3 ⟨x,H1,I1,r1,q1⟩=>?_) h1;obtain⟨d,rfl,q⟩:=q1;cases r1;exact IU #[H1,I1,q]
theorem cZ {e:HH}{t:TE}(h:PE X e t) (he: ∀whole,isTrue e X.env whole=(do let v<-whole;standAt e.pos;holding [v] (truthy v)):=by intro _;rfl):PT X e (tB t):=by
 intro pins s σ H Q I hw;refine isTrue_plain (b8 (h pins s σ H _ I hw) λv s1 ⟨x,H1,I1,r1,q1⟩=>?_) (he _);obtain⟨d,rfl,q⟩:=q1;cases r1;exact IU #[H1,I1,q]
variable {tA tB':TT}{rest:E9 HH}
def akF (t u:TT):TT:=λσ H Q=>t σ H λc H1=>if c=FM then u σ H1 Q else Q FS H1
def tOr (t u:TT):TT:=λσ H Q=>t σ H λc H1=>if c=FM then Q FM H1 else u σ H1 Q
def akG (t:TT):TT:=λσ H Q=>t σ H λc H1=>Q (!c) H1
theorem me (ha:PT X a tA):PW X (.BoolOp .And [a] pos) tA:=by
 intro wh pins s σ H Q I h;refine isTrue_and (b8 (ha pins s σ H Q I h) λc s1 e=>?_);cases c with
 |true=>exact isTrue_and_nil e
 |false=>exact e
theorem rD (ha:PT X a tA):PW X (.BoolOp .Or [a] pos) tA:=by
 intro wh pins s σ H Q I h;refine isTrue_or (b8 (ha pins s σ H Q I h) λc s1 e=>?_);cases c with
 |false=>exact isTrue_or_nil e
 |true=>exact e
theorem rA (ha:PT X a tA) (hb:PW X (.BoolOp .And (b::rest) pos) tB'):PW X (.BoolOp .And (a::b::rest) pos) (akF tA tB'):=by
 intro wh pins s σ H Q I h;refine isTrue_and (b8 (ha pins s σ H _ I h) λc s1 ⟨H1,I1,q1⟩=>?_);cases c with
 |true=>exact hb wh pins s1 σ H1 Q I1 q1
 |false=>exact#[H1,I1,q1]
theorem wS (ha:PT X a tA) (hb:PW X (.BoolOp .Or (b::rest) pos) tB'):PW X (.BoolOp .Or (a::b::rest) pos) (tOr tA tB'):=by
 intro wh pins s σ H Q I h;refine isTrue_or (b8 (ha pins s σ H _ I h) λc s1 ⟨H1,I1,q1⟩=>?_);cases c with
 |true=>exact#[H1,I1,q1]
 |false=>exact hb wh pins s1 σ H1 Q I1 q1
theorem ld (ha:PT X a tA):PT X (.UnaryOp .Not a pos) (akG tA):=by
 rw[01];exact isTrue_not (ha pins s σ H (λc H1=>Q (!c) H1) I h)
def afu (ta tb:TE):TE:=λσ H Q=>ta σ H (uP (λc H1=>if c=FM then tb σ H1 Q else Q (.bl FS) H1))
def akH (ta tb:TE):TE:=λσ H Q=>ta σ H (uP (λc H1=>if c=FM then Q (.bl FM) H1 else tb σ H1 Q))
theorem jw {op} {t:TE}(h:PE X a t):PE X (.BoolOp op [a] pos) t:=λpins s σ H Q I hw=>BoolOp_one (h pins s σ H Q I hw)
theorem lC (ha:PE X a ta) (hb:PE X (.BoolOp .And (b::rest) pos) tb):PE X (.BoolOp .And (a::b::rest) pos) (afu ta tb):=by
 rw[01];refine BoolOp_and (b8 (ha pins s σ H _ I h) λv s1 ⟨x,H1,I1,r1,q1⟩=>?_);obtain⟨c,rfl,q1⟩:=q1;cases r1;refine IU ?_;cases c with
 |true=>exact hb pins s1 σ H1 Q I1 q1
 |false=>exact#[.bl FS,H1,I1,Gc,q1]
theorem Dd (ha:PE X a ta) (hb:PE X (.BoolOp .Or (b::rest) pos) tb):PE X (.BoolOp .Or (a::b::rest) pos) (akH ta tb):=by
 rw[01];refine BoolOp_or (b8 (ha pins s σ H _ I h) λv s1 ⟨x,H1,I1,r1,q1⟩=>?_);obtain⟨c,rfl,q1⟩:=q1;cases r1;refine IU ?_;cases c with
 |false=>exact hb pins s1 σ H1 Q I1 q1
 |true=>exact#[.bl FM,H1,I1,Gc,q1]
def tIf (t:TT) (ta tb:TE):TE:=λσ H Q=>t σ H λc H1=>if c=FM then ta σ H1 Q else tb σ H1 Q
theorem df {c:HH}(hc:PT X c tA) (ha:PE X a ta) (hb:PE X b tb):PE X (.IfExp c a b pos) (tIf tA ta tb):=by
 rw[01];refine wpAny_IfExp (b8 (hc pins s σ H _ I h) λd s1 ⟨H1,I1,q1⟩=>?_);cases d with
 |true=>exact ha pins s1 σ H1 Q I1 q1
 |false=>exact hb pins s1 σ H1 Q I1 q1
end
def akI:Fh->Ft V
 | .none=>Fa .IJ
 | .bool b=>Fa (.bl b)
 | .int i _=>Fa (.int i)
 | .str x _=>Fa (.str x)
 | .bytes b _=>Fa (.Sx b)
 | .float b _=>Fa (.XZ b)
 | .ref a=>Fa (.ref a)
 | .type n=>Fa (.ty n)
 |_=>FB
theorem bh.abs {x:V}{u:Fh}(r:bh x u):akI u=Fa x:=by
 cases x with
 |IJ=>cases r;rfl
 |bl _=>cases r;rfl
 |int _=>obtain⟨t,rfl⟩:=r;rfl
 |str _=>obtain⟨t,rfl⟩:=r;rfl
 |Sx _=>obtain⟨t,rfl⟩:=r;rfl
 |XZ _=>obtain⟨t,rfl⟩:=r;rfl
 |ref _=>cases r;rfl
 |ty _=>cases r;rfl
theorem bh.inj {x y:V}{u:Fh}(r:bh x u) (q:bh y u):x=y:=FG (r.abs.symm.trans q.abs)
theorem aX.inj: ∀ {xs ys:E9 V}{us:E9 Fh},aX xs us->aX ys us->xs=ys
 |_,_,_, .nil, .nil=>rfl
 |_,_,_, .cons r t, .cons r' t'=>by rw[r.inj r',aX.inj t t']
section
variable {X:Cx}{pins:E9 (Fi×IW)}{σ:St}{H:Hp}{s:Fn}{a:Fi}{xs ys:E9 V}
theorem pH.of {K:Fe}(h:H a=Fa (.tup xs)):pH K H a xs:= .inl (.inl h)
theorem aE.list (I:aE X pins σ H s) (h:cB X.K H a xs): ∃HD:E9 Fh,aX xs HD/\PlainL s.heap a HD.toArray/\xs.length<=F8:=by
 rcases h with h|⟨o,HD,n,hk,hc,hd,hs,hz,r⟩
 .obtain⟨z,HD,n,r,e⟩:=h.ok I.Iu
  exact#[HD,r,#[_,n,e,Gc,Gc,Gc],z]
 .refine#[HD.toList,r,#[o,n,I.ND a o hk,hc,hd,by simpa using hs],?_]
  have e:=r.length;simp only[Uk] at e;lia
theorem aE.tuple (I:aE X pins σ H s) (h:pH X.K H a xs): ∃HD:E9 Fh,aX xs HD/\IsTup s.heap a HD.toArray/\xs.length<=F8:=by
 rcases h with h|⟨o,HD,n,hk,hc,hs,hz,r⟩
 .obtain⟨z,HD,r,p⟩:=h.ok I.Iu
  exact#[HD,r,p,z]
 .refine#[HD.toList,r,#[o,I.ND a o hk,hc,n,by simpa using hs],?_]
  have e:=r.length;simp only[Uk] at e;lia
theorem aE.Wi (I:aE X pins σ H s) (h:cB X.K H a xs) (h':cB X.K H a ys):xs=ys:=by
 obtain⟨HD,r,⟨o,n,e,_,_,d⟩,_⟩:=I.list h;obtain⟨its',r',⟨o',n',e',_,_,d'⟩,_⟩:=I.list h';rw[e] at e';cases e';rw[d] at d';injection d' with d1 _;have:HD=its':=by simpa using Gq Sv d1
 subst this;exact r.inj r'
end
abbrev Cx.Rm (X:Cx) (E:Fh->Fn->Prop):Cx:= { X with xe:=E }
abbrev Cx.nox (X:Cx):Cx:=X.Rm λ_ _=>False
theorem Cx.Ok.Rm {X:Cx}(ok:X.Ok) (E:Fh->Fn->Prop):(X.Rm E).Ok:=
 #[ok.mod,ok.kind,ok.glob,ok.blt,ok.above,ok.inj,ok.has,ok.Yc,ok.hd,ok.frames,ok.Yd,ok.exf,ok.bs,ok.U5,ok.SS,ok.SU,ok.funs,ok.WC]
theorem Cx.Ok.Ol {X:Cx}{E:Fh->Fn->Prop}(ok:(X.Rm E).Ok):X.Ok:=
 #[ok.mod,ok.kind,ok.glob,ok.blt,ok.above,ok.inj,ok.has,ok.Yc,ok.hd,ok.frames,ok.Yd,ok.exf,ok.bs,ok.U5,ok.SS,ok.SU,ok.funs,ok.WC]
section
variable {X:Cx}{pins:E9 (Fi×IW)}{σ:St}{H:Hp}{s:Fn}{E:Fh->Fn->Prop}
theorem aE.Rm (I:aE X pins σ H s) (E:Fh->Fn->Prop):aE (X.Rm E) pins σ H s:=#[I.ok.Rm E,I.os,I.bare,I.base,I.loc,I.cell,I.free,I.Mp,I.pin,I.Iu,I.len]
theorem aE.Ol (I:aE (X.Rm E) pins σ H s):aE X pins σ H s:=#[I.ok.Ol,I.os,I.bare,I.base,I.loc,I.cell,I.free,I.Mp,I.pin,I.Iu,I.len]
theorem SP.Ol {f:Flow}{s':Fn}(h:SP (X.Rm E) pins D f s'):SP X pins D f s':=by
 cases f with
 |next=>obtain⟨σ',H',I,q⟩:=h;exact#[σ',H',I.Ol,q]
 |brk=>obtain⟨σ',H',I,q⟩:=h;exact#[σ',H',I.Ol,q]
 |cont=>obtain⟨σ',H',I,q⟩:=h;exact#[σ',H',I.Ol,q]
 |ret u=>obtain⟨v,σ',H',I,r,q⟩:=h;exact#[v,σ',H',I.Ol,r,q]
theorem uo.nox {st:E9 Stmt}{t:TS}(h:uo X.nox st t):uo X st t:=λpins s σ H D I hw=>
 ID (h pins s σ H D (I.Rm _) hw) (λ_ _ q=>q.Ol) λ_ _ z=>IM z
end
section
variable {X:Cx}{st:Stmt}{rest:E9 Stmt}{t u:TS}{e:HH}{te:TE}{pos:Pos}
def afv:TS:=λD σ H=>D.nx σ H
def akJ (t u:TS):TS:=λD σ H=>t { D with nx:=u D } σ H
theorem bo:uo X [] afv:=λ_ _ σ H _ I h=>M8 #[σ,H,I,h]
theorem ax (h1:PS X st t) (h2:uo X rest u):uo X (st::rest) (akJ t u):=by
 intro pins s σ H D I h;refine wpAny_execs_cons (b8 (h1 pins s σ H { D with nx:=u D } I h) λf s1 q=>?_);cases f with
 |next=>
  obtain⟨σ',H',I',q⟩:=q;exact h2 pins s1 σ' H' D I' q
 |ret v=>exact q
 |brk=>exact q
 |cont=>exact q
theorem aj (h1:PS X st t):uo X [st] t:=by
 intro pins s σ H D I h;refine wpAny_execs_cons (b8 (h1 pins s σ H D I h) λf s1 q=>?_);cases f with
 |next=>exact M8 q
 |ret v=>exact q
 |brk=>exact q
 |cont=>exact q
def aat:TS:=λD σ H=>D.bk σ H
theorem Dc:PS X (.Break pos) aat:=λ_ _ σ H _ I h=>wpAny_Break #[σ,H,I,h]
theorem aE.quiet {pins:E9 (Fi×IW)}{σ:St}{H:Hp}{s:Fn}(I:aE X pins σ H s):interactive X.env=FS:=by simp [interactive,I.ok.kind]
def afw (te:TE):TS:=λD σ H=>te σ H λ_ H1=>D.nx σ H1
theorem bj (he:PE X e te) (hs:LL e FB pos.line X.env=pure FS:=by rfl):PS X (.Expr e pos) (afw te):=by
 intro pins s σ H D I h;exact wpAny_Expr_any (b8 (he pins s σ H _ I h) λv s1 ⟨x,H1,I1,r1,q1⟩=>#[σ,H1,I1,q1]) I.quiet hs
def afx (te:TE):TS:=λD σ H=>te σ H D.rt
theorem aJ (he:PE X e te):PS X (.Return (Fa e) pos) (afx te):=by
 intro pins s σ H D I h;exact wpAny_Return_some (b8 (he pins s σ H _ I h) λv s1 ⟨x,H1,I1,r1,q1⟩=>#[x,σ,H1,I1,r1,q1])
def akK (c:TT) (t u:TS):TS:=λD σ H=>c σ H λb H1=>if b=FM then t D σ H1 else u D σ H1
theorem cv {c:HH}{a b:E9 Stmt}{tc:TT}(hc:PT X c tc) (ha:uo X a t) (hb:uo X b u):PS X (.If c a b pos) (akK tc t u):=by
 intro pins s σ H D I h;refine wpAny_If (b8 (hc pins s σ H _ I h) λd s1 ⟨H1,I1,q1⟩=>?_);cases d with
 |true=>exact ha pins s1 σ H1 D I1 q1
 |false=>exact hb pins s1 σ H1 D I1 q1
end
abbrev TG:=V->St->Hp->(St->Hp->Prop)->Prop
def PG (X:Cx) (target:HH) (t:TG):Prop:=
 ∀(pins:E9 (Fi×IW)) (s:Fn) (σ:St) (H:Hp) (v:V) (u:Fh) (Q:St->Hp->Prop),aE X pins σ H s->bh v u->t v σ H Q->
  FV (model X.prog X.w) X.A (assign target X.env u) (λ_ s'=> ∃σ' H',aE X pins σ' H' s'/\Q σ' H') X.xe s
abbrev TIp:=V->V->Hp->VK->Prop
def PIp (X:Cx) (op:Operator) (t:TIp):Prop:=
 ∀(pins:E9 (Fi×IW)) (s:Fn) (σ:St) (H:Hp) (x y:V) (v u:Fh) (Q:VK),aE X pins σ H s->bh x v->bh y u->t x y H Q->
  FV (model X.prog X.w) X.A (inplaceOp op v u) (EP X pins σ Q) X.xe s
section
variable {X:Cx}{pos:Pos}
def Yg (i:FC):TG:=λv σ H Q=>Q (σ.set i (Fa v)) H
theorem jc {i:FC}{x:FR}(hN:X.N.Nodup) (hi:X.N[i]?=Fa x) (hx:Loc X.env.scope x) (hf:X.fn x=FM\/X.env.scope.names.lookup x=Fa .local:=by first|exact .inl rfl|exact .inr rfl|assumption):PG X (.Name x pos) (Yg i):=by
 intro pins s σ H v u Q I r h;exact wpAny_assign_Name (jN I hN hi hx r (λs' I'=>#[_,H,I',h]) hf)
def akL (te:TE) (g:TG):TS:=λD σ H=>te σ H λx H1=>g x σ H1 D.nx
theorem cC {i:FC}{x:FR}{e:HH}{te:TE}{NG:Pos}(hN:X.N.Nodup) (hi:X.N[i]?=Fa x) (hx:Loc X.env.scope x) (he:PE X e te) (hs:LL e (Fa (.Name x NG)) pos.line X.env=pure FS:=by rfl) (hf:X.fn x=FM\/X.env.scope.names.lookup x=Fa .local:=by first|exact .inl rfl|exact .inr rfl|assumption):
  PS X (.Assign [.Name x NG] e pos) (akL te (Yg i)):=by
 intro pins s σ H D I h;refine wpAny_Assign_Name (b8 (he pins s σ H _ I h) λv s1 ⟨y,H1,I1,r1,q1⟩=>?_) hs;exact jN I1 hN hi hx r1 (λs2 I2=>#[_,H1,I2,q1]) hf
def akM (i:FC) (te:TE) (ti:TIp):TS:=λD σ H=> ∃x,σ[i]?=Fa (Fa x)/\te σ H λy H1=>ti x y H1 λz H2=>D.nx (σ.set i (Fa z)) H2
theorem kY {i:FC}{x:FR}{e:HH}{te:TE}{NG:Pos}(hN:X.N.Nodup) (hi:X.N[i]?=Fa x) (hx:Loc X.env.scope x) (he:PE X e te) (ho:PIp X op ti) (hf:X.fn x=FM\/X.env.scope.names.lookup x=Fa .local:=by first|exact .inl rfl|exact .inr rfl|assumption):
  PS X (.AugAssign (.Name x NG) op e pos) (akM i te ti):=by
 intro pins s σ H D I h;obtain⟨v,e1,h⟩:=h;obtain⟨m,hn,hl⟩:=I.loc;have vis:oU X.env.scope x:=by rcases hx with k|k;exact .inl k;exact .inr (.inl k)
 obtain⟨u,r,l⟩:=hl i x v hi e1 vis;refine wpAny_AugAssign_Name ?_;have go:FV (model X.prog X.w) X.A (eval e X.env) (λw s₂=>FV (model X.prog X.w) X.A (inplaceOp op u w) (λr s₃=>FV (model X.prog X.w) X.A (storeName X.env x r) (λ_=>SP X pins D .next) X.xe s₃) X.xe s₂) X.xe s:=by
  refine b8 (he pins s σ H _ I h) λw s1 ⟨y,H1,I1,r1,q1⟩=>?_;refine b8 (ho pins s1 σ H1 v y u w _ I1 r r1 q1) λz s2 ⟨zv,H2,I2,r2,q2⟩=>?_;exact jN I2 hN hi hx r2 (λs3 I3=>#[_,H2,I3,q2]) hf
 rcases l with⟨hk,hm⟩|⟨hk,c,hc,UG⟩
 .exact WM I.ok.kind hk hn hm go
 .rcases hk with hk|hk
  .exact XD I.ok.kind hk hc UG go
  .rcases hx with k|k
   .have:X.env.scope.names.lookup x=Fa .free:=hk
    rw[k] at this;cases this
   .have:X.env.scope.names.lookup x=Fa .free:=hk
    rw[k] at this;cases this
def ipI (f:Int->Int->Int):TIp:=λx y H Q=> ∃i j,x= .int i/\y= .int j/\Q (.int (f i j)) H
theorem lq:PIp X .Add (ipI λi j=>i+j):=by
 intro pins s σ H x y v u Q I r1 r2 h;obtain⟨i,j,e1,e2,q⟩:=h;subst e1;subst e2;obtain⟨t,rfl⟩:=r1;obtain⟨t',rfl⟩:=r2;exact iadd_int #[.int _,H,I.tok _,#[_,Gc],q]
end
section
variable {X:Cx}{pos:Pos}
def aau (c:TT) (tb:TS):TS:=λD σ H=> ∃W:FC->St->Hp->Prop,(∃m,W m σ H)/\ ∀m σ H,W m σ H->
 c σ H λb H1=>if b=FM then∃N:St->Hp->Prop,(∀σ' H',N σ' H'-> ∃m',m'<m/\W m' σ' H')/\tb { D with nx:=N,ct:=N,bk:=D.nx } σ H1 else D.nx σ H1
theorem iD {c:HH}{tc:TT}{tb:TS}(hp:P8 (model X.prog X.w) X.A X.env X.xe) (hc:PT X c tc) (hb:uo X body tb):PS X (.While c body [] pos) (aau tc tb):=by
 intro pins s σ H D I h;obtain⟨W,⟨m0,w0⟩,turn⟩:=h;refine wpAny_While (codeAny_whileLoop (λn s'=> ∃σ' H',aE X pins σ' H' s'/\W n σ' H') ?_ m0 #[σ,H,I,w0]);rintro n s1 ⟨σ1,H1,I1,w1⟩;refine Ks hp (b8 (hc pins s1 σ1 H1 _ I1 (turn n σ1 H1 w1)) λb s2 ⟨H2,I2,q2⟩=>?_);cases b with
 |true=>
  obtain⟨N,hN,q2⟩:=q2;rw[Fm Gc];refine Ks hp (b8 (hb pins s2 σ1 H2 _ I2 q2) λf s3 q3=>?_);cases f with
  |next=>
   obtain⟨σ3,H3,I3,n3⟩:=q3;obtain⟨m',hm,w3⟩:=hN σ3 H3 n3;exact#[m',hm,σ3,H3,I3,w3]
  |cont=>
   obtain⟨σ3,H3,I3,n3⟩:=q3;obtain⟨m',hm,w3⟩:=hN σ3 H3 n3;exact#[m',hm,σ3,H3,I3,w3]
  |brk=>exact q3
  |ret v=>exact q3
 |false=>
  rw[Fj Fd];exact M8 #[σ1,H2,I2,q2]
end
structure It where
 go:FC->Hp->Prop
 yld:FC->Hp->V->Hp->Prop
 stop:FC->Hp->Prop
def o0 (X:Cx) (pins:E9 (Fi×IW)) (H:Hp) (b:Fi):Prop:=
 H b=FB/\b≠X.env.locals/\b∉X.fs/\(b∈X.ex\/X.PV.heap.objs.size<=b)/\(∀x c,X.env.cells.lookup x=Fa c->c≠b)/\ ∀p∈X.pn++pins,p.1≠b
theorem aE.aav {X:Cx}{pins:E9 (Fi×IW)}{σ:St}{H H':Hp}{s:Fn}{b:Fi}(I:aE X pins σ H s) (hb:s.heap.objs.size<=b) (hn:H' b=FB):o0 X pins H' b:=by
 refine#[hn,Ly (F5 I.lt hb),I.akD hb, .inr (FP I.sz hb),λx c e z=>?_,λp hp z=>?_]
 .obtain⟨v,q⟩:=I.cell x c e
  exact FH (F5 q.lt (by rw[z];exact hb)) (HZ _)
 .exact FH (F5 (FX (I.pin p hp).1) (by rw[z];exact hb)) (HZ _)
structure Turn (P:Ga) (w:GN) (K:Fe) (tg:HH) (J:It) (fp:E9 Fi) (it:Fi) (tn:FC->GY->Prop):Prop where
 mem:it∈fp
 obj: ∀i h,tn i h-> ∀b∈fp,∃o,h.get? b=Fa o/\ ∀v,o.data≠ .cell v
 keep: ∀i h h',tn i h->(∀b∈fp,∀o,h.get? b=Fa o->h'.get? b=Fa o)->tn i h'
 item: ∀(X:Cx),X.prog=P->X.w=w->X.K=K->X.calm=FM-> ∀(i:FC) (pins:E9 (Fi×IW)) (s:Fn) (σ:St) (H:Hp) (E:Fh->Fn->Prop),aE X pins σ H s->(∀b∈fp,o0 X pins H b)->tn i s.heap->J.go i H->
  FV (model P w) X.A (RH (.ref it)) (λr s1=> ∃u,r=Fa u/\
   FV (model P w) X.A (O0 tg (.ref it) u) (λ_ s2=> ∃x H',aE X pins σ H' s2/\bh x u/\J.yld i H x H'/\tn (i+1) s2.heap/\ ∀b∈fp,H' b=FB) E s1) E s
 done: ∀(X:Cx),X.prog=P->X.w=w->X.K=K->X.calm=FM-> ∀(i:FC) (pins:E9 (Fi×IW)) (s:Fn) (σ:St) (H:Hp) (E:Fh->Fn->Prop),aE X pins σ H s->(∀b∈fp,o0 X pins H b)->tn i s.heap->J.stop i H->
  FV (model P w) X.A (RH (.ref it)) (λr s1=>r=FB/\aE X pins σ H s1) E s
 self: ∀(A:GV) (i:FC) (s:Fn) (Q:Fh->Fn->Prop) (E:Fh->Fn->Prop),tn i s.heap->Q (.ref it) s->FV (model P w) A (pyIter (.ref it)) Q E s
abbrev TI:=St->Hp->(It->Hp->Prop)->Prop
def PIE (X:Cx) (pins:E9 (Fi×IW)) (σ:St) (tg:HH) (R:It->Hp->Prop) (itv:Fh) (s2:Fn):Prop:=
 ∃(it:Fi) (fp:E9 Fi) (tn:FC->GY->Prop) (J:It) (H':Hp),itv= .ref it/\aE X pins σ H' s2/\Turn X.prog X.w X.K tg J fp it tn/\tn 0 s2.heap/\(∀b∈fp,o0 X pins H' b)/\R J H'
def PI (X:Cx) (tg iter:HH) (wi:TI):Prop:=
 ∀(pins:E9 (Fi×IW)) (s:Fn) (σ:St) (H:Hp) (R:It->Hp->Prop),aE X pins σ H s->wi σ H R->
  FV (model X.prog X.w) X.A (eval iter X.env) (λv s1=>FV (model X.prog X.w) X.A (pyIter v) (PIE X pins σ tg R) X.xe s1) X.xe s
theorem Yh {A:GV}{E:Fh->Fn->Prop}{s:Fn}{tg:HH}{it:Fi}{u:Fh}{o:IW}{Q:Nc->Fn->Prop}(ho:s.heap.get? it=Fa o) (hc:o.cls= .type n) (hd:o.data= .fields vs)
  (hn:["enumerate","zip","dict_itemiterator","dict_reverseitemiterator","odict_iterator","itertools.zip_longest","itertools.pairwise"].contains n=FS) (hQ:Q () s):FV M A (O0 tg (.ref it) u) Q E s:=by
 unfold O0;cases tg<;>first
  |exact F7 hQ
  | (cases u<;>first
    |exact F7 hQ
    | (refine FD (wpAny_load ho ?_)
       rw[hc,hd];show FV M A (if(["enumerate","zip","dict_itemiterator","dict_reverseitemiterator","odict_iterator","itertools.zip_longest","itertools.pairwise"].contains n&&vs[0]? == Fa (N9 _))=FM then _ else _) Q E s
       rw[Fj (by intro h;rw[hn,Jk] at h;cases h)];exact F7 hQ))
def Yi (K:Fe) (a:Fi):It:=
 #[λi H=> ∃xs x,cB K H a xs/\xs[i]?=Fa x,λi H x H'=>H'=H/\ ∀xs,cB K H a xs->xs[i]?=Fa x,λi H=> ∃xs,cB K H a xs/\xs.length<=i]
def Itr (lo:Int) (n:FC):It:=#[λi _=>i<n,λi H x H'=>H'=H/\x= .int (lo+i),λi _=>n<=i]
theorem zE {P:Ga}{w:GN}{K:Fe}{tg:HH}(a it:Fi):Turn P w K tg (Yi K a) [it] it (λi h=>h.IsListIter it a i) where
 mem:=by simp
 obj:=λi h st b hb=>by
  have e:b=it:=by simpa using hb
  subst e;obtain⟨o,e,c,d⟩:=st;exact#[o,e,λv z=>by rw[d] at z;cases z]
 keep:=λi h h' st k=>st.at λo e=>k it (by simp) o e
 item:=by
  intro X hP hw hK hc i pins s σ H E I hf st hg;subst hP hw hK;obtain⟨xs,x,hq,hx⟩:=hg;obtain⟨HD,rv,p,hz⟩:=I.list hq;obtain⟨u,hu,ru⟩:=rv.get hx;obtain⟨f0,f1,f2,f3,f4,f5⟩:=hf it (by simp);refine wpAny_pyNext_list_item st p.isList (x:=u) (by simpa using hu) λh' st' sb=>?_;have I1:aE X pins σ H { s with heap:=h' } :=I.turned (t':=s.toks) (λb o hb e=>(sb.2 b hb).trans e) f0 f1 f3 f4 f5
  obtain⟨o,e,c,d⟩:=id st';exact#[u,Gc,Yh (s:= { s with heap:=h' }) e c d [01] #[x,H,I1,ru,#[Gc,λys hy=>by rw[I.Wi hy hq];exact hx],st',λb hb=>(hf b hb).1]]
 done:=by
  intro X hP hw hK hc i pins s σ H E I hf st hg;subst hP hw hK;obtain⟨xs,hq,hx⟩:=hg;obtain⟨HD,rv,p,hz⟩:=I.list hq;obtain⟨f0,f1,f2,f3,f4,f5⟩:=hf it (by simp);have hl:=rv.length;exact wpAny_pyNext_list_end (I.ok.hd hc) st p.isList (by simp;lia) λh' eb=>#[Gc,I.turned (t':=s.toks) (λb o hb e=>eb b o hb e) f0 f1 f3 f4 f5]
 self:=λ_ _ _ _ _ st h=>wpAny_pyIter_listiter st h
theorem vT {P:Ga}{w:GN}{K:Fe}{tg:HH}(it:Fi) (lo:Int) (n:FC):Turn P w K tg (Itr lo n) [it] it (λi h=>IsRangeIter h it (lo+(i:FC)*1) ((n:Int)-(i:FC)) 1) where
 mem:=by simp
 obj:=λi h st b hb=>by
  have e:b=it:=by simpa using hb
  subst e;exact#[_,st,λv z=>by
   have z':Data.fields _=Data.cell v:=z;cases z']
 keep:=λi h h' st k=>k it (by simp) _ st
 item:=by
  intro X hP hw hK hc i pins s σ H E I hf st hg;subst hP hw hK;obtain⟨f0,f1,f2,f3,f4,f5⟩:=hf it (by simp);have W:=Walks.range (prog:=X.prog) (w:=X.w) (I.ok.hd hc) it lo 1 n;refine W.item i s _ _ hg st λv h' tk hv st' kk=>?_;obtain⟨t,rfl⟩:=hv;have I1:aE X pins σ H { s with heap:=h',toks:=tk } :=I.turned (λb o hb e=>kk b o (by simpa using hb) e) f0 f1 f3 f4 f5
  refine#[_,Gc,Yh (s:= { s with heap:=h',toks:=tk }) (n:="range_iterator") st' Gc Gc [01] #[.int (lo+i),H,I1,#[t,?_],#[Gc,Gc],st',λb hb=>(hf b hb).1]];rw[Int.mul_one]
 done:=by
  intro X hP hw hK hc i pins s σ H E I hf st hg;subst hP hw hK;obtain⟨f0,f1,f2,f3,f4,f5⟩:=hf it (by simp);exact wpAny_pyNext_range_end (I.ok.hd hc) st (by have:n<=i:=hg;lia) λh' eb=>#[Gc,I.turned (t':=s.toks) (λb o hb e=>eb b o hb e) f0 f1 f3 f4 f5]
 self:=λ_ _ _ _ _ st h=>wpAny_pyIter_rangeiter st h
section
variable {X:Cx}{tg:HH}
inductive Yj (K:Fe) (R:It->Hp->Prop) (x:V) (H1:Hp):Prop
 |mk (a:Fi) (_:x= .ref a) (_:(∃xs,cB K H1 a xs)) (_:R (Yi K a) H1):Yj K R x H1
def afy (K:Fe) (tl:TE):TI:=λσ H R=>tl σ H (Yj K R)
theorem j3 {l:HH}{tl:TE}(hl:PE X l tl):PI X tg l (afy X.K tl):=by
 intro pins s σ H R I h;refine b8 (hl pins s σ H _ I h) λv s1 ⟨x,H1,I1,r1,q1⟩=>?_;obtain⟨a,e,⟨xs,hq⟩,q⟩:=q1;subst e;cases r1;obtain⟨HD,rv,p,hz⟩:=I1.list hq;refine wpAny_pyIter_list p.isList ?_;refine#[s1.heap.objs.size,[s1.heap.objs.size],_,_,H1,Gc,I1.kept (t':=s1.toks) λb o e=>Fz _ e,zE a _,#[_,G6 _ Gc,Gc,Gc],λb hb=>?_,q];have e:b=s1.heap.objs.size:=by simpa using hb
 subst e;exact I1.aav (FF _) (I1.Iu.fresh (FF _))
theorem CM {pins:E9 (Fi×IW)}{σ:St}{H:Hp}{s:Fn}{R:It->Hp->Prop}{E:Fh->Fn->Prop}{lo hi:Int}{t u v:Tok}{tk:FC}(I:aE X pins σ H s) (h1: -(2 ^ 62)<=lo) (h2:lo<2 ^ 62) (h3: -(2 ^ 62)<=hi) (h4:hi<2 ^ 62)
  (q:R (Itr lo (hi-lo).toNat) H):FV (model X.prog X.w) X.A (pyIter (.ref s.heap.objs.size)) (PIE X pins σ tg R) E { s with heap:=s.heap.push { cls:= .type "range",data:= .fields [.int lo t, .int hi u, .int 1 v].toArray },toks:=tk } :=by
 refine wpAny_pyIter_range (IsRange.new ..) (small_one h1 h2 h3 h4) ?_;have I1:aE X pins σ H { s with heap:=s.heap.push { cls:= .type "range",data:= .fields [.int lo t, .int hi u, .int 1 v].toArray },toks:=tk } :=I.kept λb o e=>Fz _ e
 refine#[(s.heap.push { cls:= .type "range",data:= .fields [.int lo t, .int hi u, .int 1 v].toArray }).objs.size,[(s.heap.push { cls:= .type "range",data:= .fields [.int lo t, .int hi u, .int 1 v].toArray }).objs.size],_,_,H,Gc,
  I1.kept (t':=tk) λb o e=>Fz _ e,vT _ lo (hi-lo).toNat,?_,λb hb=>?_,q]
 .have e1:lo+((0:FC):Int)*1=lo:=by simp
  have e2:(((hi-lo).toNat:FC):Int)-((0:FC):Int)=Builtin.Range.rangeSize lo hi 1:=by rw[rangeSize_one];split<;>lia
  show IsRangeIter _ _ (lo+((0:FC):Int)*1) ((((hi-lo).toNat:FC):Int)-((0:FC):Int)) 1
  rw[e1,e2];exact G6 _ Gc
 .have e:b=(s.heap.push { cls:= .type "range",data:= .fields [.int lo t, .int hi u, .int 1 v].toArray }).objs.size:=by simpa using hb
  subst e;exact I1.aav (FF _) (I1.Iu.fresh (FF _))
def afz (ta:TA):TI:=λσ H R=>ta σ H λvs H1=> ∃j:Int,vs=[.int j]/\ -(2 ^ 62)<=j/\j<2 ^ 62/\R (Itr 0 j.toNat) H1
theorem zo {a:HH}{ta:TA}{p pos:Pos}(hg:Gl X "range") (hm:X.mg "range"=FB) (ha:PA X [a] ta) (hs:FK [a] X.env=[(FS,eval a X.env)]:=by rfl):PI X tg (.Call (.Name "range" p) [a] [] pos) (afz ta):=by
 intro pins s σ H R I h;refine Call_ (lD I hg hm boot_range (JY (b8 (ha pos pins s σ H _ I h) λus s1 ⟨vs,H1,I1,r1,q1⟩=>?_) hs Gc));obtain⟨j,e,q1,q2,q⟩:=q1;subst e;cases r1 with
 |cons r rr=>
  cases rr;obtain⟨t,rfl⟩:=r;exact call_range_1 (CM I1 (by lia) (by lia) q1 q2 (by simpa using q))
def akN (wi:TI) (g:TG) (tb:TS):TS:=λD σ H=>wi σ H λJ H1=> ∃W:FC->FC->St->Hp->Prop,(∃m,W 0 m σ H1)/\ ∀i m σ H,W i m σ H->
 (J.stop i H/\D.nx σ H)\/(J.go i H/\ ∃N:St->Hp->Prop,(∀σ' H',N σ' H'-> ∃m',m'<m/\W (i+1) m' σ' H')/\ ∀x H',J.yld i H x H'->g x σ H' λσ2 H2=>tb { D with nx:=N,ct:=N,bk:=D.nx } σ2 H2)
def oQ (fp:E9 Fi) (h:GY):E9 (Fi×IW):=fp.filterMap λb=>(h.get? b).map λo=>(b,o)
theorem jB {h:GY}{b:Fi}{o:IW}(hb:b∈fp) (e:h.get? b=Fa o):(b,o)∈oQ fp h:=Vk.mpr #[b,hb,by rw[e];rfl]
theorem zn {h:GY}{p:Fi×IW}(hp:p∈oQ fp h):p.1∈fp/\h.get? p.1=Fa p.2:=by
 obtain⟨b,hb,e⟩:=Vk.mp hp;cases q:h.get? b with
 |none=>rw[q] at e;cases e
 |some o=>
  rw[q] at e;have e':(b,o)=p:=FG e;subst e';exact#[hb,q]
theorem aE.pinned {pins:E9 (Fi×IW)}{σ:St}{H:Hp}{s:Fn}(I:aE X pins σ H s) (hf: ∀b∈fp,o0 X pins H b) (ho: ∀b∈fp,∃o,s.heap.get? b=Fa o/\ ∀v,o.data≠ .cell v):aE X (pins++oQ fp s.heap) σ H s:=
 I.UC λp hp=>(FY.mp hp).elim (λz=>I.pin p (Hm _ z)) λz=>by
  obtain⟨hb,e⟩:=zn z;obtain⟨f0,f1,f2,_⟩:=hf p.1 hb;obtain⟨o,e',d⟩:=ho p.1 hb;rw[e] at e';cases e';exact#[e,f0,f1,f2,d]
theorem aE.PD {pins pl:E9 (Fi×IW)}{σ:St}{H:Hp}{s:Fn}(I:aE X (pins++pl) σ H s):aE X pins σ H s:=I.UC λp hp=>I.pin p (Hm _ (Md _ hp))
theorem vo {g:TG}{tb:TS}{pos:Pos}(hp:P8 (model X.prog X.w) X.A X.env X.xe) (hc:X.calm=FM) (hi:PI X tg iter wi) (hg:PG X tg g) (hb:uo X body tb)
  (hs: ∀x,L4 iter X.env x=pure x:=by intro _;rfl):PS X (.For tg iter body [] pos) (akN wi g tb):=by
 intro pins s σ H D I h;refine wpAny_For (b8 (hi pins s σ H _ I h) λv s1 h1=>b8 h1 λitv s2 h2=>?_) hs;obtain⟨it,fp,tn,J,H2,e,I2,T,st2,f2,W,⟨m0,w0⟩,turn⟩:=h2;subst e;have T5: ∀ {H':Hp},(∀b∈fp,H' b=FB)-> ∀b∈fp,o0 X pins H' b:=λhn b hb=>#[hn b hb,(f2 b hb).2]
 refine codeAny_forLoop_any (λn s'=> ∃i σ' H',aE X pins σ' H' s'/\tn i s'.heap/\(∀b∈fp,H' b=FB)/\W i n σ' H') ?_ m0 #[0,σ,H2,I2,st2,λb hb=>(f2 b hb).1,w0];rintro n s3 ⟨i,σ3,H3,I3,st3,fr3,w3⟩;rcases turn i n σ3 H3 w3 with⟨stop,qn⟩|⟨go,N,hN,step⟩
 .refine Ks hp (b8 (T.done X Gc Gc Gc hc i pins s3 σ3 H3 X.xe I3 (T5 fr3) st3 stop) λr s4 ⟨hr,I4⟩=>?_)
  subst hr;exact M8 #[σ3,H3,I4,qn]
 .refine Ks hp (b8 (T.item X Gc Gc Gc hc i pins s3 σ3 H3 X.xe I3 (T5 fr3) st3 go) λr s4 ⟨u,hr,h4⟩=>?_)
  subst hr;refine Ks hp (b8 h4 λ_ s5 ⟨x,H5,I5,r5,y5,st5,fr5⟩=>?_);have I5':=I5.pinned (T5 fr5) (T.obj _ _ st5);refine Ks hp (b8 (hg _ s5 σ3 H5 x u _ I5' r5 (step x H5 y5)) λ_ s6 ⟨σ6,H6,I6,q6⟩=>?_);refine Ks hp (b8 (hb _ s6 σ6 H6 _ I6 q6) λf s7 q7=>?_);have again: ∀ {σ7:St}{H7:Hp},aE X (pins++oQ fp s5.heap) σ7 H7 s7->N σ7 H7-> ∃m,m<n/\ ∃i σ' H',aE X pins σ' H' s7/\tn i s7.heap/\(∀b∈fp,H' b=FB)/\W i m σ' H':=λ{σ7 H7} I7 n7=>by
   obtain⟨m',hm,w7⟩:=hN σ7 H7 n7;refine#[m',hm,i+1,σ7,H7,I7.PD,T.keep _ _ _ st5 λb hb o e=>(I7.pin (b,o) (Hm _ (Hm _ (jB hb e)))).1,λb hb=>?_,w7];obtain⟨o,e,d⟩:=T.obj _ _ st5 b hb;exact(I7.pin (b,o) (Hm _ (Hm _ (jB hb e)))).2.1
  cases f with
  |next=>obtain⟨σ7,H7,I7,n7⟩:=q7;exact again I7 n7
  |cont=>obtain⟨σ7,H7,I7,n7⟩:=q7;exact again I7 n7
  |brk=>obtain⟨σ7,H7,I7,q7⟩:=q7;exact#[σ7,H7,I7.PD,q7]
  |ret v=>obtain⟨x7,σ7,H7,I7,r7,q7⟩:=q7;exact#[x7,σ7,H7,I7.PD,r7,q7]
end
theorem sI {K:Fe}{a:Fi}{xs:E9 V}{g:TG}{tb:TS}{D:eA}{σ:St}{H:Hp}(Pv:FC->St->Hp->Prop) (h0:Pv 0 σ H) (hl: ∀i σ H,i<=xs.length->Pv i σ H->cB K H a xs)
  (hs: ∀i x σ H,xs[i]?=Fa x->Pv i σ H->g x σ H λσ2 H2=>tb { D with nx:=Pv (i+1),ct:=Pv (i+1),bk:=D.nx } σ2 H2) (hd: ∀σ H,Pv xs.length σ H->D.nx σ H):
  ∃W:FC->FC->St->Hp->Prop,(∃m,W 0 m σ H)/\ ∀i m σ H,W i m σ H->
   ((Yi K a).stop i H/\D.nx σ H)\/((Yi K a).go i H/\ ∃N:St->Hp->Prop,(∀σ' H',N σ' H'-> ∃m',m'<m/\W (i+1) m' σ' H')/\ ∀x H',(Yi K a).yld i H x H'->g x σ H' λσ2 H2=>tb { D with nx:=N,ct:=N,bk:=D.nx } σ2 H2):=by
 refine#[λi m σ H=>m=xs.length-i/\i<=xs.length/\Pv i σ H,#[xs.length,by simp,F3 _,h0],?_];rintro i m σ H ⟨rfl,hi,p⟩;have q:=hl i σ H hi p;by_cases UH:i<xs.length
 .refine .inr #[#[xs,xs[i],q,by simp [UH]],Pv (i+1),λσ' H' p'=>#[xs.length-(i+1),by lia,Gc,UH,p'],λx H' y=>?_]
  obtain⟨e,y⟩:=y;subst e;exact hs i x σ _ (y xs q) p
 .have e:i=xs.length:=by lia
  subst e;exact .inl #[#[xs,q,FF _],hd σ H p]
theorem yO {lo:Int}{n:FC}{g:TG}{tb:TS}{D:eA}{σ:St}{H:Hp}(Pv:FC->St->Hp->Prop) (h0:Pv 0 σ H)
  (hs: ∀i σ H,i<n->Pv i σ H->g (.int (lo+i)) σ H λσ2 H2=>tb { D with nx:=Pv (i+1),ct:=Pv (i+1),bk:=D.nx } σ2 H2) (hd: ∀σ H,Pv n σ H->D.nx σ H):
  ∃W:FC->FC->St->Hp->Prop,(∃m,W 0 m σ H)/\ ∀i m σ H,W i m σ H->
   ((Itr lo n).stop i H/\D.nx σ H)\/((Itr lo n).go i H/\ ∃N:St->Hp->Prop,(∀σ' H',N σ' H'-> ∃m',m'<m/\W (i+1) m' σ' H')/\ ∀x H',(Itr lo n).yld i H x H'->g x σ H' λσ2 H2=>tb { D with nx:=N,ct:=N,bk:=D.nx } σ2 H2):=by
 refine#[λi m σ H=>m=n-i/\i<=n/\Pv i σ H,#[n,by simp,F3 _,h0],?_];rintro i m σ H ⟨rfl,hi,p⟩;by_cases UH:i<n
 .refine .inr #[UH,Pv (i+1),λσ' H' p'=>#[n-(i+1),by lia,Gc,UH,p'],λx H' y=>?_]
  obtain⟨e,y⟩:=y;subst e y;exact hs i σ _ UH p
 .have e:i=n:=by lia
  subst e;exact .inl #[FF _,hd σ H p]
abbrev R2:=V->V->Hp->VK->Prop
def ku (X:Cx) (f:Fh->Fh->Sem Fh) (r:R2):Prop:=
 ∀(pins:E9 (Fi×IW)) (s:Fn) (σ:St) (H:Hp) (x y:V) (v u:Fh) (Q:VK),aE X pins σ H s->bh x v->bh y u->r x y H Q->
  FV (model X.prog X.w) X.A (f v u) (EP X pins σ Q) X.xe s
def UnR (X:Cx) (f:Fh->Sem Fh) (r:V->Hp->VK->Prop):Prop:=
 ∀(pins:E9 (Fi×IW)) (s:Fn) (σ:St) (H:Hp) (x:V) (v:Fh) (Q:VK),aE X pins σ H s->bh x v->r x H Q->
  FV (model X.prog X.w) X.A (f v) (EP X pins σ Q) X.xe s
def gI (X:Cx) (f:Fh) (r:E9 V->Hp->VK->Prop):Prop:=
 ∀(pins:E9 (Fi×IW)) (s:Fn) (σ:St) (H:Hp) (xs:E9 V) (us:E9 Fh) (Q:VK),aE X pins σ H s->aX xs us->r xs H Q->
  FV (model X.prog X.w) X.A (call f us) (EP X pins σ Q) X.xe s
def tOp (r:R2) (ta tb:TE):TE:=λσ H Q=>ta σ H λx H1=>tb σ H1 λy H2=>r x y H2 Q
def tUn (r:V->Hp->VK->Prop) (ta:TE):TE:=λσ H Q=>ta σ H λx H1=>r x H1 Q
inductive rI (C:Int->Int->Prop) (g:Int->Int->V) (x:V) (y:V) (H:Hp) (Q:VK):Prop
 |mk (i j:Int) (_:x= .int i) (_:y= .int j) (_:C i j) (_:Q (g i j) H):rI C g x y H Q
inductive zm (g:Int->Int->V) (x:V) (y:V) (H:Hp) (Q:VK):Prop
 |mk (i j:Int) (_:x= .int i) (_:y= .int j) (_:Q (g i j) H):zm g x y H Q
inductive rU (g:Int->V) (x:V) (H:Hp) (Q:VK):Prop
 |mk (i:Int) (_:x= .int i) (_:Q (g i) H):rU g x H Q
section
variable {X:Cx}{a b c:HH}{ta tb tc:TE}{pos:Pos}
theorem aaw (ha:PE X a ta) (hb:PE X b tb) {pins:E9 (Fi×IW)}{s:Fn}{σ:St}{H:Hp}{R:V->V->Hp->Prop}(I:aE X pins σ H s)
  (h:ta σ H λx H1=>tb σ H1 λy H2=>R x y H2) {Q:Fh->Fn->Prop}{f:Fh->Fh->Sem Fh}
  (hf: ∀v u s2 x y H2,aE X pins σ H2 s2->bh x v->bh y u->R x y H2->FV (model X.prog X.w) X.A (f v u) Q X.xe s2):
  FV (model X.prog X.w) X.A (eval a X.env) (λv s₁=>FV (model X.prog X.w) X.A (eval b X.env) (λu s₂=>FV (model X.prog X.w) X.A (f v u) Q X.xe s₂) X.xe s₁) X.xe s:=by
 refine b8 (ha pins s σ H _ I h) λv s1 ⟨x,H1,I1,r1,q1⟩=>?_;refine b8 (hb pins s1 σ H1 _ I1 q1) λu s2 ⟨y,H2,I2,r2,q2⟩=>?_;exact hf v u s2 x y H2 I2 r1 r2 q2
theorem bW {r:R2}(ho:ku X (OA op) r) (ha:PE X a ta) (hb:PE X b tb):PE X (.BinOp a op b pos) (tOp r ta tb):=by
 rw[01];exact wpAny_BinOp (aaw ha hb I h λv u s2 x y H2 I2 rx ry q=>ho pins s2 σ H2 x y v u Q I2 rx ry q)
theorem dL {r:V->Hp->VK->Prop}(ho:UnR X (unaryOp op) r) (ha:PE X a ta):PE X (.UnaryOp op a pos) (tUn r ta):=by
 rw[01];exact UnaryOp_ (b8 (ha pins s σ H _ I h) λv s1 ⟨x,H1,I1,r1,q1⟩=>ho pins s1 σ H1 x v Q I1 r1 q1)
theorem opI {f:Fh->Fh->Sem Fh}{C:Int->Int->Prop}{g:Int->Int->Int}
  (rule: ∀(i j:Int) (t u:Tok) (s:Fn) (Q:Fh->Fn->Prop) (E:Fh->Fn->Prop),C i j->Q (.int (g i j) s.toks) { s with toks:=s.toks+1 } ->FV (model X.prog X.w) X.A (f (.int i t) (.int j u)) Q E s):
  ku X f (rI C λi j=> .int (g i j)):=by
 intro pins s σ H x y v u Q I rx ry h;obtain⟨i,j,rfl,rfl,hc,q⟩:=h;obtain⟨t,rfl⟩:=rx;obtain⟨t',rfl⟩:=ry;exact rule i j t t' s _ _ hc #[.int (g i j),H,I.tok _,#[_,Gc],q]
theorem afA {f:Fh->Fh->Sem Fh}{g:Int->Int->Int}
  (rule: ∀(i j:Int) (t u:Tok) (s:Fn) (Q:Fh->Fn->Prop) (E:Fh->Fn->Prop),Q (.int (g i j) s.toks) { s with toks:=s.toks+1 } ->FV (model X.prog X.w) X.A (f (.int i t) (.int j u)) Q E s):
  ku X f (zm λi j=> .int (g i j)):=by
 intro pins s σ H x y v u Q I rx ry h;obtain⟨i,j,rfl,rfl,q⟩:=h;obtain⟨t,rfl⟩:=rx;obtain⟨t',rfl⟩:=ry;exact rule i j t t' s _ _ #[.int (g i j),H,I.tok _,#[_,Gc],q]
theorem D3 {f:Fh->Fh->Sem Fh}{g:Int->Int->Gu}
  (rule: ∀(i j:Int) (t u:Tok) (s:Fn) (Q:Fh->Fn->Prop) (E:Fh->Fn->Prop),Q (.bool (g i j)) s->FV (model X.prog X.w) X.A (f (.int i t) (.int j u)) Q E s):
  ku X f (zm λi j=> .bl (g i j)):=by
 intro pins s σ H x y v u Q I rx ry h;obtain⟨i,j,rfl,rfl,q⟩:=h;obtain⟨t,rfl⟩:=rx;obtain⟨t',rfl⟩:=ry;exact rule i j t t' s _ _ #[.bl (g i j),H,I,Gc,q]
def aax (i j:Int):Prop:=(-(2 ^ 64)<i/\i<2 ^ 64)\/(-(2 ^ 64)<j/\j<2 ^ 64)
theorem aax.ok {i j:Int}(h:aax i j):IntMulOk i j:=by
 rcases h with⟨h1,h2⟩|⟨h1,h2⟩
 .exact .of_left (intBits_le_64 h1 h2)
 .exact .of_right (intBits_le_64 h1 h2)
theorem dX:ku X (OA .Add) (zm λi j=> .int (i+j)):=afA λ_ _ _ _ _ _ _ q=>add_int q
theorem cX:ku X (OA .Sub) (zm λi j=> .int (i-j)):=afA λ_ _ _ _ _ _ _ q=>sub_int q
theorem BP:ku X (OA .Mult) (rI aax λi j=> .int (i*j)):=opI λ_ _ _ _ _ _ _ hc q=>mul_int q hc.ok
theorem Eh:ku X (OA .Mod) (rI (λ_ j=>j≠0) λi j=> .int (i.fmod j)):=opI λ_ _ _ _ _ _ _ hc q=>mod_int' hc q
theorem unI {f:Fh->Sem Fh}{g:Int->Int}
  (rule: ∀(i:Int) (t:Tok) (s:Fn) (Q:Fh->Fn->Prop) (E:Fh->Fn->Prop),Q (.int (g i) s.toks) { s with toks:=s.toks+1 } ->FV (model X.prog X.w) X.A (f (.int i t)) Q E s):
  UnR X f (rU λi=> .int (g i)):=by
 intro pins s σ H x v Q I rx h;obtain⟨i,rfl,q⟩:=h;obtain⟨t,rfl⟩:=rx;exact rule i t s _ _ #[.int (g i),H,I.tok _,#[_,Gc],q]
theorem cK:UnR X (unaryOp .USub) (rU λi=> .int (-i)):=unI λ_ _ _ _ _ q=>neg_int q
end
def aay:V->V->Gu
 | .IJ, .IJ=>FM| .IJ, .int _=>FM| .int _, .IJ=>FM| .IJ, .bl _=>FM| .bl _, .IJ=>FM| .IJ, .str _=>FM| .str _, .IJ=>FM
 | .int _, .int _=>FM| .bl _, .bl _=>FM| .str _, .str _=>FM| .Sx _, .Sx _=>FM
 | .int _, .str _=>FM| .str _, .int _=>FM| .bl _, .str _=>FM| .str _, .bl _=>FM
 |_,_=>FS
inductive rEq (x:V) (y:V) (H:Hp) (Q:VK):Prop
 |mk (_:aay x y=FM) (_:Q (.bl (decide (x=y))) H):rEq x y H Q
inductive rNe (x:V) (y:V) (H:Hp) (Q:VK):Prop
 |mk (_:aay x y=FM) (_:Q (.bl (!decide (x=y))) H):rNe x y H Q
theorem xj {i j:Int} :decide (V.int i=V.int j)=(i == j):=by
 rw[Hd];simp
theorem BH {i j:Gu} :decide (V.bl i=V.bl j)=(i == j):=by
 rw[Hd];simp
theorem xn {i j:FR} :decide (V.str i=V.str j)=(i == j):=by
 rw[Hd];simp
theorem wF {i j:Jw Jc} :decide (V.Sx i=V.Sx j)=(i.toList == j.toList):=by
 rw[Hd];cases i;cases j;simp
section
variable {X:Cx}{a b c:HH}{ta tb tc:TE}{pos:Pos}
theorem bG {pins:E9 (Fi×IW)}{σ:St}{H:Hp}{s:Fn}{Q:VK}{k k':Gu}(I:aE X pins σ H s) (q:Q (.bl k) H) (e:k=k'):EP X pins σ Q (.bool k') s:=by
 subst e;exact#[.bl k,H,I,Gc,q]
theorem b9:ku X (Ii .Eq) rEq:=by
 intro pins s σ H x y v u Q I rx ry h;obtain⟨hs,q⟩:=h;cases x with
 |IJ=>
  cases rx;cases y with
  |IJ=>cases ry;exact PySem.EqNone.eq_none_none (bG I q (by simp))
  |bl j=>cases ry;exact PySem.EqNone.eq_none_bool (bG I q (by simp))
  |int j=>obtain⟨t',rfl⟩:=ry;exact PySem.EqNone.eq_none_int (bG I q (by simp))
  |str j=>obtain⟨t',rfl⟩:=ry;exact PySem.EqNone.eq_none_str (bG I q (by simp))
  |_=>exact FH (show FS=FM from hs) Fd
 |bl i=>
  cases rx;cases y with
  |IJ=>cases ry;exact PySem.EqNone.eq_bool_none (bG I q (by simp))
  |bl j=>cases ry;exact eq_bool (bG I q BH)
  |str j=>obtain⟨t',rfl⟩:=ry;exact PySem.EqMixed.eq_bool_str (bG I q (by simp))
  |_=>exact FH (show FS=FM from hs) Fd
 |int i=>
  obtain⟨t,rfl⟩:=rx;cases y with
  |IJ=>cases ry;exact PySem.EqNone.eq_int_none (bG I q (by simp))
  |int j=>obtain⟨t',rfl⟩:=ry;exact eq_int (bG I q xj)
  |str j=>obtain⟨t',rfl⟩:=ry;exact PySem.EqMixed.eq_int_str (bG I q (by simp))
  |_=>exact FH (show FS=FM from hs) Fd
 |str i=>
  obtain⟨t,rfl⟩:=rx;cases y with
  |IJ=>cases ry;exact PySem.EqNone.eq_str_none (bG I q (by simp))
  |bl j=>cases ry;exact PySem.EqMixed.eq_str_bool (bG I q (by simp))
  |int j=>obtain⟨t',rfl⟩:=ry;exact PySem.EqMixed.eq_str_int (bG I q (by simp))
  |str j=>obtain⟨t',rfl⟩:=ry;exact eq_str (bG I q xn)
  |_=>exact FH (show FS=FM from hs) Fd
 |Sx i=>
  obtain⟨t,rfl⟩:=rx;cases y with
  |Sx j=>obtain⟨t',rfl⟩:=ry;exact PySem.W.eq_bytes (bG I q wF)
  |_=>exact FH (show FS=FM from hs) Fd
 |_=>cases y<;>exact FH (show FS=FM from hs) Fd
theorem qf:ku X (Ii .NotEq) rNe:=by
 intro pins s σ H x y v u Q I rx ry h;obtain⟨hs,q⟩:=h;cases x with
 |IJ=>
  cases rx;cases y with
  |IJ=>cases ry;exact PySem.EqNone.ne_none_none (bG I q (by simp))
  |bl j=>cases ry;exact PySem.EqNone.ne_none_bool (bG I q (by simp))
  |int j=>obtain⟨t',rfl⟩:=ry;exact PySem.EqNone.ne_none_int (bG I q (by simp))
  |str j=>obtain⟨t',rfl⟩:=ry;exact PySem.EqNone.ne_none_str (bG I q (by simp))
  |_=>exact FH (show FS=FM from hs) Fd
 |bl i=>
  cases rx;cases y with
  |IJ=>cases ry;exact PySem.EqNone.ne_bool_none (bG I q (by simp))
  |bl j=>cases ry;exact ne_bool (bG I q (Gq not BH))
  |str j=>obtain⟨t',rfl⟩:=ry;exact PySem.EqMixed.ne_bool_str (bG I q (by simp))
  |_=>exact FH (show FS=FM from hs) Fd
 |int i=>
  obtain⟨t,rfl⟩:=rx;cases y with
  |IJ=>cases ry;exact PySem.EqNone.ne_int_none (bG I q (by simp))
  |int j=>obtain⟨t',rfl⟩:=ry;exact ne_int (bG I q (Gq not xj))
  |str j=>obtain⟨t',rfl⟩:=ry;exact PySem.EqMixed.ne_int_str (bG I q (by simp))
  |_=>exact FH (show FS=FM from hs) Fd
 |str i=>
  obtain⟨t,rfl⟩:=rx;cases y with
  |IJ=>cases ry;exact PySem.EqNone.ne_str_none (bG I q (by simp))
  |bl j=>cases ry;exact PySem.EqMixed.ne_str_bool (bG I q (by simp))
  |int j=>obtain⟨t',rfl⟩:=ry;exact PySem.EqMixed.ne_str_int (bG I q (by simp))
  |str j=>obtain⟨t',rfl⟩:=ry;exact ne_str (bG I q (Gq not xn))
  |_=>exact FH (show FS=FM from hs) Fd
 |Sx i=>
  obtain⟨t,rfl⟩:=rx;cases y with
  |Sx j=>obtain⟨t',rfl⟩:=ry;exact PySem.W.ne_bytes (bG I q (Gq not wF))
  |_=>exact FH (show FS=FM from hs) Fd
 |_=>cases y<;>exact FH (show FS=FM from hs) Fd
theorem j8:ku X (Ii .Lt) (zm λi j=> .bl (decide (i<j))):=D3 λ_ _ _ _ _ _ _ q=>lt_int q
theorem eP:ku X (Ii .LtE) (zm λi j=> .bl (decide (i<=j))):=D3 λ_ _ _ _ _ _ _ q=>le_int q
theorem gb:ku X (Ii .Gt) (zm λi j=> .bl (decide (j<i))):=D3 λ_ _ _ _ _ _ _ q=>gt_int q
theorem afB:ku X (Ii .GtE) (zm λi j=> .bl (decide (j<=i))):=D3 λ_ _ _ _ _ _ _ q=>ge_int q
theorem aaz:ku X (Ii .Is) (λx y H Q=>y= .IJ/\Q (.bl (decide (x= .IJ))) H):=by
 intro pins s σ H x y v u Q I rx ry h;obtain⟨rfl,q⟩:=h;cases ry;refine is_none_gen (bG I q ?_);cases x<;>first
  | (cases rx;rfl)
  | (obtain⟨t,rfl⟩:=rx;rfl)
theorem DV:ku X (Ii .IsNot) (λx y H Q=>y= .IJ/\Q (.bl (!decide (x= .IJ))) H):=by
 intro pins s σ H x y v u Q I rx ry h;obtain⟨rfl,q⟩:=h;cases ry;refine isnot_none_gen (bG I q ?_);cases x<;>first
  | (cases rx;rfl)
  | (obtain⟨t,rfl⟩:=rx;rfl)
theorem aL (b:HH) (h:op≠ .In:=by decide) (h2:op≠ .NotIn:=by decide):behindInMarks op b=FS:=by
 have e1:(op == CmpOp.In)=FS:=by cases op<;>first|rfl|exact FH Gc h
 have e2:(op == CmpOp.NotIn)=FS:=by cases op<;>first|rfl|exact FH Gc h2
 cases b<;>simp [behindInMarks,e1,e2]
theorem ca {r:R2}(ho:ku X (Ii op) r) (ha:PE X a ta) (hb:PE X b tb) (hm:behindInMarks op b=FS):PE X (.Compare a [op] [b] pos) (tOp r ta tb):=by
 rw[01];exact wpAny_Compare1 (aaw ha hb I h λv u s2 x y H2 I2 rx ry q=>ho pins s2 σ H2 x y v u Q I2 rx ry q) hm
def Aa (t:TE):TT:=λσ H Q=>t σ H (uP Q)
theorem a0 {r:R2}(ho:ku X (Ii op) r) (ha:PE X a ta) (hb:PE X b tb) (hm:behindInMarks op b=FS):PT X (.Compare a [op] [b] pos) (Aa (tOp r ta tb)):=by
 rw[01];refine Wr (b8 (ha pins s σ H _ I h) λv s1 ⟨x,H1,I1,r1,q1⟩=>b8 (hb pins s1 σ H1 _ I1 q1) λu s2 ⟨y,H2,I2,r2,q2⟩=>
  b8 (ho pins s2 σ H2 x y v u _ I2 r1 r2 q2) λc s3 ⟨z,H3,I3,r3,k,e,q3⟩=>?_) hm
 subst e;cases r3;exact IU #[H3,I3,q3]
def ut (r r':R2) (ta tb tc:TE):TE:=λσ H Q=>ta σ H λx H1=>tb σ H1 λy H2=>r x y H2 λz H3=> ∃k,z= .bl k/\
 (if k=FM then tc σ H3 λw' H4=>r' y w' H4 Q else Q (.bl FS) H3)
theorem iy {r r':R2}(ho:ku X (Ii op) r) (Rx:ku X (Ii op') r') (ha:PE X a ta) (hb:PE X b tb) (hc:PE X c tc)
  (hm:Vo [op,op'] [b,c]=FS:=by with_unfolding_all rfl):PE X (.Compare a [op,op'] [b,c] pos) (ut r r' ta tb tc):=by
 rw[01];refine Compare_chain (b8 (ha pins s σ H _ I h) λv s1 ⟨x,H1,I1,r1,q1⟩=>chain_link (b8 (hb pins s1 σ H1 _ I1 q1) λu s2 ⟨y,H2,I2,r2,q2⟩=>
  b8 (ho pins s2 σ H2 x y v u _ I2 r1 r2 q2) λd s3 ⟨z,H3,I3,r3,k,e,q3⟩=>?_)) hm
 subst e;cases r3;refine IU ?_;cases k with
 |false=>exact ite_ff #[.bl FS,H3,I3,Gc,q3]
 |true=>exact ite_tt (chain_last (b8 (hc pins s3 σ H3 _ I3 q3) λw' s4 ⟨z',H4,I4,r4,q4⟩=>Rx pins s4 σ H4 y z' u w' Q I4 r2 r4 q4))
theorem Ct {r r':R2}(ho:ku X (Ii op) r) (Rx:ku X (Ii op') r') (ha:PE X a ta) (hb:PE X b tb) (hc:PE X c tc)
  (hm:Vo [op,op'] [b,c]=FS:=by with_unfolding_all rfl):PT X (.Compare a [op,op'] [b,c] pos) (Aa (ut r r' ta tb tc)):=by
 rw[01];refine isTrue_chain (b8 (ha pins s σ H _ I h) λv s1 ⟨x,H1,I1,r1,q1⟩=>test_link (b8 (hb pins s1 σ H1 _ I1 q1) λu s2 ⟨y,H2,I2,r2,q2⟩=>
  b8 (ho pins s2 σ H2 x y v u _ I2 r1 r2 q2) λd s3 ⟨z,H3,I3,r3,k,e,q3⟩=>?_)) hm
 subst e;cases r3;refine IU ?_;cases k with
 |false=>
  obtain⟨k',e',q'⟩:=q3;cases e';exact ite_ff #[H3,I3,q']
 |true=>
  refine ite_tt (test_last (b8 (hc pins s3 σ H3 _ I3 q3) λw' s4 ⟨z',H4,I4,r4,q4⟩=>b8 (Rx pins s4 σ H4 y z' u w' _ I4 r2 r4 q4) λd' s5 ⟨z2,H5,I5,r5,k2,e2,q5⟩=>?_));subst e2;cases r5;exact IU #[H5,I5,q5]
theorem rb:(F8:FC)<2 ^ 63:=by rw[Ic];decide
theorem mT {x:V}(r:aX [x] us): ∃u,us=[u]/\bh x u:=by
 cases r with
 |cons r1 r2=>cases r2;exact#[_,Gc,r1]
theorem vals2 {x y:V}(r:aX [x,y] us): ∃u w',us=[u,w']/\bh x u/\bh y w':=by
 cases r with
 |cons r1 r2=>
  cases r2 with
  |cons r3 r4=>cases r4;exact#[_,_,Gc,r1,r3]
theorem uh:gI X (.builtin "abs") (λxs H Q=> ∃i,xs=[.int i]/\Q (.int (if i<0 then-i else i)) H):=by
 intro pins s σ H xs us Q I r h;obtain⟨i,rfl,q⟩:=h;obtain⟨u,rfl,t,rfl⟩:=mT r;exact call_abs_int λu tk=>#[.int (if i<0 then-i else i),H,I.tok _,#[_,Gc],q]
end
structure uI (h:GY) (x dx C:Fi) (mA:FR->Ft Fh):Prop where
 obj:h.get? x=Fa (JA C dx)
 ns:h.Ns1 dx mA
 ne:dx≠x
theorem xY {h:GY}{dx:Fi}{mA:FR->Ft Fh}(n:h.Ns1 dx mA): ∃od,h.get? dx=Fa od/\ ∀name,Oa name od=Fa (mA name):=by
 obtain⟨o,es,ep,ho,hd,hk,_,hm⟩:=n;refine#[o,ho,λname=>?_];have e:=hm name;unfold nsFind findBy at e;rw[<-UX] at e;unfold Oa;rw[hd];dsimp only;split
 .rename_i y q
  rw[q] at e;exact Gq Fa e
 .rename_i q
  rw[q] at e;have a:es.toList.any (·.refKey)=FS:=by
   rw[VH];intro y hy;obtain⟨z,t,akO⟩:=hk y (TF.mp hy);simp [Oz.refKey,akO]
  have a': ¬es.toList.any (·.refKey)=FM:=by rw[a];exact Fd
  rw[Fj a'];exact Gq Fa e
theorem uI.look {h:GY}{x dx C:Fi}{mA:FR->Ft Fh}(I:uI h x dx C mA): ∃od,PySem.W.InstAt h x (JA C dx) C (Fa od)/\ ∀name,Oa name od=Fa (mA name):=
 let ⟨od,ho,hl⟩:=xY I.ns
 #[od,#[I.obj,Gc,Gc,ho],hl]
section
variable {prog:Ga}{w:GN}{A:GV}{E:Fh->Fn->Prop}{s:Fn}{K:Fe}{x dx C f:Fi}{mA:FR->Ft Fh}{name:FR}{v:Fh}
theorem DB {Q:Fh->Fn->Prop}(X:K.In s.heap) (I:uI s.heap x dx C mA) (hg:Nq K C name=FM) (hh:O9 K C=FM)
  (ha:HS K (.ref C) name=Fa FB) (hv:mA name=Fa v) (hv':U3 v=FM) (h:Q v { s with toks:=s.toks+1 }):
  FV (model prog w) A (Td (.ref x) name expr) Q E s:=by
 obtain⟨od,J,hl⟩:=I.look;exact PySem.W.get_value X J (Ox hg).1 (PySem.W.findObj_own hh ha Gc (by rw[hl,hv])) hv' h
theorem zO {Q:Fh×E9 Fh->Fn->Prop}(X:K.In s.heap) (I:uI s.heap x dx C mA) (hg:Nq K C name=FM)
  (hf:HS K (.ref C) name=Fa (Fa (.ref f))) (ht:Pd K (.ref f)=FM) (hv:mA name=FB) (h:Q (.ref f,[.ref x]) s):
  FV (model prog w) A (K7 (.ref x) name pl) Q E s:=by
 obtain⟨od,J,hl⟩:=I.look;exact PySem.W.method_fn X J (Ox hg).1 (Ox hg).2 hf (beq_iff_eq.mp ht) (by show(Oa name od).map (·.isSome)=Fa FS;rw[hl,hv];rfl) h
theorem DZ {ns:E9 FR}{Q:Nc->Fn->Prop}(X:K.In s.heap) (I:uI s.heap x dx C mA)
  (hs:HS K (.ref C) "__setattr__"=Fa (Fa (.builtin "object.__setattr__"))) (hp:Um K C=FM) (ht:Qy K C name=Fa FB) (hh:O9 K C=FM)
  (hw:N3 mA ns) (hsz:ns.length<=F8)
  (h: ∀h',uI h' x dx C (λy=>if y=name then Fa v else mA y)->MK dx s.heap h'->Q () { s with heap:=h',toks:=s.toks+2 }):
  FV (model prog w) A (Te (.ref x) name v) Q E s:=by
 obtain⟨od,J,hl⟩:=I.look;refine PySem.W.set_plain X J hs (PySem.W.osa_open (s:= { s with toks:=s.toks+1 }) (r:=FB) X J hp ht λb=>?_);obtain⟨cd,hc,Xr⟩:=PySem.W.any_some hh;have hx:s.heap.get? x=Fa ⟨.ref C,Fa dx, .plain, [].toArray⟩:=I.obj;refine FD (F7 (FD (FD (wpAny_loadPart hx (FD (PySem.W.Looks.here (s:= { s with toks:=s.toks+1 }) (PySem.W.looks_clsIn X hc) ?_))))));rw[Xr];refine F7 (a:=Fa dx) (FD (F7 (FD ?_)));refine VI (s:= { s with toks:=s.toks+1 }) I.ns λh' hn2 UA=>?_;obtain⟨oD,esD,epD,hoD,hdD,hcD⟩:=hn2.count (N3.cons name v hw);refine FD (RC hoD (by rw[hdD];exact RD (FP hcD (by rw[FA];lia))) ?_);exact F7 (h _ #[(UA.2 _ (IG I.ne)).trans I.obj,hn2,I.ne] UA)
theorem Bi {R:Result->Fn->Prop}(X:K.In s.heap) (hm:Vt K C=FM)
  (hi:HS K (.ref C) "__init__"=Fa (Fa (.ref f))) (hf:VT K (.ref f)=Fa (.type "function"))
  (h:Lq (model prog w) (A.under (.builtin "type.__call__" #[.ref C::vs,kw])) (.call (.ref f) #[.ref (s.heap.objs.size+1)::vs,kw]) (PySem.W.InitBack (s.heap.objs.size+1) R)
   { s with heap:=(s.heap.push IE).push (JA C s.heap.objs.size) }):
  Lq (model prog w) A (.call (.ref C) #[vs,kw]) R s:=by
 obtain⟨hh,g,d,t,os⟩:=s;exact PySem.W.make_core (PySem.W.makes_of X hm) (PySem.W.looks_findIn X hi) (λself=>PySem.W.bind_fn X self hf) (.inl Gc) h
end
def Ib (f:FR) (v:V):E9 (FR×V)->E9 (FR×V)
 |[]=>[(f,v)]
 | (g,x)::r=>if g=f then(g,v)::r else(g,x)::Ib f v r
theorem iE (f g:FR) (v:V): ∀fs:E9 (FR×V),(Ib f v fs).lookup g=if g=f then Fa v else fs.lookup g
 |[]=>by
  show Ju g [(f,v)]=_
  by_cases h:g=f
  .have hb:(g == f)=FM:=beq_iff_eq.mpr h
   simp only[Ju,hb,Fm h]
  .have hb:(g == f)=FS:=beq_eq_false_iff_ne.mpr h
   simp only[Ju,hb,Fj h]
 | (k,x)::r=>by
  have ih:=iE f g v r;rw[show Ib f v ((k,x)::r)=(if k=f then(k,v)::r else(k,x)::Ib f v r) from Gc]
  by_cases hk:k=f
  .rw[Fm hk]
   by_cases h:g=k
   .have hb:(g == k)=FM:=beq_iff_eq.mpr h
    simp only[Ju,hb,Fm (h.trans hk)]
   .have hb:(g == k)=FS:=beq_eq_false_iff_ne.mpr h
    simp only[Ju,hb,Fj (λe:g=f=>h (e.trans hk.symm))]
  .rw[Fj hk]
   by_cases h:g=k
   .have hb:(g == k)=FM:=beq_iff_eq.mpr h
    simp only[Ju,hb,Fj (λe:g=f=>hk (h.symm.trans e))]
   .have hb:(g == k)=FS:=beq_eq_false_iff_ne.mpr h
    simp only[Ju,hb];exact ih
theorem gA (f:FR) (v:V): ∀fs:E9 (FR×V),f∈(Ib f v fs).map (·.1)/\ ∀g,g∈fs.map (·.1)->g∈(Ib f v fs).map (·.1)
 |[]=>#[by simp [Ib],λg h=>by simp at h]
 | (k,x)::r=>by
  obtain⟨i1,i2⟩:=gA f v r;rw[show Ib f v ((k,x)::r)=(if k=f then(k,v)::r else(k,x)::Ib f v r) from Gc]
  by_cases hk:k=f
  .rw[Fm hk]
   subst hk;exact#[by simp,λg h=>by simpa using h]
  .rw[Fj hk]
   refine#[?_,λg h=>?_]
   .rw[FQ]
    exact Fp _ i1
   .rw[FQ] at h ⊢
    rcases Fy.mp h with e|e
    .exact Fy.mpr (.inl e)
    .exact Fp _ (i2 g e)
theorem cS (f:FR) (v:V): ∀fs:E9 (FR×V),(Ib f v fs).length<=fs.length+1
 |[]=>by simp [Ib]
 | (k,x)::r=>by
  have ih:=cS f v r;rw[show Ib f v ((k,x)::r)=(if k=f then(k,v)::r else(k,x)::Ib f v r) from Gc]
  by_cases hk:k=f
  .rw[Fm hk,FA,FA];lia
  .rw[Fj hk,FA,FA];lia
theorem fU.some_of {v:V}{o:Ft Fh}(r:fU (Fa v) o): ∃u,o=Fa u/\bh v u:=by
 cases o with
 |none=>exact(show False from r).elim
 |some u=>exact#[u,Gc,r]
theorem fU.none_of {o:Ft Fh}(r:fU FB o):o=FB:=by
 cases o with
 |none=>rfl
 |some u=>exact(show False from r).elim
theorem pJ {v:V}{u:Fh}(r:bh v u):U3 u=FM:=by
 cases v with
 |IJ=>cases (show u=HY from r);rfl
 |bl b=>cases (show u=MQ b from r);rfl
 |int i=>obtain⟨t,e⟩:=(show∃t,u=Ki i t from r);cases e;rfl
 |str x=>obtain⟨t,e⟩:=(show∃t,u=OH x t from r);cases e;rfl
 |Sx b=>obtain⟨t,e⟩:=(show∃t,u=Fh.bytes b t from r);cases e;rfl
 |XZ b=>obtain⟨t,e⟩:=(show∃t,u=TN b t from r);cases e;rfl
 |ref a=>cases (show u=FZ a from r);rfl
 |ty n=>cases (show u=MR n from r);rfl
section
variable {P:Ga}{w:GN}{H H':Hp}{h h':GY}{a C dx:Fi}{fs fs':E9 (FR×V)}
theorem mi (Iu:ib P w H h) (e:H a=Fa (.ins C dx fs)): ∃mA,uI h a dx C mA/\(∀f,fU (fs.lookup f) (mA f))/\N3 mA (fs.map (·.1))/\fs.length<=1000/\H dx=Fa (.own a):=by
 obtain⟨d,z,ne,ob,mA,n,r,q⟩:=(show cx P w H h a (.ins C dx fs) from Iu a _ e);exact#[mA,#[ob,n,ne],r,q,z,d]
end
theorem gM.get {K:Fe}{C:Fi}(c:gM K C) (f:FR):Nq K C f=FM:=c.pg
theorem ao.afC {K:Fe}{C:Fi}{f:FR}(n:ao K C f):Qy K C f=Fa FB:=by
 unfold Qy;rw[show HS K (.ref C) f=Fa FB from n]
 rfl
section
variable {X:Cx}{pins:E9 (Fi×IW)}{σ:St}{H:Hp}{s:Fn}{a C dx:Fi}{fs:E9 (FR×V)}{f:FR}{v:V}{A:GV}{E:Fh->Fn->Prop}
theorem mY {b:Gu}{Q:Fh->Fn->Prop}(I:aE X pins σ H s) (e:H a=Fa (.ins C dx fs)) (c:gM X.K C) (n:ao X.K C f) (l:fs.lookup f=Fa v)
  (h: ∀u s',aE X pins σ H s'->bh v u->Q u s'):FV (model X.prog X.w) A (Td (.ref a) f b) Q E s:=by
 obtain⟨mA,O,r,_,_,_⟩:=mi I.Iu e;obtain⟨u,hu,ru⟩:=fU.some_of (v:=v) (o:=mA f) (by rw[<-l];exact r f);exact DB I.ND O (c.get f) c.hd n hu (pJ ru) (h u _ (I.tok _) ru)
theorem mW {m:FR}{g:Fi}{Q:Fh×E9 Fh->Fn->Prop}(I:aE X pins σ H s) (e:H a=Fa (.ins C dx fs)) (c:gM X.K C) (k:Meth X.K C m g) (l:fs.lookup m=FB)
  (h:Q (.ref g,[.ref a]) s):FV (model X.prog X.w) A (K7 (.ref a) m pl) Q E s:=by
 obtain⟨mA,O,r,_,_,_⟩:=mi I.Iu e;have hn:mA m=FB:=fU.none_of (by rw[<-l];exact r m);exact zO I.ND O (c.get m) k.at_ k.fn hn h
theorem nY {y:V}{u:Fh}{Q:Nc->Fn->Prop}(I:aE X pins σ H s) (e:H a=Fa (.ins C dx fs)) (c:gM X.K C) (n:ao X.K C f) (hl:fs.length<1000) (ry:bh y u)
  (h: ∀s',aE X pins σ (aF H a (.ins C dx (Ib f y fs))) s'->Q () s'):FV (model X.prog X.w) A (Te (.ref a) f u) Q E s:=by
 obtain⟨mA,O,r,wi,_,ho⟩:=mi I.Iu e;have hz:(fs.map (·.1)).length<=F8:=by rw[Fx,Ic];lia
 refine DZ I.ND O c.sa c.po n.afC c.hd wi hz λh' O' sb=>h _ ?_;have hd: ∃o,h'.get? dx=Fa o:=let ⟨o,_,_,e',_⟩:=O'.ns;#[o,e'];refine I.write (x:=a) (e:=dx) (by rw[e];exact Hl) (.inr ho) (λb q hb z=>(sb.2 b hb).trans z) hd ?_;refine#[by rw[ac O.ne];exact ho,?_,O.ne,O'.obj,_,O'.ns,λg=>?_,λg hg=>?_]
 .have:=cS f y fs;lia
 .show fU ((Ib f y fs).lookup g) (if g=f then Fa u else mA g)
  rw[iE];by_cases q:g=f
  .rw[Fm q,Fm q];exact ry
  .rw[Fj q,Fj q];exact r g
 .by_cases q:g=f
  .rw[q];exact(gA f y fs).1
  .refine(gA f y fs).2 g (wi g λz=>hg ?_)
   show(if g=f then Fa u else mA g)=FB
   rw[Fj q];exact z
theorem aE.made (I:aE X pins σ H s):aE X pins σ (aF (aF H s.heap.objs.size (.own (s.heap.objs.size+1))) (s.heap.objs.size+1) (.ins C s.heap.objs.size []))
  { s with heap:=(s.heap.push IE).push (JA C s.heap.objs.size) } :=by
 have e1:(s.heap.push IE).get? s.heap.objs.size=Fa IE:=G6 s.heap Gc
 have e2:((s.heap.push IE).push (JA C s.heap.objs.size)).get? (s.heap.objs.size+1)=Fa (JA C s.heap.objs.size):=by
  have:=G6 (s.heap.push IE) (o:=JA C s.heap.objs.size) Gc
  rwa [HQ] at this
 have e3:(s.heap.push IE).Ns s.heap.objs.size (λ_=>FB):=#[IE, [].toArray,_,e1,Gc,(λe he=>FH he (by simp)),λ_=>rfl]
 have I1:=I.laid (a:=s.heap.objs.size) (o:= .own (s.heap.objs.size+1)) (h':=s.heap.push IE) (t':=s.toks) (λb u q=>Fz _ q) (FF _) #[_,e1]
 refine I1.laid (a:=s.heap.objs.size+1) (o:= .ins C s.heap.objs.size []) (t':=s.toks) (λb u q=>Fz _ q) (JM (HQ _ _)) ?_;have ne:s.heap.objs.size≠s.heap.objs.size+1:=Ha (HG _);refine#[by rw[ac ne,ae],F3 _,ne,e2,λ_=>FB,(O3 e3).at λo q=>Fz _ q,λ_=>Hl,λy hy=>FH Gc hy]
theorem v9 {prog:Ga}{w:GN}{env:Env}{e:HH}{f:FR}{pos:Pos}{s:Fn}{Q:Fh->Fn->Prop}(hb:IA e f env (eval e env)=eval e env)
  (h:FV (model prog w) A (eval e env) (λo s₁=>FV (model prog w) A (Td o f FM) Q E s₁) E s):FV (model prog w) A (eval (.Attribute e f pos) env) Q E s:=
 Attribute_any_ h (by rw[arm_eval_Attribute,hb])
end
inductive dC (K:Fe) (f:FR) (R:V->Hp->Prop) (x:V) (H1:Hp):Prop
 |mk (a C dx:Fi) (fs:E9 (FR×V)) (v:V) (_:x= .ref a) (_:H1 a=Fa (.ins C dx fs)) (_:gM K C) (_:ao K C f) (_:fs.lookup f=Fa v) (_:R v H1):dC K f R x H1
def akP (K:Fe) (ta:TE) (f:FR):TE:=λσ H Q=>ta σ H (dC K f Q)
def akQ (K:Fe) (ta tv:TE) (f:FR):TS:=λD σ H=>tv σ H λy H1=>ta σ H1 λx H2=> ∃a C dx fs,x= .ref a/\H2 a=Fa (.ins C dx fs)/\gM K C/\ao K C f/\fs.length<1000/\
 D.nx σ (aF H2 a (.ins C dx (Ib f y fs)))
def afD (X:Cx) (op:Operator) (rd:V->V->Hp->VK->Prop):Prop:=
 ∀(pins:E9 (Fi×IW)) (s:Fn) (σ:St) (H:Hp) (x y:V) (u v:Fh) (Q:VK),aE X pins σ H s->bh x u->bh y v->rd x y H Q->FV (model X.prog X.w) X.A (inplaceOp op u v) (EP X pins σ Q) X.xe s
def ET (K:Fe) (ta tv:TE) (rd:V->V->Hp->VK->Prop) (f:FR):TS:=λD σ H=>ta σ H λx H1=> ∃a C dx fs v,x= .ref a/\H1 a=Fa (.ins C dx fs)/\gM K C/\ao K C f/\fs.lookup f=Fa v/\
 tv σ H1 λy H2=>rd v y H2 λz H3=> ∃dx' fs',H3 a=Fa (.ins C dx' fs')/\fs'.length<1000/\D.nx σ (aF H3 a (.ins C dx' (Ib f z fs')))
section
variable {X:Cx}{o e Kk:HH}{f:FR}{pos NG afE:Pos}{ta tv:TE}
theorem ah (he:PE X e ta) (hb:IA e f X.env (eval e X.env)=eval e X.env):PE X (.Attribute e f pos) (akP X.K ta f):=by
 rw[01];refine v9 hb (b8 (he pins s σ H _ I h) λu s1 ⟨x,H1,I1,rx,a,C,dx,fs,v,ex,ea,c,n,l,q⟩=>?_);subst ex;obtain rfl:u=FZ a:=rx;exact mY I1 ea c n l λu' s2 I2 ru=>#[v,H1,I2,ru,q]
theorem b5 (ha:PE X o ta) (hv:PE X Kk tv) (hs:LL Kk (Fa (.Attribute o f NG)) pos.line X.env=pure FS):PS X (.Assign [.Attribute o f NG] Kk pos) (akQ X.K ta tv f):=by
 intro pins s σ H D I h;refine Mq (b8 (hv pins s σ H _ I h) λu s1 ⟨y,H1,I1,ry,q⟩=>b8 (ha pins s1 σ H1 _ I1 q) λov s2 ⟨x,H2,I2,rx,a,C,dx,fs,ex,ea,c,n,l,q2⟩=>?_) hs;subst ex;obtain rfl:ov=FZ a:=rx;exact nY I2 ea c n l ry λs3 I3=>#[σ,_,I3,q2]
theorem gO {rd:V->V->Hp->VK->Prop}(ha:PE X o ta) (hv:PE X Kk tv) (Xs:afD X op rd):PS X (.AugAssign (.Attribute o f afE) op Kk pos) (ET X.K ta tv rd f):=by
 intro pins s σ H D I h;refine wpAny_AugAssign_AttributeAny (b8 (ha pins s σ H _ I h) λov s1 ⟨x,H1,I1,rx,a,C,dx,fs,v,ex,ea,c,n,l,q⟩=>?_);subst ex;obtain rfl:ov=FZ a:=rx;refine mY I1 ea c n l λu s2 I2 ru=>b8 (hv pins s2 σ H1 _ I2 q) λw3 s3 ⟨y,H2,I3,ry,q3⟩=>b8 (Xs pins s3 σ H2 v y u w3 _ I3 ru ry q3) λw4 s4 ⟨z,H3,I4,rz,dx',fs',ea',l',q4⟩=>?_;exact nY I4 ea' c n l' rz λs5 I5=>#[σ,_,I5,q4]
def akR:V->V->Hp->VK->Prop:=λx y H Q=> ∃i j,x= .int i/\y= .int j/\Q (.int (i+j)) H
theorem nN:afD X .Add akR:=by
 rintro pins s σ H x y u v Q I rx ry ⟨i,j,rfl,rfl,q⟩;obtain⟨t,rfl⟩:=(show∃t,u=Ki i t from rx);obtain⟨t',rfl⟩:=(show∃t',v=Ki j t' from ry);exact PyProof.Rows.iadd_int #[.int (i+j),H,I.tok _,#[_,Gc],q]
end
section
variable {X:Cx}{pins:E9 (Fi×IW)}{σ:St}{H:Hp}{s:Fn}{A:GV}{E:Fh->Fn->Prop}{Q:Fh->Fn->Prop}{c:Fh}{b:Gu}
inductive jI (K:Fe) (H:Hp):V->Fh->Prop where
 |IJ:jI K H .IJ (.type "NoneType")
 |bl (x:Gu):jI K H (.bl x) (.type "bool")
 |int (i:Int):jI K H (.int i) (.type "int")
 |str (x:FR):jI K H (.str x) (.type "str")
 |XZ (x:UInt64):jI K H (.XZ x) (.type "float")
 |lst {a:Fi}{xs:E9 V}(e:H a=Fa (.lst xs)):jI K H (.ref a) (.type "list")
 |QN {a:Fi}{o:IW}{xs:E9 V}(e:H a=Fa (.QN o (.lst xs))):jI K H (.ref a) (.type "list")
 |tup {a:Fi}{xs:E9 V}(e:H a=Fa (.tup xs)):jI K H (.ref a) (.type "tuple")
 |dK {a:Fi}{aD:E9 (a8×V)}(e:H a=Fa (.dK aD)):jI K H (.ref a) (.type "dict")
 |dT {a:Fi}{aD:E9 (E9 a8×V)}(e:H a=Fa (.dT aD)):jI K H (.ref a) (.type "dict")
 |ins {a C dx:Fi}{fs:E9 (FR×V)}(e:H a=Fa (.ins C dx fs)) (cl:gM K C) (ha:HS K (.ref C) "__class__"=Fa (Fa (.builtin "object.__class__")))
   (hn:Pb K (.builtin "object.__class__") "__get__"=Fa (Fa (.builtin "getset_descriptor.__get__"))) (htk:Vu K (.builtin "object.__class__")=Fa FM)
   (hm:WB K C (.type "object")=Fa FM):jI K H (.ref a) (.ref C)
theorem yH {x:V}{u t:Fh}(I:aE X pins σ H s) (rx:bh x u) (ty:jI X.K H x t) (e:HK X.K t c=Fa b) (h: ∀tk,Q (.bool b) { s with toks:=tk }):
  FV (model X.prog X.w) A (call (.builtin "isinstance") [u,c]) Q E s:=by
 cases ty with
 |IJ=>cases (show u=HY from rx);exact Im PySem.W.kitx_none I.ND Hl e (λz=>nomatch z) h
 |bl y=>cases (show u=MQ y from rx);exact Im PySem.W.kitx_bool I.ND Hl e (λz=>nomatch z) h
 |int i=>obtain⟨t,q⟩:=(show∃t,u=Ki i t from rx);cases q;exact Im PySem.W.kitx_int I.ND Hl e (λz=>nomatch z) h
 |str y=>obtain⟨t,q⟩:=(show∃t,u=OH y t from rx);cases q;exact Im PySem.W.kitx_str I.ND Hl e (λz=>nomatch z) h
 |XZ y=>obtain⟨t,q⟩:=(show∃t,u=TN y t from rx);cases q;exact Im PySem.W.kitx_float I.ND Hl e (λz=>nomatch z) h
 | @lst a xs ea=>
  cases (show u=FZ a from rx);obtain⟨_,_,n,_,h1⟩:=(show cx X.prog X.w H s.heap a (.lst xs) from I.Iu a _ ea);exact Im Uo I.ND #[_,h1,Gc] e (λz=>nomatch z) h
 | @QN a ob xs ea=>
  cases (show u=FZ a from rx);obtain⟨_,_,_,n,_,h1⟩:=(show cx X.prog X.w H s.heap a (.QN ob (.lst xs)) from I.Iu a _ ea);exact Im Uo I.ND #[_,h1,Gc] e (λz=>nomatch z) h
 | @tup a xs ea=>
  cases (show u=FZ a from rx);obtain⟨_,_,_,p⟩:=(show cx X.prog X.w H s.heap a (.tup xs) from I.Iu a _ ea);obtain⟨o,h1,h2,_⟩:=p;exact Im PySem.W.kitx_tuple I.ND #[o,h1,h2] e (λz=>nomatch z) h
 | @dK a aD ea=>
  cases (show u=FZ a from rx);obtain⟨_,_,vs,_,p⟩:=(show cx X.prog X.w H s.heap a (.dK aD) from I.Iu a _ ea);obtain⟨o,es,ep,h1,h2,_⟩:=p;exact Im Uq I.ND #[o,h1,h2.1] e (λz=>nomatch z) h
 | @dT a aD ea=>
  cases (show u=FZ a from rx);obtain⟨_,_,xs,_,o,es,ep,h1,h2,_⟩:=(show cx X.prog X.w H s.heap a (.dT aD) from I.Iu a _ ea);exact Im Uq I.ND #[o,h1,h2.1] e (λz=>nomatch z) h
 | @ins a C dx fs ea cl ha hn htk hm=>
  cases (show u=FZ a from rx);obtain⟨mA,O,_⟩:=mi I.Iu ea;obtain⟨od,J,_⟩:=O.look;exact Im (PySem.W.kitx_own (cl.get _) cl.hd ha hn htk hm) I.ND J e (λz=>nomatch z) h
end
theorem bZ.mono {j k:FC}{A:GV}(r:bZ k A) (h:j<=k):bZ j A:=#[r.hd,by have:=r.dp;lia,by have:=r.un;lia]
theorem bZ.deeper {k:FC}{A:GV}(r:bZ (k+1) A) (env:Env):bZ k (A.deeper env):=
 #[r.hd,by have:=r.dp;show A.depth+1+2*k+5<_;lia,by have:=r.un;show A.units+3+16*k+200<_;lia]
theorem uv {A:GV}{C:Fi} :(A.under (.builtin "type.__call__" #[.ref C::us,kw])).depth=A.depth+1:=by
 first|rfl|simp [Sh,Code.weight,Code.isCreation,Code.isGuard,Code.isCaller,Code.frames,Tf,guardIds]
theorem va {A:GV}{C:Fi} :(A.under (.builtin "type.__call__" #[.ref C::us,kw])).units=A.units+1:=by
 first|rfl|simp [Sh,Code.cUnits,Code.frames,Tf]
theorem bZ.make {k:FC}{A:GV}(r:bZ (k+1) A) (C:Fi) (us:E9 Fh) (kw:E9 (FR×Fh)):bZ k (A.under (.builtin "type.__call__" #[.ref C::us,kw])):=
 #[r.hd,by have:=r.dp;rw[uv];lia,by have:=r.un;rw[va];lia]
theorem bZ.depth {k:FC}{A:GV}(r:bZ k A):A.depth<recursionLimit:=by have:=r.dp;lia
theorem bZ.units {k:FC}{A:GV}(r:bZ k A):A.units+64<O5:=by have:=r.un;lia
def CS:TA:=λ_ H Q=>Q [] H
def B9 (ta:TE) (tr:TA):TA:=λσ H Q=>ta σ H λx H1=>tr σ H1 λxs H2=>Q (x::xs) H2
section
variable {X:Cx}{e:HH}{es:E9 HH}{te:TE}{t:TA}{pos:Pos}
theorem ag:PA X [] CS:=λ_ _ _ _ H Q I h=>Ll #[[],H,I, .nil,h]
theorem aa (ha:PE X e te) (hr:PA X es t) (hs:FK (e::es) X.env=[001]::FK es X.env:=by rfl):PA X (e::es) (B9 te t):=by
 intro pos pins s σ H Q I h;rw[hs];show FV _ _ (spliced ([001]::IV pos (FK es X.env))) _ _ s;refine K5 (b8 (ha pins s σ H _ I h) λu s1 ⟨x,H1,I1,r1,q1⟩=>?_);exact b8 (hr pos pins s1 σ H1 _ I1 q1) λus s2 ⟨xs,H2,I2,r2,q2⟩=>#[x::xs,H2,I2, .cons r1 r2,q2]
def akS (t:TA):TE:=λσ H Q=>t σ H λxs H1=>xs.length<=F8/\ ∀p,H1 p=FB->Q (.ref p) (aF H1 p (.tup xs))
inductive Bm (Q:VK) (xs:E9 V) (H1:Hp):Prop
 |mk (_:xs.length<=F8) (_: ∀p,H1 p=FB->Q (.ref p) (aF H1 p (.lst xs))):Bm Q xs H1
def akT (t:TA):TE:=λσ H Q=>t σ H (Bm Q)
theorem Cy {x1} (h:PA X es t):PE X (.Tuple es x1 pos) (akS t):=by
 intro pins s σ H Q I hq;refine wpAny_Tuple_spliced (b8 (h pos pins s σ H _ I hq) λus s1 ⟨xs,H1,I1,r,z,q⟩=>#[by rw[<-r.length];exact z,?_]);have hf:H1 s1.heap.objs.size=FB:=I1.Iu.fresh (FF _);refine#[.ref s1.heap.objs.size,aF H1 s1.heap.objs.size (.tup xs),I1.laid (t':=s1.toks) (λb u e=>Fz _ e) (FF _) ?_,Gc,q _ hf];exact#[z,us,r,#[_,G6 _ Gc,Gc,_,Gc]]
theorem fR (h:PA X es t):PE X (.List es pos) (akT t):=by
 intro pins s σ H Q I hq;refine wpAny_List_spliced (b8 (h pos pins s σ H _ I hq) λus s1 ⟨xs,H1,I1,r,z,q⟩=>#[by rw[<-r.length];exact z,?_]);have hf:H1 s1.heap.objs.size=FB:=I1.Iu.fresh (FF _);refine#[.ref s1.heap.objs.size,aF H1 s1.heap.objs.size (.lst xs),I1.laid (t':=s1.toks) (λb u e=>Fz _ e) (FF _) ?_,Gc,q _ hf];exact#[z,us,0,r,G6 _ Gc]
end
theorem bU.mono {P:Ga}{w:GN}{K:Fe}{mg:FR->Ft Fh}{base:GY}{CX:pP}{j k:FC}{f:Fi}{fd:Gs}{ps:E9 FR}{sp:Sp}(F:bU P w K mg base CX j f fd ps sp) (h:j<=k):
  bU P w K mg base CX k f fd ps sp:=#[F.len,λA outer s H args us vs Q E hr=>F.run A outer s H args us vs Q E (hr.mono h)]
theorem bU.imp {P:Ga}{w:GN}{K:Fe}{mg:FR->Ft Fh}{base:GY}{CX:pP}{k:FC}{f:Fi}{fd:Gs}{ps:E9 FR}{sp sp':Sp}(F:bU P w K mg base CX k f fd ps sp)
  (h: ∀vs H Q E,sp' vs H Q E->sp vs H Q E):bU P w K mg base CX k f fd ps sp':=
 #[λvs H Q E q=>F.len vs H Q E (h _ _ _ _ q),λA outer s H args us vs Q E hr he hb hv hs=>F.run A outer s H args us vs Q E hr he hb hv (h _ _ _ _ hs)]
theorem uD.make {P:Ga}{w:GN}{K:Fe}{mg:FR->Ft Fh}{base:GY}{A:GV}{s:Fn}{H:Hp}(e:uD P w K mg base A outer s H) (C:Fi) (us:E9 Fh) (kw:E9 (FR×Fh)):
  uD P w K mg base (A.under (.builtin "type.__call__" #[.ref C::us,kw])) outer s H:=#[by first|exact e.frames|(simpa [Sh,Code.envs,Tf,pushEnvs] using e.frames),e.mod,e.bs,e.U5,e.funs,e.WC,e.Iu,e.bare]
section
variable {X:Cx}{pins:E9 (Fi×IW)}{σ:St}{H:Hp}{s s':Fn}
theorem aE.aaA (I:aE X pins σ H s):uD X.prog X.w X.K X.mg X.base X.A X.stack s H:=
 #[I.ok.frames,I.ok.mod,I.bs,FP I.ok.U5 I.sz,I.stack,I.QH,I.Iu,I.bare]
theorem aE.after {Q:VK}{u:Fh}(I:aE X pins σ H s) (h:CE X.stack X.prog X.w H s Q u s'):EP X pins σ Q u s':=by
 obtain⟨v,H',os,bare,un,Iu,r,q⟩:=h;obtain⟨hh,g,d,t,os'⟩:=s';obtain rfl:os'=s.os:=os;exact#[v,H',I.call (h':=hh) (g':=g) (d':=d) (t':=t) (ch:=[]) un Iu bare (λb z=>FH z (by simp)),r,q]
end
def z6 (sp:Sp) (Rt:E9 V) (E:XK) (t:TA):TE:=λσ H Q=>t σ H λvs H1=>sp (vs++Rt) H1 Q E
inductive A7 (C:Fi) (m:FR) (R:V->Hp->Prop) (x:V) (H1:Hp):Prop
 |mk (a dx:Fi) (fs:E9 (FR×V)) (_:x= .ref a) (_:H1 a=Fa (.ins C dx fs)) (_:fs.lookup m=FB) (_:R x H1):A7 C m R x H1
def Yk (C:Fi) (m:FR) (sp:Sp) (Rt:E9 V) (E:XK) (ta:TE) (t:TA):TE:=λσ H Q=>ta σ H (A7 C m (λx H1=>t σ H1 λvs H2=>sp (x::(vs++Rt)) H2 Q E))
def Bq (C:Fi) (sp:Sp) (Rt:E9 V) (E:XK) (t:TA):TE:=λσ H Q=>t σ H λvs H1=> ∀x dx,H1 x=FB->H1 dx=FB->dx≠x->
 sp (.ref x::(vs++Rt)) (aF (aF H1 dx (.own x)) x (.ins C dx [])) (λv H2=>v= .IJ/\Q (.ref x) H2) E
def dh (CX:pP) (X:Cx) (E:XK):Prop:= ∀(pins:E9 (Fi×IW)) (σ:St) (H:Hp) (s:Fn) (e:Fh) (s':Fn),aE X pins σ H s->CX X.stack H s E e s'->X.xe e s'
section
variable {X:Cx}{CX:pP}{k:FC}{f C:Fi}{fd:Gs}{ps:E9 FR}{sp:Sp}{Rt:E9 V}{ds:E9 Fh}{E:XK}{x m:FR}{p pos La:Pos}{e o:HH}{es:E9 HH}{ta:TE}{t:TA}
theorem rk {pins:E9 (Fi×IW)}{σ:St}{H:Hp}{s:Fn}{Q:VK}(F:bU X.prog X.w X.K X.mg X.base CX k f fd ps sp) (hr:bZ k X.A) (hb:fZ X.K fd ps ds) (hd:aX Rt ds) (hx:dh CX X E)
  (I:aE X pins σ H s) (r:aX vs us) (h:sp (vs++Rt) H Q E):FV (model X.prog X.w) X.A (call (.ref f) us) (EP X pins σ Q) X.xe s:=by
 have r2:aX (vs++Rt) (us++ds):=r.append hd
 have hl:(us++ds).length=ps.length:=by rw[<-r2.length];exact F.len _ _ _ _ h
 refine QK (Nl (F.run X.A X.stack s H #[us,[]] (us++ds) (vs++Rt) Q E hr I.aaA (hb s us I.ND hl) r2 h) λr s' hq=>?_);cases r with
 |error e=>exact hx pins σ H s e s' I hq
 |ok fl=>
  cases fl with
  |ret u=>exact I.after hq
  |next=>exact IM hq
  |brk=>exact IM hq
  |cont=>exact IM hq
theorem aG (F:bU X.prog X.w X.K X.mg X.base CX k f fd ps sp) (hr:bZ k X.A) (hg:Gl X x) (d:CD X.K X.mg x f fd ps) (hx:dh CX X E)
  (ha:PA X (e::es) t) (R8:(x == [003])=FS:=by decide) (he:FK (e::es) X.env=[001]::FK es X.env:=by rfl) (MT:(IV pos (FK es X.env)).any (·.1)=FS:=by rfl):
  PE X (.Call (.Name x p) (e::es) [] pos) (z6 sp [] E t):=by
 rw[01];refine JI (ga I hg d.m ?_ R8);refine KQ (h₀:=X.base) I.ok.mod.Vz d.k (b8 (ha pos pins s σ H _ I h) λus s1 ⟨vs,H1,I1,r,q⟩=>#[I1.ND,?_]) he MT;exact rk F hr d.b .nil hx I1 r q
theorem cy (he:PE X o ta) (c:gM X.K C) (d:MD X.K C m f fd ps) (F:bU X.prog X.w X.K X.mg X.base CX k f fd ps sp) (hr:bZ k X.A) (hx:dh CX X E) (ha:PA X (e::es) t)
  (Kq:FK (e::es) X.env=[001]::FK es X.env:=by rfl) (MT:(IV pos (FK es X.env)).any (·.1)=FS:=by rfl)
  (ht:eval (.Call (.Attribute o m La) (e::es) [] pos) X.env=(do
   let ov<-eval o X.env
   standAt La.atName
   let (f,first)<-holding [ov] (K7 ov m pl)
   NN pos f first (IV pos (FK (e::es) X.env)) (KR pos (Jq [] X.env))):=by rfl):
  PE X (.Call (.Attribute o m La) (e::es) [] pos) (Yk C m sp [] E ta t):=by
 rw[01];refine Lm (pl:=pl) (b8 (he pins s σ H _ I h) λu s1 ⟨x,H1,I1,rx,a,dx,fs,ex,ea,l,q⟩=>?_) ht;subst ex;obtain rfl:u=FZ a:=rx;refine mW I1 ea c d.m l ?_;refine KQ (first:=[.ref a]) (h₀:=X.base) I.ok.mod.Vz d.m.kp (b8 (ha pos pins s1 σ H1 _ I1 q) λus s2 ⟨vs,H2,I2,r,q2⟩=>#[I2.ND,?_]) Kq MT
 exact rk (us:= .ref a::us) (vs:= .ref a::vs) F hr d.b .nil hx I2 (.cons Gc r) q2
theorem bS (he:PE X o ta) (c:gM X.K C) (d:MD X.K C m f fd ps) (F:bU X.prog X.w X.K X.mg X.base CX k f fd ps sp) (hr:bZ k X.A) (hx:dh CX X E)
  (ht:eval (.Call (.Attribute o m La) [] [] pos) X.env=(do
   let ov<-eval o X.env
   standAt La.atName
   let (f,first)<-holding [ov] (K7 ov m pl)
   NN pos f first (IV pos (FK [] X.env)) (KR pos (Jq [] X.env))):=by rfl):
  PE X (.Call (.Attribute o m La) [] [] pos) (Yk C m sp [] E ta CS):=by
 rw[01];refine Lm (pl:=pl) (b8 (he pins s σ H _ I h) λu s1 ⟨x,H1,I1,rx,a,dx,fs,ex,ea,l,q⟩=>?_) ht;subst ex;obtain rfl:u=FZ a:=rx;refine mW I1 ea c d.m l ?_;exact Oy (first:=[.ref a]) I1.ND d.m.kp (rk (us:=[.ref a]) (vs:=[.ref a]) F hr d.b .nil hx I1 (.cons Gc .nil) q)
theorem tT {pins:E9 (Fi×IW)}{σ:St}{H:Hp}{s:Fn}{Q:VK}(M:Mk X.K C f) (F:bU X.prog X.w X.K X.mg X.base CX k f fd ps sp) (hr:bZ (k+1) X.A) (hb:fZ X.K fd ps ds) (hd:aX Rt ds)
  (hx:dh CX X E) (I:aE X pins σ H s) (r:aX vs us)
  (h: ∀x dx,H x=FB->H dx=FB->dx≠x->sp (.ref x::(vs++Rt)) (aF (aF H dx (.own x)) x (.ins C dx [])) (λv H2=>v= .IJ/\Q (.ref x) H2) E):
  FV (model X.prog X.w) X.A (call (.ref C) us) (EP X pins σ Q) X.xe s:=by
 have hq:=h (s.heap.objs.size+1) s.heap.objs.size (I.Iu.fresh (Li _)) (I.Iu.fresh (FF _)) (Ha (HG _))
 have I2:=aE.made (C:=C) I
 have r2:aX (V.ref (s.heap.objs.size+1)::(vs++Rt)) (FZ (s.heap.objs.size+1)::(us++ds)):= .cons Gc (r.append hd)
 have hl:(FZ (s.heap.objs.size+1)::us++ds).length=ps.length:=by
  have e:=r2.length;rw[F.len _ _ _ _ hq] at e;exact e.symm
 refine QK (Bi (f:=f) I.ND M.makes M.init (beq_iff_eq.mp M.fn) (Nl (F.run _ X.stack _ _ #[FZ (s.heap.objs.size+1)::us,[]] (FZ (s.heap.objs.size+1)::(us++ds)) _ _ E (hr.make C us [])
  (I2.aaA.make C us []) (hb _ (FZ (s.heap.objs.size+1)::us) I2.ND hl) r2 hq) λr s' UI=>?_))
 cases r with
 |error e=>exact hx pins σ _ _ e s' I2 UI
 |ok fl=>
  cases fl with
  |ret u=>
   obtain⟨v,H',I3,rv,ev,q3⟩:=I2.after UI;subst ev;exact#[rv,#[V.ref (s.heap.objs.size+1),H',I3,Gc,q3]]
  |next=>exact IM UI
  |brk=>exact IM UI
  |cont=>exact IM UI
theorem gT (M:Mk X.K C f) (F:bU X.prog X.w X.K X.mg X.base CX k f fd ps sp) (hr:bZ (k+1) X.A) (hg:Gl X x) (hm:X.mg x=Fa (.ref C)) (hb:fZ X.K fd ps ds) (hd:aX Rt ds) (hx:dh CX X E)
  (ha:PA X (e::es) t) (R8:(x == [003])=FS:=by decide) (he:FK (e::es) X.env=[001]::FK es X.env:=by rfl) (MT:(IV pos (FK es X.env)).any (·.1)=FS:=by rfl):
  PE X (.Call (.Name x p) (e::es) [] pos) (Bq C sp Rt E t):=by
 rw[01];refine JI (ga I hg hm ?_ R8);refine KQ (h₀:=X.base) I.ok.mod.Vz M.kp (b8 (ha pos pins s σ H _ I h) λus s1 ⟨vs,H1,I1,r,q⟩=>#[I1.ND,?_]) he MT;exact tT M F hr hb hd hx I1 r q
theorem Al (M:Mk X.K C f) (F:bU X.prog X.w X.K X.mg X.base CX k f fd ps sp) (hr:bZ (k+1) X.A) (hg:Gl X x) (hm:X.mg x=Fa (.ref C)) (hb:fZ X.K fd ps ds) (hd:aX Rt ds) (hx:dh CX X E)
  (R8:(x == [003])=FS:=by decide):PE X (.Call (.Name x p) [] [] pos) (Bq C sp Rt E CS):=by
 rw[01];refine JI (ga I hg hm ?_ R8);exact Oy I.ND M.kp (tT (us:=[]) M F hr hb hd hx I .nil h)
end
structure az (N P:E9 FR) (sc:Scope):Prop where
 kind:sc.kind= .function
 co:sc.isCoroutine=FS
 gen:sc.isGenerator=FS
 nd:N.Nodup
 pre:N.take P.length=P
 par: ∀x∈P,sc.names.lookup x=Fa .local\/sc.names.lookup x=Fa .cell
 aaB: ∀y∈sc.names,y.2≠ .free
theorem pU {kindOf:FR->Ft JV}{x:FR} : ∀ {binds:E9 (FR×Fh)}{m:FR->Ft Fh},(∀v,(x,v)∉binds)->Vw kindOf binds m x=m x
 |[],_,_=>rfl
 | (n,v)::r,m,h=>by
  unfold Vw;rw[pU λw hw=>h w (Fp _ hw)];split
  .have:x≠n:=by rintro rfl;exact h v Fq
   simp [this]
  .rfl
theorem pT {kindOf:FR->Ft JV}{x:FR} : ∀ {binds:E9 (FR×Fh)}{m:FR->Ft Fh},(∀v,(x,v)∉binds)->Vx kindOf binds m x=m x
 |[],_,_=>rfl
 | (n,v)::r,m,h=>by
  unfold Vx;rw[pT λw hw=>h w (Fp _ hw)];split
  .rfl
  .have:x≠n:=by rintro rfl;exact h v Fq
   simp [this]
theorem pF {kindOf:FR->Ft JV}{x:FR}{v:Fh} : ∀ {P:E9 FR}{vs:E9 Fh}{i:FC}{m:FR->Ft Fh},P.Nodup->P[i]?=Fa x->vs[i]?=Fa v->kindOf x=Fa .local->
  Vw kindOf (P.zip vs) m x=Fa v
 |[],_,_,_,_,h,_,_=>by simp at h
 |_::_,[],_,_,_,_,h,_=>by simp at h
 |p::P,w::vs,0,m,nd,h1,h2,hk=>by
  simp at h1 h2;subst h1;subst h2;show Vw kindOf ((p,w)::P.zip vs) m p=_;unfold Vw;rw[pU λv hv=>(Gk.mp nd).1 (K6 hv).1,Fm hk];simp
 |p::P,w::vs,i+1,m,nd,h1,h2,hk=>by
  show Vw kindOf ((p,w)::P.zip vs) m x=_
  unfold Vw;exact pF (i:=i) (Gk.mp nd).2 (by simpa using h1) (by simpa using h2) hk
theorem pD {kindOf:FR->Ft JV}{x:FR}{v:Fh} : ∀ {P:E9 FR}{vs:E9 Fh}{i:FC}{m:FR->Ft Fh},P.Nodup->P[i]?=Fa x->vs[i]?=Fa v->kindOf x≠Fa .local->
  Vx kindOf (P.zip vs) m x=Fa v
 |[],_,_,_,_,h,_,_=>by simp at h
 |_::_,[],_,_,_,_,h,_=>by simp at h
 |p::P,w::vs,0,m,nd,h1,h2,hk=>by
  simp at h1 h2;subst h1;subst h2;show Vx kindOf ((p,w)::P.zip vs) m p=_;unfold Vx;rw[pT λv hv=>(Gk.mp nd).1 (K6 hv).1,Fj hk];simp
 |p::P,w::vs,i+1,m,nd,h1,h2,hk=>by
  show Vx kindOf ((p,w)::P.zip vs) m x=_
  unfold Vx;exact pD (i:=i) (Gk.mp nd).2 (by simpa using h1) (by simpa using h2) hk
def start (N:E9 FR) (vs:E9 V):St:=vs.map Fa++Jl (N.length-vs.length) FB
def e8 (CX:pP) (P:Ga) (w:GN) (K:Fe) (mg:FR->Ft Fh) (base:GY) (N:E9 FR) (He:FR) (scope:Scope) (f:Fi) (cd:Fh) (A:GV) (outer:E9 Env) (s:Fn) (H:Hp) (E:XK):Cx where
 prog:=P
 w:=w
 K:=K
 mg:=mg
 base:=base
 A:=A.deeper (JJ He scope s.heap.objs.size f cd)
 N:=N
 PV:=s
 H_0:=H
 env:=JJ He scope s.heap.objs.size f cd
 outer:=outer
 stack:=JJ He scope s.heap.objs.size f cd::outer
 ex:=[]
 calm:=FM
 fn:=λ_=>FM
 pn:=[]
 xe:=λe s'=>FV (model P w) (A.deeper (JJ He scope s.heap.objs.size f cd)) (leaving (JJ He scope s.heap.objs.size f cd) e) (λ_ s''=>CX outer H s E e s'') (λe' s''=>CX outer H s E e' s'') s'
theorem tw {sc:Scope}{n:FC}{x:FR}(h:sc.names.lookup x=Fa .cell): ∃c,(Ij n sc.names []).lookup x=Fa c:=by
 have q:=RE sc.names n [] (.inl h);exact KJ.mp q
theorem zi {CX:pP}{P:Ga}{w:GN}{K:Fe}{mg:FR->Ft Fh}{base:GY}{N ps:E9 FR}{He:FR}{scope:Scope}{f:Fi}{cd:Fh}{A:GV}{outer:E9 Env}{s s1:Fn}{H:Hp}{E:XK}{us:E9 Fh}{vs:E9 V}
  (S:az N ps scope) (hd:A.handled=FB) (e0:uD P w K mg base A outer s H) (hl:vs.length=ps.length) (r:aX vs us)
  (x:InCallC s s.heap.objs.size (Vw (JJ He scope s.heap.objs.size f cd).kindOf (ps.zip us) λ_=>FB) (Ij (s.heap.objs.size+1) scope.names []) (Vx (JJ He scope s.heap.objs.size f cd).kindOf (ps.zip us) λ_=>FB) s1):
  aE (e8 CX P w K mg base N He scope f cd A outer s H E) [] (start N vs) H s1:=by
 have MT:ps.length<=N.length:=by have:=Gq OG S.pre;rw[NV] at this;lia
 obtain⟨h1,tk,rfl,hk⟩:=x.done;have noA: ∀b:Fi,b∉(e8 CX P w K mg base N He scope f cd A outer s H E).ex:=λb z=>FH (show b∈([]:E9 Fi) from z) (by simp)
 refine#[#[e0.mod,S.kind,Gc,Gc,FF _,λy z c h1 h2=>?_,λy hy=>?_,λy c _ h=>?_,λ_=>hd,GV.frames_deeper e0.frames, .inr #[Gc,Gc],λb z=>FH z (noA b),e0.bs,e0.U5,λb _ _=>noA b,λb z=>FH z (noA b),e0.funs,e0.WC],
  rfl,e0.bare,Un.kept hk,#[_,x.toInCall.ns,λi y v h1 h2 h3=>?_],λy c h=>#[_,x.cell y c h],e0.Iu.fresh (FF _),λy c h=>?_,λp hp=>FH (show p∈([]:E9 (Fi×IW)) from hp) (by simp),e0.Iu.kept hk,?_]
 .exact name_of_addr x.apart (GQ h1) (GQ h2)
 .have hy:scope.names.lookup y=Fa .cell\/scope.names.lookup y=Fa .free:=hy
  rcases hy with hy|hy
  .exact tw hy
  .exact FH Gc (S.aaB _ (GQ hy))
 .exact KD (x.above y c (GQ h))
 .have hi:i<vs.length:=by
   unfold start at h2;by_cases hi:i<vs.length
   .exact hi
   .rw[E9.getElem?_append_right (by simpa using hi)] at h2
    rw[Lb] at h2;split at h2<;>cases h2
  have ha:vs[i]?=Fa v:=by
   unfold start at h2;rw[RA (by simpa using hi),Gw] at h2;cases e:vs[i]? with
   |none=>rw[e] at h2;cases h2
   |some a=>rw[e] at h2;cases h2;rfl
  obtain⟨u,hu,rv⟩:=r.get ha;have hp:ps[i]?=Fa y:=by
   rw[<-S.pre,E9.getElem?_take_of_lt (by lia)];exact h1
  have ndP:ps.Nodup:=by rw[<-S.pre];exact S.nd.sublist (E9.take_sublist _ _)
  refine#[u,rv,?_];rcases S.par y (G8 hp) with k|k
  .exact .inl #[k,pF ndP hp hu k]
  .obtain⟨c,e⟩:=tw (n:=s.heap.objs.size+1) k
   refine .inr #[.inl k,c,e,?_];have q:=x.cell y c e;rw[pD ndP hp hu (by show scope.names.lookup y≠_;rw[k];decide)] at q;exact q
 .exact e0.Iu.fresh (KD (x.above y c (GQ h)))
 .unfold start
  show _=N.length
  rw[FL,Fx,Oo];lia
theorem Yl {CX:pP}{P:Ga}{w:GN}{K:Fe}{mg:FR->Ft Fh}{base:GY}{k:FC}{f:Fi}{name He:FR}{params:Arguments}{body:E9 Stmt}{scope:Scope}{dV kV doc pm GU ct oc:Fh}{an od:Ft Fi}
  {WD:Jw (Ft Fh)}{N ps:E9 FR}{sp:Sp}(lk:K.lookup f=Fa #[oc,od, .func (Io name He params body scope dV kV doc pm an GU ct),WD]) (Sy:Lc K GU He=FM) (S:az N ps scope)
  (len: ∀vs H Q E,sp vs H Q E->vs.length=ps.length)
  (JG: ∀(A:GV) (outer:E9 Env) (s:Fn) (H:Hp) (vs:E9 V) (Q:VK) (E:XK),bZ k (A.deeper (JJ He scope s.heap.objs.size f GU))->sp vs H Q E->
   Bd (e8 CX P w K mg base N He scope f GU A outer s H E) body { nx:=λ_ H'=>Q .IJ H',rt:=Q } (start N vs) H):
  bU P w K mg base CX (k+1) f (Io name He params body scope dV kV doc pm an GU ct) ps sp:=by
 refine#[len,λA outer s H args us vs Q E hr e0 hb r TR=>?_];have hl:=len _ _ _ _ TR;have KX:K.In s.heap:=e0.mod.Vz.keeps λb o e=>(e0.bs b o e).1
 have lim:s.heap.NoLimit:=e0.mod.nolimit.keeps λb o e=>(e0.bs b o e).1
 have afF: ∀y∈ps.zip us,scope.names.lookup y.1=Fa .local\/(scope.names.lookup y.1=Fa .cell/\((Ij (s.heap.objs.size+1) scope.names []).lookup y.1).isSome=FM):=λ⟨n,v⟩ hy=>by
  rcases S.par n (K6 hy).1 with q|q
  .exact .inl q
  .exact .inr #[q,RE _ _ _ (.inl q)]
 refine codeAny_call_function hr.depth (KX _ _ lk) Gc S.co S.gen Gc (PySem.W.codeRec_of KX Sy) (hb _ _ _ _ ?_);refine wpAny_newFunctionEnv_cells S.kind afF λenv he s1 x=>?_;subst he;refine#[lim.keeps x.toInCall.keep,codeAny_func ?_];obtain⟨t,ht,hq⟩:=JG A outer s H vs Q E (hr.deeper _) TR;have I:aE (e8 CX P w K mg base N He scope f GU A outer s H E) [] (start N vs) H s1:=zi S hr.hd e0 hl r x;refine ID (ht [] s1 (start N vs) H _ I hq) (λfl s' hs=>?_) λe s' hs=>hs;have eN: ∀ {σ':St}{H':Hp}{v:V}{u:Fh},aE (e8 CX P w K mg base N He scope f GU A outer s H E) [] σ' H' s'->bh v u->Q v H'->CE outer P w H s Q u s':=
  λ{σ' H' v u} J rv q=>#[v,H',J.os,J.bare,J.base,J.Iu,rv,q]
 cases fl with
 |ret u=>
  obtain⟨v,σ',H',J,rv,q⟩:=hs;exact eN J rv q
 |next=>
  obtain⟨σ',H',J,q⟩:=hs;exact eN (v:=V.IJ) (u:=HY) J Gc q
 |brk=>
  obtain⟨_,_,_,q⟩:=hs;exact IM q
 |cont=>
  obtain⟨_,_,_,q⟩:=hs;exact IM q
section
variable {X:Cx}{x:FR}{p pos:Pos}{e:HH}{es:E9 HH}{t:TA}{id T:String}{r:E9 V->Hp->VK->Prop}
def tCB (r:E9 V->Hp->VK->Prop) (t:TA):TE:=λσ H Q=>t σ H λvs H1=>r vs H1 Q
theorem bw (hc:gI X (.builtin id) r) (hg:Gl X x) (hm:X.mg x=FB) (hv:K4 x=Fa (.builtin id)) (ha:PA X (e::es) t) (hn:x≠"__name__":=by decide) (R8:(x == [003])=FS:=by decide)
  (he:FK (e::es) X.env=[001]::FK es X.env:=by rfl) (MT:(IV pos (FK es X.env)).any (·.1)=FS:=by rfl):PE X (.Call (.Name x p) (e::es) [] pos) (tCB r t):=by
 rw[01];refine JI (lD I hg hm hv ?_ hn R8);exact OD (b8 (ha pos pins s σ H _ I h) λus s1 ⟨vs,H1,I1,r1,q1⟩=>hc pins s1 σ H1 vs us Q I1 r1 q1) he MT
theorem iX (hc:gI X (.type T) r) (hg:Gl X x) (hm:X.mg x=FB) (hv:K4 x=Fa (.type T)) (ha:PA X (e::es) t) (hn:x≠"__name__":=by decide) (R8:(x == [003])=FS:=by decide)
  (he:FK (e::es) X.env=[001]::FK es X.env:=by rfl) (MT:(IV pos (FK es X.env)).any (·.1)=FS:=by rfl):PE X (.Call (.Name x p) (e::es) [] pos) (tCB r t):=by
 rw[01];refine JI (lD I hg hm hv ?_ hn R8);exact JY (b8 (ha pos pins s σ H _ I h) λus s1 ⟨vs,H1,I1,r1,q1⟩=>hc pins s1 σ H1 vs us Q I1 r1 q1) he MT
end
end L2
namespace HT
open PySem PyProof.Rows
section
variable {prog:Ga}{w:GN}{A:GV}{E:Fh->Fn->Prop}{s:Fn}
def Ts (n d:FC):Ft Int->FC
 |none=>d
 |some v=>if v<0 then(v+(n:Int)).toNat else min v.toNat n
theorem UJ (n d k:FC):Ts n d (Fa (k:Int))=min k n:=by
 show(if(k:Int)<0 then((k:Int)+(n:Int)).toNat else min (k:Int).toNat n)=min k n
 rw[Fj (by lia),Int.toNat_natCast]
end
end HT
namespace L2
open PySem PySem.Spec PyProof.Rows
abbrev TO:=St->Hp->(Ft Int->Hp->Prop)->Prop
def PO (X:Cx) (e:Ft HH) (t:TO):Prop:=
 ∀(pins:E9 (Fi×IW)) (s:Fn) (σ:St) (H:Hp) (Q:Ft Int->Hp->Prop),aE X pins σ H s->t σ H Q->
  FV (model X.prog X.w) X.A (evalPart e X.env) (λu s'=> ∃o H',aE X pins σ H' s'/\IsPart u o/\Q o H') X.xe s
def afG (t:TE):TO:=λσ H Q=>t σ H λx H1=> ∃i,x= .int i/\Q (Fa i) H1
section
variable {X:Cx}{e:HH}{te:TE}{lo hi:Ft HH}{tl th:TO}{pos p2:Pos}
theorem ja (h:PE X e te):PO X (Fa e) (afG te):=by
 intro pins s σ H Q I hw;rw[evalPart_some];refine b8 (h pins s σ H _ I hw) λu s1 ⟨x,H1,I1,r1,q1⟩=>?_;obtain⟨i,rfl,q⟩:=q1;obtain⟨t,rfl⟩:=r1;exact#[Fa i,H1,I1, .int i t,q]
def SlR (X:Cx) (r:V->Ft Int->Ft Int->Hp->VK->Prop):Prop:=
 ∀(pins:E9 (Fi×IW)) (s:Fn) (σ:St) (H:Hp) (x:V) (v vl vu:Fh) (lo hi:Ft Int) (sl:Fi) (Q:VK),aE X pins σ H s->bh x v->s.heap.IsSliceOf sl vl vu .none->IsPart vl lo->IsPart vu hi->r x lo hi H Q->
  ∃T id,HR (.type T) "__getitem__"=pure (Fa (.builtin id))/\s.TypeIs v T/\FV (model X.prog X.w) X.A (Tg v (.ref sl)) (EP X pins σ Q) X.xe s
def tSl (r:V->Ft Int->Ft Int->Hp->VK->Prop) (te:TE) (tl th:TO):TE:=λσ H Q=>te σ H λx H1=>tl σ H1 λl H2=>th σ H2 λu H3=>r x l u H3 Q
theorem oF {r:V->Ft Int->Ft Int->Hp->VK->Prop}(hr:SlR X r) (he:PE X e te) (hl:PO X lo tl) (hu:PO X hi th):PE X (.Subscript e (.Slice lo hi FB p2) pos) (tSl r te tl th):=by
 rw[01];refine Y9 (b8 (he pins s σ H _ I h) λv s1 ⟨x,H1,I1,r1,q1⟩=>?_);refine wpAny_Slice (b8 (hl pins s1 σ H1 _ I1 q1) λvl s2 ⟨l,H2,I2,pl,q2⟩=>b8 (hu pins s2 σ H2 _ I2 q2) λvu s3 ⟨u,H3,I3,pu,q3⟩=>?_);rw[evalPart_none];refine F7 ?_;have I4:aE X pins σ H3 { s3 with heap:=s3.heap.push { cls:= .type "slice",data:= .fields [vl,vu, .none].toArray } } :=I3.kept (t':=s3.toks) λb ob q=>Fz _ q
 obtain⟨T,id,hT,ht,hg⟩:=hr pins { s3 with heap:=s3.heap.push { cls:= .type "slice",data:= .fields [vl,vu, .none].toArray } } σ H3 x v vl vu l u s3.heap.objs.size Q I4 r1 (abN ..) pl pu q3;show FV (model X.prog X.w) X.A (UW e (.Slice lo hi FB p2) v (.ref s3.heap.objs.size)) (EP X pins σ Q) X.xe { s3 with heap:=s3.heap.push { cls:= .type "slice",data:= .fields [vl,vu, .none].toArray } };exact tail_any (ops:=[.ref s3.heap.objs.size,v]) ht hT hg (by with_unfolding_all rfl)
def vO (xs:E9 V) (lo hi:Ft Int):E9 V:=(xs.drop (HT.Ts xs.length 0 lo)).take (HT.Ts xs.length xs.length hi-HT.Ts xs.length 0 lo)
theorem tU (xs:E9 V) (lo hi:Ft Int):(vO xs lo hi).length<=xs.length:=by
 unfold vO;rw[NV,LX];lia
end
def Ym (n:FC) (i:Int):Ft FC:=if 0<=i then(if i<n then Fa i.toNat else FB) else if-(n:Int)<=i then Fa (i+n).toNat else FB
def zK {α:Type}(xs:E9 α) (i:Int):Ft α:=(Ym xs.length i).bind λj=>xs[j]?
theorem D5 {i:Int}(h:Ym n i=Fa j):seqIndex? i n=Fa j/\j<n/\ -(n:Int)<=i/\i<n:=by
 unfold Ym at h;by_cases h0:0<=i
 .rw[Fm h0] at h
  by_cases h1:i<n
  .rw[Fm h1] at h
   have e:i.toNat=j:=FG h;exact#[by rw[seqIndex_of h0 h1,e],by lia,by lia,h1]
  .rw[Fj h1] at h;cases h
 .rw[Fj h0] at h
  by_cases h1: -(n:Int)<=i
  .rw[Fm h1] at h
   have e:(i+n).toNat=j:=FG h;exact#[by rw[seqIndex_neg (by lia) h1,e],by lia,h1,by lia]
  .rw[Fj h1] at h;cases h
theorem qv {α:Type}{xs:E9 α}{i:Int}{v:α}(h:zK xs i=Fa v): ∃j,seqIndex? i xs.length=Fa j/\xs[j]?=Fa v/\j<xs.length/\ -(xs.length:Int)<=i/\i<xs.length:=by
 unfold zK at h;cases e:Ym xs.length i with
 |none=>rw[e] at h;cases h
 |some j=>
  rw[e] at h;obtain⟨h1,h2,h3,h4⟩:=D5 e;exact#[j,h1,h,h2,h3,h4]
theorem br {α:Type}{xs:E9 α}{j:FC}{v:α}(h:xs[j]?=Fa v):zK xs (j:Int)=Fa v:=by
 have hj:j<xs.length:=(Gh.mp h).1
 have e:Ym xs.length (j:Int)=Fa j:=by
  unfold Ym;rw[Fm (by lia),Fm (by lia)];simp
 unfold zK;rw[e];exact h
theorem eB {α:Type}(xs:E9 α) (v:α):zK (xs++[v]) (-1)=Fa v:=by
 have hl:(xs++[v]).length=xs.length+1:=by simp
 have e:Ym (xs++[v]).length (-1)=Fa xs.length:=by
  unfold Ym;rw[hl,Fj [01],Fm (by lia)]
  congr 1
  lia
 unfold zK;rw[e];show(xs++[v])[xs.length]?=Fa v;simp
def qN (b:HH):Prop:= ∀o i,subscripted b FS o i=operate [o,i] (Tg o i)
def IxR (X:Cx) (r:R2):Prop:=
 ∀(Kk slice:HH) (pins:E9 (Fi×IW)) (s:Fn) (σ:St) (H:Hp) (x y:V) (v u:Fh) (Q:VK),aE X pins σ H s->bh x v->bh y u->r x y H Q->
  subscripted slice FS v u=operate [v,u] (Tg v u)->FV (model X.prog X.w) X.A (UW Kk slice v u) (EP X pins σ Q) X.xe s
def MtR (X:Cx) (id:String) (r:V->E9 V->Hp->VK->Prop):Prop:=
 ∀(pins:E9 (Fi×IW)) (s:Fn) (σ:St) (H:Hp) (x:V) (xs:E9 V) (v:Fh) (us:E9 Fh) (Q:VK),aE X pins σ H s->bh x v->aX xs us->r x xs H Q->
  FV (model X.prog X.w) X.A (call (.builtin id) (v::us)) (EP X pins σ Q) X.xe s
section
variable {X:Cx}{a b:HH}{ta tb:TE}{pos:Pos}
theorem cM {r:R2}(hr:IxR X r) (ha:PE X a ta) (hb:PE X b tb) (hs:qN b):PE X (.Subscript a b pos) (tOp r ta tb):=by
 rw[01];exact Y9 (aaw ha hb I h λv u s2 x y H2 I2 rx ry q=>hr a b pins s2 σ H2 x y v u Q I2 rx ry q (hs _ _))
inductive AZ (K:Fe) (x:V) (y:V) (H:Hp) (Q:VK):Prop
 |mk (p:Fi) (xs:E9 V) (i:Int) (v:V) (_:x= .ref p) (_:y= .int i) (_:cB K H p xs) (_:zK xs i=Fa v) (_:Q v H):AZ K x y H Q
inductive afH (K:Fe) (x:V) (y:V) (H:Hp) (Q:VK):Prop
 |mk (p:Fi) (xs:E9 V) (i:Int) (v:V) (_:x= .ref p) (_:y= .int i) (_:pH K H p xs) (_:zK xs i=Fa v) (_:Q v H):afH K x y H Q
inductive afI (x:V) (y:V) (H:Hp) (Q:VK):Prop
 |mk (z:FR) (i:Int) (c:FC) (_:x= .str z) (_:y= .int i) (_:z.length<=F8) (_:zK z.cps.toList i=Fa c) (_:Q (.str ⟨[c].toArray⟩) H):afI x y H Q
theorem bC:IxR X (AZ X.K):=by
 intro Kk slice pins s σ H x y v u Q I rx ry h hs;obtain⟨p,xs,i,z,rfl,rfl,hq,he,q⟩:=h;cases rx;obtain⟨t,rfl⟩:=ry;obtain⟨HD,r,pl,hz⟩:=I.list hq;obtain⟨j,h1,h2,h3,h4,h5⟩:=qv he;obtain⟨w,ew,T6⟩:=r.get h2;have hl:=r.length;have hn:=rb;have eN:EP X pins σ Q w s:=#[z,H,I,T6,q];by_cases h0:0<=i
 .have hj:i.toNat=j:=by
   rw[seqIndex_of h0 h5] at h1;exact FG h1
  exact item_listR pl.isList h0 (by lia) (by rw[hj];simpa using ew) eN hs
 .have hj:(i+(HD.toArray.size:Int)).toNat=j:=by
   rw[seqIndex_neg (by lia) h4] at h1;rw[Gv,<-hl];exact FG h1
  exact VD (x:=w) pl.isList.typeIs slot_list_getitem.lookup
   (wpAny_getItem_list_neg (Q:=λr s'=>r=w/\EP X pins σ Q r s') pl.isList (by lia) (by rw[Gv]<;>lia) (by lia) (by rw[hj];simpa using ew) #[Gc,eN]) hs
theorem aaC:IxR X (afH X.K):=by
 intro Kk slice pins s σ H x y v u Q I rx ry h hs;obtain⟨p,xs,i,z,rfl,rfl,hq,he,q⟩:=h;cases rx;obtain⟨t,rfl⟩:=ry;obtain⟨HD,r,pl,hz⟩:=I.tuple hq;obtain⟨j,h1,h2,h3,h4,h5⟩:=qv he;obtain⟨w,ew,T6⟩:=r.get h2;have hl:=r.length;have hn:=rb;have eN:EP X pins σ Q w s:=#[z,H,I,T6,q];exact VD (x:=w) pl.typeIs slot_tuple_getitem.lookup
  (getItem_tuple (j:=j) (Q:=λr s'=>r=w/\EP X pins σ Q r s') pl (by lia) (by lia) (by rw[Gv,<-hl];exact h1) (by simpa using ew) #[Gc,eN]) hs
theorem aaD:IxR X afI:=by
 intro Kk slice pins s σ H x y v u Q I rx ry h hs;obtain⟨z,i,c,rfl,rfl,hz,he,q⟩:=h;obtain⟨t,rfl⟩:=rx;obtain⟨t',rfl⟩:=ry;obtain⟨j,h1,h2,h3,h4,h5⟩:=qv he;have hl:z.cps.toList.length=z.length:=by simp [FR.length]
 rw[hl] at h1 h4 h5;have hn:=rb;exact tail_any (Za s z t) slot_str_getitem.lookup (getItem_str (c:=c) (by
  have e1:decide (i< -(2 ^ 63:Int))=FS:=Gb (by lia)
  have e2:decide (i ≥ 2 ^ 63)=FS:=Gb (by lia);rw[e1,e2,Pc]) (by rw[h1];simpa using h2) #[.str #[[c].toArray],H,I.tok _,#[_,Gc],q]) hs
theorem rj (lo hi:Ft Int) (n:FC):(MN lo hi FB n).1=((HT.Ts n 0 lo:FC):Int)/\(MN lo hi FB n).2.1=((HT.Ts n n hi:FC):Int)/\(MN lo hi FB n).2.2=1:=by
 refine#[?_,?_,Gc]
 .cases lo with
  |none=>simp [MN,HT.Ts]
  |some i=>
   simp only[MN,HT.Ts,Vp,show(1:Int)>0 by decide,Th];by_cases h:i<0
   .simp only[h,Th]<;>lia
   .simp only[h,MO]<;>lia
 .cases hi with
  |none=>simp [MN,HT.Ts]
  |some i=>
   simp only[MN,HT.Ts,Vp,show(1:Int)>0 by decide,Th];by_cases h:i<0
   .simp only[h,Th]<;>lia
   .simp only[h,MO]<;>lia
theorem pw (HD:E9 Fh) (lo hi:Ft Int):slicePick HD.toArray lo hi FB=((HD.drop (HT.Ts HD.length 0 lo)).take (HT.Ts HD.length HD.length hi-HT.Ts HD.length 0 lo)).toArray:=by
 obtain⟨h1,h2,h3⟩:=rj lo hi HD.toArray.size;unfold slicePick;rw[h1,h2,h3];simp only[sliceRange_one,pick_run,Gv]<;>rfl
def akU (K:Fe):V->Ft Int->Ft Int->Hp->VK->Prop:=λx lo hi H Q=> ∃a xs,x= .ref a/\cB K H a xs/\ ∀p,H p=FB->Q (.ref p) (aF H p (.lst (vO xs lo hi)))
theorem qT:SlR X (akU X.K):=by
 intro pins s σ H x v vl vu lo hi sl Q I rx hs pl pu h;obtain⟨a,xs,rfl,hx,q⟩:=h;cases rx;obtain⟨HD,r,ht,hz⟩:=I.list hx;have NF:=r.length;refine#["list",_,slot_list_getitem.lookup,ht.isList.typeIs,?_];refine wpAny_getItem_list_slice ht.isList hs pl pu .none (by simp) ?_ (by rw[Gv]<;>lia);rw[pw,<-NF];refine#[.ref s.heap.objs.size,_,I.laid (t':=s.toks) (o:= .lst (vO xs lo hi)) (λb ob q=>Fz _ q) (FF _) ?_,Gc,q _ (I.Iu.fresh (FF _))];exact#[FP (tU xs lo hi) hz,_,0,(r.drop (HT.Ts xs.length 0 lo)).take (HT.Ts xs.length xs.length hi-HT.Ts xs.length 0 lo),G6 _ Gc]
def jq:V->Gu
 | .IJ=>FM
 | .bl _=>FM
 | .int _=>FM
 | .str _=>FM
 |_=>FS
def E5:V->V->Gu
 | .IJ, .IJ=>FM
 | .bl a, .bl b=>a == b
 | .bl a, .int b=>(if a then 1 else 0) == b
 | .int a, .bl b=>a == (if b then 1 else 0)
 | .int a, .int b=>a == b
 | .str a, .str b=>a == b
 |_,_=>FS
theorem aaE {A:GV}{s:Fn}{y x:V}{u v:Fh}(ry:bh y u) (rx:bh x v) (fy:jq y=FM) (fx:jq x=FM):SeqAt.EqAt A s u v (E5 y x):=by
 cases y with
 |IJ=>
  cases ry;cases x with
  |IJ=>cases rx;exact SeqAt.EqAt.same _
  |bl b=>cases rx;exact SeqAt.EqAt.none_bool b
  |int b=>obtain⟨t,rfl⟩:=rx;exact SeqAt.EqAt.none_int b t
  |str b=>obtain⟨t,rfl⟩:=rx;exact SeqAt.EqAt.none_str b t
  |_=>exact FH (show FS=FM from fx) Fd
 |bl a=>
  cases ry;cases x with
  |IJ=>cases rx;exact SeqAt.EqAt.bool_none a
  |bl b=>cases rx;exact SeqAt.EqAt.bool_bool a b
  |int b=>obtain⟨t,rfl⟩:=rx;exact SeqAt.EqAt.bool_int a b t
  |str b=>obtain⟨t,rfl⟩:=rx;exact SeqAt.EqAt.bool_str a b t
  |_=>exact FH (show FS=FM from fx) Fd
 |int a=>
  obtain⟨t',rfl⟩:=ry;cases x with
  |IJ=>cases rx;exact SeqAt.EqAt.int_none a t'
  |bl b=>cases rx;exact SeqAt.EqAt.int_bool a t' b
  |int b=>obtain⟨t,rfl⟩:=rx;exact SeqAt.EqAt.int_int a t' b t
  |str b=>obtain⟨t,rfl⟩:=rx;exact Sf a t' b t
  |_=>exact FH (show FS=FM from fx) Fd
 |str a=>
  obtain⟨t',rfl⟩:=ry;cases x with
  |IJ=>cases rx;exact SeqAt.EqAt.str_none a t'
  |bl b=>cases rx;exact SeqAt.EqAt.str_bool a t' b
  |int b=>obtain⟨t,rfl⟩:=rx;exact Sg a t' b t
  |str b=>obtain⟨t,rfl⟩:=rx;exact SeqAt.EqAt.str_str a t' b t
  |_=>exact FH (show FS=FM from fx) Fd
 |_=>exact FH (show FS=FM from fy) Fd
def vt (x:V) (u:Fh):Gu:=match u with
 | .none=>E5 .IJ x
 | .bool b=>E5 (.bl b) x
 | .int i _=>E5 (.int i) x
 | .str z _=>E5 (.str z) x
 |_=>FS
theorem Cq {x y:V}{u:Fh}(r:bh y u) (f:jq y=FM):vt x u=E5 y x:=by
 cases y with
 |IJ=>cases r;rfl
 |bl b=>cases r;rfl
 |int i=>obtain⟨t,rfl⟩:=r;rfl
 |str z=>obtain⟨t,rfl⟩:=r;rfl
 |_=>exact FH (show FS=FM from f) Fd
theorem kz {x:V} : ∀ {xs:E9 V}{us:E9 Fh},aX xs us->xs.all jq=FM->us.any (vt x)=xs.any λy=>E5 y x
 |_,_, .nil,_=>rfl
 |y::xs,u::us, .cons r t,f=>by
  rw[NK,GR] at f;rw[NL,NL,Cq r f.1,kz t f.2]
theorem ir {A:GV}{s:Fn}{x:V}{v:Fh}(rx:bh x v) (fx:jq x=FM): ∀ {xs:E9 V}{us:E9 Fh},aX xs us->xs.all jq=FM-> ∀u∈us,SeqAt.EqAt A s u v (vt x u)
 |_,_, .nil,_=>λu hu=>by cases hu
 |y::xs,u::us, .cons r t,f=>λu' hu=>by
  rw[NK,GR] at f;rcases Fy.mp hu with rfl|hu
  .rw[Cq r f.1];exact aaE r rx f.1 fx
  .exact ir rx fx t f.2 u' hu
def uq (x:V) (xs:E9 V):Gu:=xs.any λy=>E5 y x
inductive rIn (K:Fe) (neg:Gu) (x:V) (y:V) (H:Hp) (Q:VK):Prop
 |mk (p:Fi) (xs:E9 V) (_:y= .ref p) (_:(cB K H p xs\/pH K H p xs)) (_:jq x=FM) (_:xs.all jq=FM) (_:Q (.bl (if neg then !uq x xs else uq x xs)) H):rIn K neg x y H Q
theorem lA:ku X (Ii .In) (rIn X.K FS):=by
 intro pins s σ H x y v u Q I rx ry h;obtain⟨p,xs,rfl,hq,fx,fs,q⟩:=h;cases ry;rcases hq with hq|hq
 .obtain⟨HD,r,pl,hz⟩:=I.list hq
  refine SeqAt.in_listAt (vt x) pl.isList (λw hw=>ir rx fx r fs w (by simpa using hw)) #[.bl _,H,I,Gc,?_];rw[show HD.toArray.any (vt x)=HD.any (vt x) by simp,kz r fs];exact q
 .obtain⟨HD,r,pl,hz⟩:=I.tuple hq
  refine SeqAt.in_tupleAt (vt x) pl (λw hw=>ir rx fx r fs w (by simpa using hw)) #[.bl _,H,I,Gc,?_];rw[show HD.toArray.any (vt x)=HD.any (vt x) by simp,kz r fs];exact q
theorem ke:ku X (Ii .NotIn) (rIn X.K FM):=by
 intro pins s σ H x y v u Q I rx ry h;obtain⟨p,xs,rfl,hq,fx,fs,q⟩:=h;cases ry;rcases hq with hq|hq
 .obtain⟨HD,r,pl,hz⟩:=I.list hq
  refine SeqAt.notIn_listAt (vt x) pl.isList (λw hw=>ir rx fx r fs w (by simpa using hw)) #[.bl _,H,I,Gc,?_];rw[show HD.toArray.any (vt x)=HD.any (vt x) by simp,kz r fs];exact q
 .obtain⟨HD,r,pl,hz⟩:=I.tuple hq
  refine SeqAt.notIn_tupleAt (vt x) pl (λw hw=>ir rx fx r fs w (by simpa using hw)) #[.bl _,H,I,Gc,?_];rw[show HD.toArray.any (vt x)=HD.any (vt x) by simp,kz r fs];exact q
inductive afJ (K:Fe) (xs:E9 V) (H:Hp) (Q:VK):Prop
 |mk (p:Fi) (ys:E9 V) (_:xs=[.ref p]) (_:(cB K H p ys\/pH K H p ys)) (_:Q (.int ys.length) H):afJ K xs H Q
theorem bJ:gI X (.builtin "len") (afJ X.K):=by
 intro pins s σ H xs us Q I r h;obtain⟨p,ys,rfl,hq,q⟩:=h;obtain⟨u,rfl,rx⟩:=mT r;cases rx;have hn:=rb;rcases hq with hq|hq
 .obtain⟨HD,r',pl,hz⟩:=I.list hq
  have NF:=r'.length;exact Calls.call_len_list pl.isList (by simp only[Gv]<;>lia) #[.int ys.length,H,I.tok _,#[s.toks+1,by rw[Gv,NF]],q]
 .obtain⟨HD,r',pl,hz⟩:=I.tuple hq
  have NF:=r'.length;exact len_tuple pl (by simp only[Gv]<;>lia) #[.int ys.length,H,I.tok _,#[s.toks+1,by rw[Gv,NF]],q]
theorem gz:gI X (.type "tuple") (λxs H Q=> ∃p ys,xs=[.ref p]/\((cB X.K H p ys/\ ∀l,H l=FB->Q (.ref l) (aF H l (.tup ys)))\/(pH X.K H p ys/\Q (.ref p) H))):=by
 intro pins s σ H xs us Q I r h;obtain⟨p,ys,rfl,h⟩:=h;obtain⟨u,rfl,rx⟩:=mT r;cases rx;rcases h with⟨hq,q⟩|⟨hq,q⟩
 .obtain⟨HD,r',pl,hz⟩:=I.list hq
  have NF:=r'.length;refine call_tuple_list pl.isList (λh' kp=>?_) (by simp only[Gv]<;>lia)
  have I1:aE X pins σ H { s with heap:=h' } :=I.kept (t':=s.toks) kp
  have I2:aE X pins σ (aF H h'.objs.size (.tup ys)) { s with heap:=h'.push { cls:= .type "tuple",data:= .seq HD.toArray } } :=
   I1.laid (t':=s.toks) (λb o e=>Fz _ e) (FF _) (show cx X.prog X.w _ _ _ (.tup ys) from#[hz,HD,r',IsTup.new _ _])
  exact#[.ref h'.objs.size,_,I2,Gc,q _ (I1.Iu.fresh (FF _))]
 .obtain⟨HD,r',pl,hz⟩:=I.tuple hq
  exact call_tuple_same pl #[.ref p,H,I,Gc,q]
def tyV (K:Fe) (T:String) (x:V) (H:Hp):Prop:=match x with
 | .str _=>T="str"
 | .int _=>T="int"
 | .ref p=>(T="list"/\ ∃xs,cB K H p xs)\/(T="tuple"/\ ∃o,K.lookup p=Fa o/\o.cls= .type "tuple"/\o.dict=FB)\/
   (T="dict"/\((∃aD,H p=Fa (.dK aD))\/ ∃aD,H p=Fa (.dT aD)))\/(T="set"/\ ∃S n,H p=Fa (.set S n))
 |_=>False
theorem BJ {pins:E9 (Fi×IW)}{σ:St}{H:Hp}{s:Fn}{T:String}{x:V}{v:Fh}(I:aE X pins σ H s) (r:bh x v) (ty:tyV X.K T x H):
  s.TypeIs v T/\ ∀a,v= .ref a-> ∃ob,s.heap.get? a=Fa ob/\ob.dict=FB:=by
 cases x with
 |str z=>
  obtain⟨t,rfl⟩:=r;cases (show T="str" from ty);exact#[Za s z t,λ_ e=>nomatch e]
 |int i=>
  obtain⟨t,rfl⟩:=r;cases (show T="int" from ty);exact#[typeIs_int s i t,λ_ e=>nomatch e]
 |ref p=>
  cases r;rcases ty with⟨rfl,xs,hq⟩|⟨rfl,o,hk,hc,hd⟩|⟨rfl,hk⟩|⟨rfl,S,n,hk⟩
  .obtain⟨HD,_,pl,_⟩:=I.list hq
   refine#[pl.isList.typeIs,λa e=>?_];cases e;obtain⟨o,n,e,c,hd,_⟩:=pl;exact#[o,e,hd]
  .refine#[#[o,I.ND p o hk,hc],λa e=>?_]
   cases e;exact#[o,I.ND _ o hk,hd]
  .have z: ∃o,s.heap.get? p=Fa o/\o.ExactDict:=by
    rcases hk with⟨aD,hk⟩|⟨aD,hk⟩
    .obtain⟨_,_,_,_,o,_,_,e,ex,_⟩:=I.Iu p _ hk
     exact#[o,e,ex]
    .obtain⟨_,_,_,_,o,_,_,e,ex,_⟩:=I.Iu p _ hk
     exact#[o,e,ex]
   obtain⟨o,e,ex⟩:=z;refine#[#[o,e,ex.1],λa e2=>?_];cases e2;exact#[o,e,ex.2.1]
  .obtain⟨o,_,_,_,e,ex,_⟩:=I.Iu p _ hk
   refine#[#[o,e,ex.1],λa e2=>?_];cases e2;exact#[o,e,ex.2.1]
 |_=>exact IM ty
def akV (K:Fe) (T:String) (r:V->E9 V->Hp->VK->Prop) (to:TE):TE:=λσ H Q=>to σ H λx H1=>tyV K T x H1/\r x [] H1 Q
inductive afK (K:Fe) (T:String) (R:V->Hp->Prop) (x:V) (H1:Hp):Prop
 |mk (_:tyV K T x H1) (_:R x H1):afK K T R x H1
def tBM (K:Fe) (T:String) (r:V->E9 V->Hp->VK->Prop) (to:TE) (t:TA):TE:=λσ H Q=>to σ H (afK K T (λx H1=>t σ H1 λxs H2=>r x xs H2 Q))
variable {o e:HH}{es:E9 HH}{to:TE}{t:TA}{name:FR}{La LJ:Pos}{T id:String}{r:V->E9 V->Hp->VK->Prop}
theorem BU (pa:PlainAttrs T) (slot:Slot T name id) (hty:typeOf (.builtin id)=pure (.type "method_descriptor")) (hm:MtR X id r) (ho:PE X o to)
  (QY:IA o name X.env (eval o X.env)=eval o X.env:=by rfl) (QZ:(La.endLine == LJ.line)=FM:=by rfl):PE X (.Call (.Attribute o name La) [] [] LJ) (akV X.K T r to):=by
 rw[01];refine wpAny_Call_method0_late QY QZ (b8 (ho pins s σ H _ I h) λv s1 ⟨x,H1,I1,r1,ty,q1⟩=>?_);obtain⟨h1,h2⟩:=BJ I1 r1 ty;exact#[T,id,pa,slot,hty,h1,h2,Lk Gc (PySem.evalArgs_none (hm pins s1 σ H1 x [] v [] Q I1 r1 .nil q1))]
theorem xi (pa:PlainAttrs T) (slot:Slot T name id) (hty:typeOf (.builtin id)=pure (.type "method_descriptor")) (hm:MtR X id r) (ho:PE X o to) (ha:PA X (e::es) t)
  (QY:IA o name X.env (eval o X.env)=eval o X.env:=by rfl)
  (akW:((IV LJ (FK (e::es) X.env)).all (λx=>!x.1)&&(KR LJ (Jq [] X.env)).all (λx=>x.1.isSome)
   &&decide ((e::es).length+([]:E9 Keyword).length+(if([]:E9 Keyword).isEmpty then 0 else 1)<30))=FM:=by rfl)
  (QZ:(La.endLine == LJ.line)=FM:=by rfl) (hs:FK (e::es) X.env=[001]::FK es X.env:=by rfl) (aaF:(IV LJ (FK es X.env)).any (·.1)=FS:=by rfl):
  PE X (.Call (.Attribute o name La) (e::es) [] LJ) (tBM X.K T r to t):=by
 rw[01];refine wpAny_Call_method_late QY akW QZ Gc (b8 (ho pins s σ H _ I h) λv s1 ⟨x,H1,I1,r1,ty,q1⟩=>?_);obtain⟨h1,h2⟩:=BJ I1 r1 ty;refine#[T,id,pa,slot,hty,h1,h2,?_];have hA:=ha LJ pins s1 σ H1 _ I1 q1;rw[hs] at hA ⊢;refine Lk (by show(FS||(IV LJ (FK es X.env)).any (·.1))=FS;rw[aaF]<;>rfl) (Ov ?_)
 exact b8 hA λus s2 ⟨vs,H2,I2,r2,q2⟩=>hm pins s2 σ H2 x vs v us Q I2 r1 r2 q2
end
def MtM (X:Cx) (id:String) (r:V->E9 V->Hp->VK->Prop):Prop:=
 ∀(pins:E9 (Fi×IW)) (s:Fn) (σ:St) (H:Hp) (x:V) (xs:E9 V) (v:Fh) (us:E9 Fh) (Q:VK),aE X pins σ H s->bh x v->aX xs us->r x xs H Q->
  FV (model X.prog X.w) X.A (call (.builtin id) (v::us)) (EP X pins σ Q) X.xe s
theorem aX.one: ∀ {x:V}{us:E9 Fh},aX [x] us-> ∃u,us=[u]/\bh x u
 |_,_, .cons r .nil=>#[_,Gc,r]
theorem aX.zero: ∀ {us:E9 Fh},aX [] us->us=[]
 |_, .nil=>rfl
theorem aX.dropLast {xs:E9 V}(h:aX xs us):aX xs.dropLast us.dropLast:=by
 induction h with
 |nil=>exact .nil
 |cons r t ih=>
  cases t with
  |nil=>exact .nil
  |cons q t'=>exact .cons r ih
theorem uT {α:Type}(l:E9 α):l.eraseIdx (l.length-1)=l.dropLast:=by
 induction l with
 |nil=>rfl
 |cons a r ih=>
  cases r with
  |nil=>rfl
  |cons b r=>
   have e:(a::b::r).length-1=((b::r).length-1)+1:=by
    have h1:(a::b::r).length=r.length+2:=rfl
    have h2:(b::r).length=r.length+1:=rfl;lia
   rw[e,E9.eraseIdx_cons_succ,ih]
   all_goals rfl
section
variable {X:Cx}{pins:E9 (Fi×IW)}{σ:St}{H:Hp}{s:Fn}{l b:Fi}{xs ys zs:E9 V}
theorem aE.afL {HD its':E9 Fh}{f:Jw Fh->Jw Fh}(I:aE X pins σ H s) (hH:H l=Fa (.lst xs))
  (e:s.heap.get? l=Fa { cls:= .type "list",data:= .seq HD.toArray n }) (hf:f HD.toArray=its'.toArray) (hv:aX ys its') (hz:ys.length<=F8):
  aE X pins σ (aF H l (.lst ys)) { s with heap:=s.heap.update l (IW.mapSeq f),toks:=t' } :=by
 have q:=PySem.IsL.update e f;rw[hf] at q;refine I.write (x:=l) (e:=l) (by rw[hH];exact trivial) (.inl Gc) (λb' u hb hu=>(Hf s.heap (IW.mapSeq f) (IG hb)).trans hu) #[_,q] ?_
 exact#[hz,its',_,hv,q]
theorem aE.akX {HD:E9 Fh}(I:aE X pins σ H s) (hv:aX ys HD) (hz:ys.length<=F8):
  aE X pins σ (aF H s.heap.objs.size (.lst ys)) { s with heap:=s.heap.push { cls:= .type "list",data:= .seq HD.toArray },toks:=t' } :=
 I.laid (λ_ _ q=>Fz _ q) (FF _) #[hz,HD,0,hv,G6 _ Gc]
theorem aE.fresh (I:aE X pins σ H s):H s.heap.objs.size=FB:=I.Iu.fresh (FF _)
theorem aE.Wj (I:aE X pins σ H s) (hH:H l=Fa (.lst xs)):xs.length<=F8/\ ∃(HD:E9 Fh) (n:FC),aX xs HD/\xs.length=HD.length/\s.heap.get? l=Fa { cls:= .type "list",data:= .seq HD.toArray n } :=by
 obtain⟨z,HD,n,r,e⟩:=I.Iu l _ hH;exact#[z,HD,n,r,r.length,e]
end
section
variable {X:Cx}
inductive xq (x:V) (vs:E9 V) (H:Hp) (Q:VK):Prop
 |mk (l:Fi) (xs:E9 V) (y:V) (_:x= .ref l) (_:vs=[y]) (_:H l=Fa (.lst xs)) (_:xs.length<F8) (_:Q .IJ (aF H l (.lst (xs++[y])))):xq x vs H Q
theorem i9:MtM X "list.append" xq:=by
 intro pins s σ H x vs v us Q I rx rv h;obtain⟨l,xs,y,rfl,rfl,hH,hz,q⟩:=h;cases rx;obtain⟨u,rfl,ru⟩:=rv.one;obtain⟨z,HD,n,r,hl,e⟩:=I.Wj hH;refine call_meets F.slot_list_append #[_,e,Gc] F.entry_list_append (F.args_list_append_2 _ _) (PySem.list_append l HD.toArray n u (by rw[Gv];lia)) #[e,?_];refine#[.IJ,_,I.afL (its':=HD++[u]) hH e (by simp) (r.append (.cons ru .nil)) ?_,Gc,q];rw[FL,Jy];lia
def akY:V->E9 V->Hp->VK->Prop:=λx vs H Q=> ∃l xs y,x= .ref l/\vs=[]/\H l=Fa (.lst xs)/\xs[xs.length-1]?=Fa y/\Q y (aF H l (.lst xs.dropLast))
theorem Cu:MtM X "list.pop" akY:=by
 intro pins s σ H x vs v us Q I rx rv h;obtain⟨l,xs,y,rfl,rfl,hH,hy,q⟩:=h;cases rx;have hus:=rv.zero;subst hus;obtain⟨z,HD,n,r,hl,e⟩:=I.Wj hH;obtain⟨u,hu,ru⟩:=r.get hy;have hy':HD.toArray[HD.toArray.size-1]?=Fa u:=by
  show HD.toArray[HD.length-1]?=Fa u
  rw[<-S9,<-hl];exact hu
 refine call_meets F.slot_list_pop #[_,e,Gc] F.entry_list_pop (F.args_list_pop_1 _) (MeetsSeq.list_pop_last l HD.toArray n u hy' (by rw[Gv];lia)) #[e,?_];refine#[y,_,I.afL (its':=HD.dropLast) hH e ?_ r.dropLast ?_,ru,q]
 .show HD.toArray.eraseIdxIfInBounds (HD.toArray.size-1)=HD.dropLast.toArray
  rw[Gv,E9.eraseIdxIfInBounds_toArray,uT]
 .rw[E9.length_dropLast]
  lia
inductive afM (x:V) (y:V) (H:Hp) (Q:VK):Prop
 |mk (l b:Fi) (xs zs:E9 V) (_:x= .ref l) (_:y= .ref b) (_:H l=Fa (.lst xs)) (_:H b=Fa (.lst zs)) (_:xs.length+zs.length<=F8) (_: ∀p,H p=FB->Q (.ref p) (aF H p (.lst (xs++zs)))):afM x y H Q
theorem zY:ku X (OA .Add) afM:=by
 intro pins s σ H x y v u Q I rx ry h;obtain⟨l,b,xs,zs,rfl,rfl,hH,hB,hz,q⟩:=h;cases rx;cases ry;obtain⟨z,HD,n,r,hl,e⟩:=I.Wj hH;obtain⟨z2,T7,n2,r2,Tt,e2⟩:=I.Wj hB;refine PySem.P.add_list e e2 ?_ (by rw[Gv,Gv];lia);have ea:HD.toArray++T7.toArray=(HD++T7).toArray:=by simp
 rw[ea];exact#[.ref _,_,I.akX (t':=s.toks) (r.append r2) (by rw[FL];lia),Gc,q _ I.fresh]
end
section
variable {prog:Ga}{w:GN}{A:GV}{E:Fh->Fn->Prop}{s:Fn}
set_option maxRecDepth 100000 in
end
theorem aX.ints: ∀ {ns:E9 Int}{us:E9 Fh},aX (ns.map V.int) us->IntsAre us ns
 |[],us,h=>by
  rw[Qc] at h;cases h;exact IntsAre.nil
 |n::ns,us,h=>by
  rw[FQ] at h;cases h with
  |cons r t=>
   obtain⟨k,rfl⟩:=r;exact IntsAre.cons n k (aX.ints t)
theorem aX.bls: ∀ {bs:E9 Gu}{us:E9 Fh},aX (bs.map V.bl) us->us=bs.map MQ
 |[],us,h=>by
  rw[Qc] at h;cases h
  rfl
 |b::bs,us,h=>by
  rw[FQ] at h;cases h with
  |cons r t=>
   cases r;rw[aX.bls t,FQ]
theorem aX.afN {a:Fi}(r:aX [V.ref a] us):us=[FZ a]:=by
 cases r with
 |cons r t=>
  cases t;cases r
  rfl
section
variable {prog:Ga}{w:GN}{A:GV}{E:Fh->Fn->Prop}{s:Fn}{l:Fi}{HD:E9 Fh}{ns:E9 Int}{Q:Fh->Fn->Prop}
theorem D9 (hh:A.handled=FB) (hl:s.heap.IsList l HD.toArray) (hi:IntsAre HD ns)
  (h: ∀h' tk t',(∀b o,s.heap.get? b=Fa o->h'.get? b=Fa o)->Q (.int ns.sum t') { s with heap:=h',toks:=tk }):FV (model prog w) A (call (.builtin "sum") [.ref l]) Q E s:=by
 obtain⟨xs,e⟩:=hi.allInts.items;have hn:numsOf (KS xs).toList=ns:=by rw[<-e];exact hi.numsOf
 rw[nums_intItems] at hn;rw[e] at hl;refine PySem.sum_intListG hh hl λh' tk t' hk=>?_;have:=h h' tk t' hk;rw[preSum_eq,Js (by simp),hn];exact this
end
section
variable {X:Cx}
def akZ (K:Fe):E9 V->Hp->VK->Prop:=λvs H Q=> ∃(a:Fi) (ns:E9 Int),vs=[V.ref a]/\cB K H a (ns.map V.int)/\Q (.int ns.sum) H
theorem aaG (hc:X.calm=FM):gI X (.builtin "sum") (akZ X.K):=by
 intro pins s σ H vs us Q I r h;obtain⟨a,ns,rfl,hs,q⟩:=h;obtain⟨HD,rv,hl,_⟩:=I.list hs;rw[aX.afN r];exact D9 (I.ok.hd hc) hl.isList rv.ints λh' tk t' hk=>#[.int _,H,I.kept hk,#[_,Gc],q]
end
theorem BA {prog:Ga}{w:GN}{A:GV}{E:Fh->Fn->Prop}{s:Fn}{l:Fi}{Q:Fh->Fn->Prop}(hl:s.heap.IsList l items)
  (h: ∀s₂:Fn,s₂= { s with heap:=s.heap.push { cls:= .type "list_iterator",data:= .fields [.ref l, .int 0 0].toArray } } ->
   (s₂.heap.IsListIter s.heap.objs.size l 0/\s₂.heap.IsList l items)->l≠s.heap.objs.size->Q (.ref s.heap.objs.size) s₂):FV (model prog w) A (pyIter (.ref l)) Q E s:=by
 have UH:l<s.heap.objs.size:=by obtain⟨_,e,_⟩:=hl;exact FX e
 exact wpAny_pyIter_list hl (h _ Gc #[#[_,G6 _ Gc,Gc,Gc],hl.push _] (Ha UH))
theorem sC {prog:Ga}{w:GN}{A:GV}{bs:E9 Gu}{HD:E9 Fh}(e:HD=bs.map MQ):
  TruthOf prog w A (λi v=>HD.toArray[i]?=Fa v) (λi=>bs.getD i FS):=λi v s Q E hv hq=>by
 have hv':HD[i]?=Fa v:=by simpa using hv
 rw[e,Gw] at hv';obtain⟨b,hb,rfl⟩:=Gj.mp hv';have hg:bs.getD i FS=b:=by rw[IP,hb]<;>rfl
 have UI:Q (bs.getD i FS) s:=hq;rw[hg] at UI;exact IU UI
theorem qt: ∀bs:E9 Gu,(Jx bs.length).all (λi=>bs.getD i FS)=bs.all id
 |[]=>rfl
 |b::bs=>by
  rw[FA,E9.range_succ_eq_map,NK,Ti,NK,<-qt bs]
  all_goals rfl
section
variable {X:Cx}
def ak0 (K:Fe):E9 V->Hp->VK->Prop:=λvs H Q=> ∃(a:Fi) (bs:E9 Gu),vs=[V.ref a]/\cB K H a (bs.map V.bl)/\Q (.bl (bs.all id)) H
theorem aaH (hc:X.calm=FM):gI X (.builtin "all") (ak0 X.K):=by
 intro pins s σ H vs us Q I r h;obtain⟨a,bs,rfl,hs,q⟩:=h;obtain⟨HD,rv,hl,_⟩:=I.list hs;rw[aX.afN r];have hb:=rv.bls;refine call_all_walk (BA hl.isList λs₂ e2 st hne=>?_);subst e2;refine#[_,_,_,_,_,_,_,Gc,Walks.list (A:=X.A.in1) (I.ok.hd hc) _ a hne HD.toArray,st,sC hb,λh' tk hk=>?_];refine#[.bl _,H,I.kept λb o eo=>hk b o (λaaI=>?_) (Fz _ eo),?_,q]
 .rcases Fy.mp aaI with e1|aaI
  .exact FH (e1▸FX eo) (HZ _)
  .cases aaI
 .show MQ _=MQ _
  rw[<-qt,hb,Gv,Fx]
end
mutual
inductive Dp (K:Fe) (H:Hp):V->QM->Prop
 |IJ:Dp K H .IJ .none
 |bl (b:Gu):Dp K H (.bl b) (.bool b)
 |int (i:Int):Dp K H (.int i) (.int i)
 |str (x:FR):Dp K H (.str x) (.str x)
 |lst {a:Fi}{xs:E9 V}{ds:E9 QM} :cB K H a xs->lO K H xs ds->Dp K H (.ref a) (.list ds)
 |tup {a:Fi}{xs:E9 V}{ds:E9 QM} :pH K H a xs->lO K H xs ds->Dp K H (.ref a) (.tuple ds)
inductive lO (K:Fe) (H:Hp):E9 V->E9 QM->Prop
 |nil:lO K H [] []
 |cons {v:V}{vs:E9 V}{d:QM}{ds:E9 QM} :Dp K H v d->lO K H vs ds->lO K H (v::vs) (d::ds)
end
section
variable {X:Cx}{pins:E9 (Fi×IW)}{σ:St}{H:Hp}{s:Fn}
mutual
theorem Dp.reads (I:aE X pins σ H s): ∀(d:QM) (v:V) (u:Fh),Dp X.K H v d->bh v u-> ∃as,Reads s.heap u d as
 | .none,_,_,h,r=>by
  cases h;cases r;exact#[_,Reads.none]
 | .bool b,_,_,h,r=>by
  cases h;cases r;exact#[_,Reads.bool b]
 | .int i,_,_,h,r=>by
  cases h;obtain⟨t,rfl⟩:=r;exact#[_,Reads.int i t]
 | .str x,_,_,h,r=>by
  cases h;obtain⟨t,rfl⟩:=r;exact#[_,Reads.str x t]
 | .list ds,_,_,h,r=>by
  cases h with
  |lst hs ha=>
   cases r;obtain⟨HD,rv,⟨o,n,ho,hc,_,hd⟩,_⟩:=I.list hs;obtain⟨as,hr⟩:=Dp.readsAll I ds _ HD ha rv;exact#[_,Reads.list ho hc hd hr]
 | .tuple ds,_,_,h,r=>by
  cases h with
  |tup hs ha=>
   cases r;obtain⟨HD,rv,⟨o,ho,hc,n,hd⟩,_⟩:=I.tuple hs;obtain⟨as,hr⟩:=Dp.readsAll I ds _ HD ha rv;exact#[_,Reads.tuple ho hc hd hr]
 | .dict _,_,_,h,_=>by cases h
theorem Dp.readsAll (I:aE X pins σ H s): ∀(ds:E9 QM) (vs:E9 V) (us:E9 Fh),lO X.K H vs ds->aX vs us-> ∃as,ReadsAll s.heap us ds as
 |[],_,_,h,r=>by
  cases h;cases r;exact#[_,ReadsAll.nil]
 |d::ds,_,_,h,r=>by
  cases h with
  |cons h1 h2=>
   cases r with
   |cons r1 r2=>
    obtain⟨as,q1⟩:=Dp.reads I d _ _ h1 r1;obtain⟨bs,q2⟩:=Dp.readsAll I ds _ _ h2 r2;exact#[_,ReadsAll.cons q1 q2]
end
end
section
variable {X:Cx}
def ak1 (K:Fe):R2:=λx y H Q=> ∃d e,Dp K H x d/\Dp K H y e/\Sw d=FM/\Sw e=FM/\Q (.bl (QM.eqv d e)) H
theorem aaJ (hu:X.A.units+64<O5):ku X (Ii .Eq) (ak1 X.K):=by
 intro pins s σ H x y v u Q I rx ry h;obtain⟨d,e,hd,he,sd,se,q⟩:=h;obtain⟨as,r1⟩:=Dp.reads I d x v hd rx;obtain⟨bs,r2⟩:=Dp.reads I e y u he ry;exact SeqAt.compareEq_shaped r1 r2 sd se hu #[.bl _,H,I,Gc,q]
end
end L2
namespace L2
open PySem PySem.Spec PyProof.Rows
abbrev CT (h:GY) (c:Fi) (v:Ft Fh):Prop:=h.IsCell c v
def ak2 (scope sc:Scope):Scope:=
 { scope with names:=scope.names.map λ(n,k)=>if(k == .free&&sc.kind == .function&&sc.names.lookup n == Fa .cell) then(n, .cell) else(n,k) }
def bX (cells:E9 (FR×Fi)):E9 (FR×JV)->E9 (FR×Fi)->E9 (FR×Fi)
 |[],acc=>acc
 | (n,k)::r,acc=>if k == .free then bX cells r ((n,(cells.lookup n).getD 0)::acc) else bX cells r acc
theorem ka (env:Env) (f:FR×JV->E9 (FR×Fi)->Sem (ForInStep (E9 (FR×Fi))))
  (hf: ∀n k c,f (n,k) c=if k == .free then(do let a<-cellOf env n;pure (.yield ((n,a)::c))) else pure (.yield c)):
  ∀(names:E9 (FR×JV)) (acc:E9 (FR×Fi)),(∀y∈names,y.2= .free-> ∃c,env.cells.lookup y.1=Fa c)->forIn names acc f=pure (bX env.cells names acc)
 |[],acc,_=>by rw[Rn];rfl
 | (n,k)::r,acc,h=>by
  rw[WQ,hf];have ih:=λacc=>ka env f hf r acc λy hy=>h y (Fp _ hy)
  unfold bX;by_cases hk:(k == LD)=FM
  .rw[Fm hk,Fm hk]
   obtain⟨c,hc⟩:=h (n,k) Fq (by simpa using hk);have e:cellOf env n=pure c:=by unfold cellOf;rw[hc]
   rw[e];have e2:(env.cells.lookup n).getD 0=c:=by rw[hc];rfl
   rw[e2];exact ih _
  .rw[Fj hk,Fj hk]
   exact ih _
theorem uV {scope:Scope}{env:Env}(h: ∀y∈scope.names,y.2= .free-> ∃c,env.cells.lookup y.1=Fa c):closureFor scope env=pure (bX env.cells scope.names []):=by
 simp only[closureFor];rw[ka env _ (λn k c=>rfl) scope.names [] h]
 rfl
theorem jv {α:Type} : ∀ {l:E9 (FR×α)}{n:FR}{c:α},(n,c)∈l-> ∃c',l.lookup n=Fa c'
 | (k,v)::r,n,c,h=>by
  rw[JW];cases hb:n == k with
  |true=>exact#[_,Gc]
  |false=>
   rcases Fy.mp h with e|h
   .cases e;simp at hb
   .exact jv h
theorem gi {cells:E9 (FR×Fi)} : ∀ {names:E9 (FR×JV)}{acc:E9 (FR×Fi)}{n:FR}{c:Fi},(n,c)∈bX cells names acc->(n,c)∈acc\/((n, .free)∈names/\c=(cells.lookup n).getD 0)
 |[],_,_,_,h=> .inl h
 | (m,k)::r,acc,n,c,h=>by
  unfold bX at h;split at h
  .rename_i hk
   have hk:k= .free:=by simpa using hk
   rcases gi h with h|⟨h1,h2⟩
   .rcases Fy.mp h with e|h
    .cases e;exact .inr #[hk▸Fq,Gc]
    .exact .inl h
   .exact .inr #[Fp _ h1,h2]
  .rcases gi h with h|⟨h1,h2⟩
   .exact .inl h
   .exact .inr #[Fp _ h1,h2]
theorem iB {cells:E9 (FR×Fi)} : ∀ {names:E9 (FR×JV)}{acc:E9 (FR×Fi)}{p:FR×Fi},p∈acc->p∈bX cells names acc
 |[],_,_,h=>h
 | (m,k)::r,acc,p,h=>by
  unfold bX;split
  .exact iB (Fp _ h)
  .exact iB h
theorem iR {cells:E9 (FR×Fi)} : ∀ {names:E9 (FR×JV)}{acc:E9 (FR×Fi)}{n:FR},(n, .free)∈names->(n,(cells.lookup n).getD 0)∈bX cells names acc
 | (m,k)::r,acc,n,h=>by
  unfold bX;rcases Fy.mp h with e|h
  .cases e
   exact iB Fq
  .split
   .exact iR h
   .exact iR h
theorem gP: ∀ {names:E9 (FR×JV)}{h:GY}{acc:E9 (FR×Fi)}{x:FR}{c:Fi},(x,c)∈Ij h.objs.size names acc->
  (x,c)∈acc\/((x, .cell)∈names/\h.objs.size<=c/\CT (NJ h names) c FB)
 |[],_,_,_,_,h=> .inl h
 | (n,k)::r,h,acc,x,c,hm=>by
  unfold Ij at hm;unfold NJ;split at hm
  .rename_i hk
   rw[Fm hk];have hk:k= .cell:=by simpa using hk
   rw[<-HQ h { cls:= .type "cell",data:= .cell FB }] at hm;rcases gP hm with hm|⟨h1,h2,h3⟩
   .rcases Fy.mp hm with e|hm
    .cases e
     exact .inr #[hk▸Fq,FF _,_,O2 r _ _ _ (G6 _ Gc),Gc]
    .exact .inl hm
   .rw[HQ] at h2
    exact .inr #[Fp _ h1,Lx h2,h3]
  .rename_i hk
   rw[Fj hk];rcases gP hm with hm|⟨h1,h2,h3⟩
   .exact .inl hm
   .exact .inr #[Fp _ h1,h2,h3]
theorem iU: ∀ {names:E9 (FR×JV)}{n:FC}{acc:E9 (FR×Fi)}{p:FR×Fi},p∈acc->p∈Ij n names acc
 |[],_,_,_,h=>h
 | (m,k)::r,n,acc,p,h=>by
  unfold Ij;split
  .exact iU (Fp _ h)
  .exact iU h
theorem lz: ∀ {names:E9 (FR×JV)}{n:FC}{acc:E9 (FR×Fi)}{x:FR},(x, .cell)∈names-> ∃c,(x,c)∈Ij n names acc
 | (m,k)::r,n,acc,x,h=>by
  unfold Ij;rcases Fy.mp h with e|h
  .cases e
   exact#[n,iU Fq]
  .split
   .exact lz h
   .exact lz h
theorem kM: ∀ {names:E9 (FR×JV)}{h:GY}{acc:E9 (FR×Fi)}{x y:FR}{c:Fi},(∀p∈acc,p.2<h.objs.size)->(∀x y c,(x,c)∈acc->(y,c)∈acc->x=y)->
  (x,c)∈Ij h.objs.size names acc->(y,c)∈Ij h.objs.size names acc->x=y
 |[],_,_,_,_,_,_,hi,h1,h2=>hi _ _ _ h1 h2
 | (n,k)::r,h,acc,x,y,c,hl,hi,h1,h2=>by
  unfold Ij at h1 h2;split at h1
  .rename_i hk
   rw[Fm hk] at h2;rw[<-HQ h { cls:= .type "cell",data:= .cell FB }] at h1 h2;refine kM (h:=h.push _) (λp hp=>?_) (λx y c a b=>?_) h1 h2
   .rw[HQ]
    rcases Fy.mp hp with rfl|hp
    .exact HG _
    .exact Jo (hl p hp)
   .rcases Fy.mp a with e|a<;>rcases Fy.mp b with e'|b
    .cases e;cases e';rfl
    .cases e;exact FH (hl _ b) (HZ _)
    .cases e';exact FH (hl _ a) (HZ _)
    .exact hi _ _ _ a b
  .rename_i hk
   rw[Fj hk] at h2;exact kM hl hi h1 h2
theorem ud {M:Model}{A:GV}{E:Fh->Fn->Prop}{s:Fn}{scope:Scope}{globals:Fi}{closure:E9 (FR×Fi)}{He:FR}{func:Ft Fi}{code:Fh}{around:Env}{builtins:Fi}{Q:Env->Fn->Prop}
  (h:Q (newEnv scope s.heap.objs.size globals (Ij (s.heap.objs.size+1) scope.names closure) He func code (Fa around) builtins)
   { s with heap:=NJ (s.heap.push { cls:= .type "dict",data:= .dict [].toArray }) scope.names }):
  FV M A (newFunctionEnv scope globals closure [] He func code (Fa around) builtins) Q E s:=by
 simp only[newFunctionEnv,Ul,Th];refine FD (wpAny_alloc ?_);refine FD (wpAny_layCells _ (λn k c=>rfl) scope.names closure _ _ ?_);rw[show({ s with heap:=s.heap.push { cls:= .type "dict",data:= .dict [].toArray } } :Fn).heap.objs.size=s.heap.objs.size+1 from HQ ..];rw[Rn];exact FD (F7 (F7 h))
theorem iM {sc:Scope} : ∀ {names:E9 (FR×JV)}{x:FR}{k:JV},
  (names.map λ(n,k)=>if(k == LD&&sc.kind == .function&&sc.names.lookup n == Fa .cell) then(n,Q5) else(n,k)).lookup x=Fa k->
  ∃k',names.lookup x=Fa k'/\(k=k'\/(k'= .free/\k= .cell))
 |[],_,_,h=>by simp at h
 | (n,k₀)::r,x,k,h=>by
  have ih:= @iM sc r x k
  have h':Ju x ((if(k₀ == LD&&sc.kind == .function&&sc.names.lookup n == Fa .cell)=FM then(n,Q5) else(n,k₀))::(r.map _))=Fa k:=h
  cases hx:x == n with
  |true=>
   simp only[JW,hx];by_cases hc:(k₀ == LD&&sc.kind == .function&&sc.names.lookup n == Fa .cell)=FM
   .rw[Fm hc] at h'
    simp only[JW,hx] at h';cases h';simp only[GR,beq_iff_eq] at hc;exact#[k₀,Gc, .inr #[hc.1.1,Gc]]
   .rw[Fj hc] at h'
    simp only[JW,hx] at h';cases h';exact#[_,Gc, .inl Gc]
  |false=>
   simp only[JW,hx];by_cases hc:(k₀ == LD&&sc.kind == .function&&sc.names.lookup n == Fa .cell)=FM
   .rw[Fm hc] at h'
    simp only[JW,hx] at h';exact ih h'
   .rw[Fj hc] at h'
    simp only[JW,hx] at h';exact ih h'
structure xD (N:E9 FR) (sc scope:Scope) (own:E9 (FR×FC)):Prop where
 kind:scope.kind= .function
 uniq: ∀y∈scope.names,scope.names.lookup y.1=Fa y.2
 ix: ∀p∈own,N[p.2]?=Fa p.1
 free: ∀y∈scope.names,y.2= .free->sc.names.lookup y.1=Fa .cell\/sc.names.lookup y.1=Fa .free
 own: ∀y∈scope.names,y.2= .local\/y.2= .cell->y.1∈own.map (·.1)\/y.1∉N
def hX (σ:St):E9 FC->St
 |[]=>σ
 |v::vs=>(hX σ vs).set v FB
theorem iG (σ:St): ∀vs:E9 FC,(hX σ vs).length=σ.length
 |[]=>rfl
 |v::vs=>by unfold hX;rw[E9.length_set,iG σ vs]
theorem kT {σ:St}{i:FC}{x:V} : ∀ {vs:E9 FC},(hX σ vs)[i]?=Fa (Fa x)->σ[i]?=Fa (Fa x)/\i∉vs
 |[],h=>#[h,by simp]
 |v::vs,h=>by
  unfold hX at h;by_cases hi:v=i
  .subst hi
   by_cases hv:v<(hX σ vs).length
   .rw[N4 hv] at h;cases h
   .rw[IX (by simpa using hv)] at h;cases h
  .rw[OE hi] at h
   obtain⟨h1,h2⟩:=kT h;exact#[h1,by simp only[Fy,VV];exact#[λe=>hi e.symm,h2]]
abbrev Cx.Tu (X:Cx) (s:Fn) (H:Hp) (scope:Scope) (K9:Env) (fp:E9 Fi):Cx:= { X with PV:=s,H_0:=H,env:=K9,outer:=X.stack,ex:=fp,fn:=λx=>scope.names.lookup x == Fa .cell,pn:=[],xe:=λ_ _=>False }
section
variable {X:Cx}{pins:E9 (Fi×IW)}{σ:St}{H:Hp}{s:Fn}
theorem sF {scope:Scope}{own:E9 (FR×FC)}{fp:E9 Fi}(I:aE X pins σ H s) (ok:xD X.N X.env.scope scope own) (hN:X.N.Nodup) (hfp: ∀b∈fp,o0 X pins H b/\b<s.heap.objs.size):
  aE (X.Tu s H scope (MP scope (Ij (s.heap.objs.size+1) scope.names (bX X.env.cells scope.names [])) s.heap.objs.size X.env) fp) [] (hX σ (own.map (·.2))) H { s with heap:=NJ (s.heap.push { cls:= .type "dict",data:= .dict [].toArray }) scope.names } :=by
 have Ry: ∀y∈scope.names,y.2= .free-> ∃c,X.env.cells.lookup y.1=Fa c:=λy hy e=>by
  rcases ok.free y hy e with k|k
  .exact I.ok.has _ (.inl k)
  .exact I.ok.has _ (.inr k)
 generalize SV:MP scope (Ij (s.heap.objs.size+1) scope.names (bX X.env.cells scope.names [])) s.heap.objs.size X.env=K9;have kp: ∀b o,s.heap.get? b=Fa o->(NJ (s.heap.push { cls:= .type "dict",data:= .dict [].toArray }) scope.names).get? b=Fa o:=λb o e=>O2 _ _ _ _ (Fz _ e)
 have hL:K9.locals=s.heap.objs.size:=by rw[<-SV];rfl
 have hcl:K9.cells=Ij (s.heap.objs.size+1) scope.names (bX X.env.cells scope.names []):=by rw[<-SV];rfl
 have hsc:K9.scope=ak2 scope X.env.scope:=by rw[<-SV];rfl
 rw[<-HQ s.heap { cls:= .type "dict",data:= .dict [].toArray }] at hcl;have cm: ∀ {y c},(y,c)∈bX X.env.cells scope.names []->X.env.cells.lookup y=Fa c/\c<s.heap.objs.size:=λ{y c} hm=>by
  rcases gi hm with hm|⟨h1,rfl⟩
  .cases hm
  .obtain⟨c,hc⟩:=Ry _ h1 Gc
   rw[hc];obtain⟨w,z⟩:=I.cell _ _ hc;exact#[Gc,z.lt]
 have mem: ∀ {y c},K9.cells.lookup y=Fa c->(X.env.cells.lookup y=Fa c/\c<s.heap.objs.size)\/(s.heap.objs.size+1<=c/\CT (NJ (s.heap.push { cls:= .type "dict",data:= .dict [].toArray }) scope.names) c FB):=λ{y c} e=>by
  rw[hcl] at e;rcases gP (GQ e) with hm|⟨_,h2,h3⟩
  .exact .inl (cm hm)
  .rw[HQ] at h2;exact .inr #[h2,h3]
 have look: ∀ {y},scope.names.lookup y=Fa .free-> ∃c,K9.cells.lookup y=Fa c/\X.env.cells.lookup y=Fa c:=λ{y} hl=>by
  have hy:(y,LD)∈scope.names:=GQ hl;obtain⟨c',e'⟩:=jv (iU (names:=scope.names) (n:=(s.heap.push { cls:= .type "dict",data:= .dict [].toArray }).objs.size) (iR (cells:=X.env.cells) (acc:=[]) hy));rw[<-hcl] at e';refine#[c',e',?_];rw[hcl] at e';rcases gP (GQ e') with hm|⟨h1,_,_⟩
  .exact(cm hm).1
  .have:=ok.uniq _ h1
   rw[hl] at this;cases this
 have okB:(X.Tu s H scope K9 fp).Ok:=by
  refine#[I.ok.mod,by show K9.scope.kind=_;rw[hsc];exact ok.kind,by show K9.globals=_;rw[<-SV];exact I.ok.glob,by show K9.builtins=_;rw[<-SV];exact I.ok.blt,by show s.heap.objs.size<=K9.locals;rw[hL];exact FF _,
   λy z c e1 e2=>?_,λy hy=>?_,λy c z e=>?_,I.ok.hd,I.ok.frames, .inl Gc,λb hb=>#[?_,λy c e z=>?_],I.bs,FP I.ok.U5 I.sz,λb o e hb=>?_,λb hb z=>?_,I.stack,I.QH]
  .have e1:K9.cells.lookup y=Fa c:=e1
   have e2:K9.cells.lookup z=Fa c:=e2;rw[hcl] at e1 e2;refine kM (λp hp=>?_) (λy z c a b=>I.ok.inj y z c (cm a).1 (cm b).1) (GQ e1) (GQ e2)
   rw[HQ];exact Jo (cm (y:=p.1) (c:=p.2) hp).2
  .show∃c,K9.cells.lookup y=Fa c
   have key: ∀k,K9.kindOf y=Fa k->(k= .cell\/k= .free)-> ∃c,K9.cells.lookup y=Fa c:=λk hk hk'=>by
    unfold Env.kindOf at hk;rw[hsc] at hk;obtain⟨k',e,r⟩:=iM hk;have:k'= .cell\/k'= .free:=by
     rcases r with rfl|⟨rfl,_⟩
     .exact hk'
     .exact .inr Gc
    rcases this with rfl|rfl
    .obtain⟨c,hm⟩:=lz (n:=(s.heap.push { cls:= .type "dict",data:= .dict [].toArray }).objs.size) (acc:=bX X.env.cells scope.names []) (GQ e)
     obtain⟨c',e'⟩:=jv hm;exact#[c',by rw[hcl];exact e']
    .obtain⟨c,h1,_⟩:=look e
     exact#[c,h1]
   rcases hy with hy|hy
   .exact key _ hy (.inl Gc)
   .exact key _ hy (.inr Gc)
  .have z:(scope.names.lookup y == Fa Q5)=FM:=z
   have z:scope.names.lookup y=Fa .cell:=by simpa using z
   have e:K9.cells.lookup y=Fa c:=e;rw[hcl] at e;rcases gP (GQ e) with hm|⟨_,h2,_⟩
   .rcases gi hm with hm|⟨h1,_⟩
    .cases hm
    .have q:=ok.uniq _ h1
     rw[z] at q;cases q
   .rw[HQ] at h2
    exact Lx h2
  .show b≠K9.locals
   rw[hL];exact Ha (hfp b hb).2
  .have e:K9.cells.lookup y=Fa c:=e
   rcases mem e with⟨h1,_⟩|⟨h1,_⟩
   .exact(hfp b hb).1.2.2.2.2.1 y c h1 z
   .have h2:s.heap.objs.size+1<=b:=by rw[<-z];exact h1
    exact FH (F5 (hfp b hb).2 (Lx h2)) (HZ _)
  .rcases(hfp b hb).1.2.2.2.1 with z|z
   .exact I.ok.SS b o e z
   .exact FH (F5 (FX e) (FP I.ok.U5 z)) (HZ _)
  .rcases Fy.mp (I.R7 b z) with z|z
   .exact(hfp b hb).1.2.1 z
   .exact(hfp b hb).1.2.2.1 z
 refine#[okB,Gc,I.bare,Un.kept kp,#[λ_=>FB,?_,λi y av e1 e2 e3=>?_],λy c e=>?_,?_,λy c e=>?_,λp hp=>?_,I.Iu.kept kp,by rw[iG];exact I.len]
 .show GY.Ns _ K9.locals _
  rw[hL];exact GY.Ns.keeps (GY.Ns.new ..) λb o e=>O2 _ _ _ _ e
 .obtain⟨e2,hne⟩:=kT e2
  have Sj:scope.names.lookup y=Fa .free/\(K9.kindOf y=Fa .cell\/K9.kindOf y=Fa .free):=by
   have key: ∀k,K9.scope.names.lookup y=Fa k->k= .local\/k= .cell\/k= .free->scope.names.lookup y=Fa .free/\(K9.kindOf y=Fa .cell\/K9.kindOf y=Fa .free):=λk hk hk'=>by
    have hk0:=hk;rw[hsc] at hk;obtain⟨k',e,r⟩:=iM hk
    have no: ¬(k'= .local\/k'= .cell):=λhh=>by
     rcases ok.own _ (GQ e) hh with e'|e'
     .obtain⟨p,hp,hpy⟩:=Lr.mp e'
      have e3:=ok.ix p hp
      have:p.1=y:=hpy;rw[this] at e3;exact hne (Lr.mpr #[p,hp,oP hN e3 e1])
     .exact e' (G8 e1)
    rcases r with rfl|⟨rfl,rfl⟩
    .rcases hk' with rfl|rfl|rfl
     .exact FH (.inl Gc) no
     .exact FH (.inr Gc) no
     .exact#[e, .inr hk0]
    .exact#[e, .inl hk0]
   have e3:oU K9.scope y:=e3;rcases e3 with e3|e3|e3
   .exact key _ e3 (.inl Gc)
   .exact key _ e3 (.inr (.inl Gc))
   .exact key _ e3 (.inr (.inr Gc))
  obtain⟨m,hn,hl⟩:=I.loc;have ak3:oU X.env.scope y:=(ok.free _ (GQ Sj.1) Gc).elim (λk=> .inr (.inl k)) (λk=> .inr (.inr k))
  obtain⟨w,r,q⟩:=hl i y av e1 e2 ak3;refine#[w,r, .inr #[Sj.2,?_]];obtain⟨c,h1,h2⟩:=look Sj.1;rcases q with⟨k,_⟩|⟨_,c',e',z⟩
  .have k:X.env.scope.names.lookup y=Fa .local:=k
   rcases ok.free _ (GQ Sj.1) Gc with k'|k'<;>rw[show X.env.scope.names.lookup y=_ from k'] at k<;>cases k
  .rw[h2] at e';cases e'
   exact#[c,h1,z.keeps kp]
 .have e:K9.cells.lookup y=Fa c:=e
  rcases mem e with⟨h1,_⟩|⟨_,z⟩
  .obtain⟨w,z⟩:=I.cell y c h1
   exact#[w,z.keeps kp]
  .exact#[_,z]
 .show H K9.locals=FB
  rw[hL];exact I.Iu.fresh (FF _)
 .have e:K9.cells.lookup y=Fa c:=e
  rcases mem e with⟨h1,_⟩|⟨h1,_⟩
  .exact I.Mp y c h1
  .exact I.Iu.fresh (Lx h1)
 .exact FH (show p∈([]:E9 (Fi×IW))++[] from hp) (by simp)
theorem aaK {E:Fh->Fn->Prop}{xs:E9 V}{y:V}{v:Fh}{Q:Fh->Fn->Prop}(I:aE X pins σ H s) (hD:H D=Fa (.lst xs)) (hz:xs.length<F8) (r:bh y v)
  (h: ∀s',aE X pins σ (aF H D (.lst (xs++[y]))) s'->Q .none s'):FV (model X.prog X.w) X.A (call (.builtin "list.append") [.ref D,v]) Q E s:=by
 obtain⟨hz',HD,n,ri,e⟩:=I.Iu D _ hD;have hl:=ri.length;refine append_at (hsz:=by rw[Gv];lia) e λh' sb Rx=>?_;refine h { s with heap:=h' } (I.write (t':=s.toks) (by rw[hD];trivial) (.inl Gc) (λb u hb q=>(sb.2 b hb).trans q) #[_,Rx] #[by rw[FL];exact hz,HD++[v],n+1,ri.append (.cons r .nil),?_]);rw[Rx];simp
def PTs (X:Cx) (ifs:E9 HH) (t:TT):Prop:=
 ∀(pins:E9 (Fi×IW)) (s:Fn) (σ:St) (H:Hp) (Q:Gu->Hp->Prop),aE X pins σ H s->t σ H Q->
  FV (model X.prog X.w) X.A (forIn ifs FM λc r=>if r=FM then do let ok<-isTrue c X.env (eval c X.env);pure (NM ok) else pure (NM r)) (TP X pins σ Q) X.xe s
def Em:TT:=λ_ H Q=>Q FM H
theorem rJ:PTs X [] Em:=λ_ _ _ H _ I h=>wpAny_tests_nil #[H,I,h]
end
theorem xS {α:Type}{t:Sem α}{Q Q':α->Fn->Prop}{A:GV}{E:Fh->Fn->Prop}{s:Fn}(h:FV M A t Q (λ_ _=>False) s) (hQ: ∀a s,Q a s->Q' a s):FV M A t Q' E s:=ID h hQ λ_ _ z=>IM z
theorem rF {prog:Ga}{w:GN}{A:GV}{R:Result->Fn->Prop}{s:Fn}{elt target iter:HH}{scope:Scope}{pos:Pos}{it acc:Fh}{env:Env}(I:FC->Fn->Prop)
  (turn: ∀n s,I n s->FV (model prog w) A (RH it) (λr s₁=>match r with
   |none=>R (.ok .next) s₁
   |some v=>FV (model prog w) A (O0 target it v) (λ_ s₁'=>FV (model prog w) A (assign target env v) (λ_ s₂=>
     FV (model prog w) A (forIn ifs FM λc r=>if r=FM then do let ok<-isTrue c env (eval c env);pure (NM ok) else pure (NM r)) (λok s₃=>
      if ok=FM then FV (model prog w) A (eval elt env) (λx s₄=>
       FV (model prog w) A (call (.builtin "list.append") [acc,x]) (λ_ s₅=> ∃m,m<n/\I m s₅) (Tj (model prog w) A env λe s'=>R (.error e) s') s₄) (Tj (model prog w) A env λe s'=>R (.error e) s') s₃
      else∃m,m<n/\I m s₃) (Tj (model prog w) A env λe s'=>R (.error e) s') s₂) (Tj (model prog w) A env λe s'=>R (.error e) s') s₁') (Tj (model prog w) A env λe s'=>R (.error e) s') s₁) (Tj (model prog w) A env λe s'=>R (.error e) s') s)
  (n:FC) (h:I n s):
  Lq (model prog w) A (.compLoop (.ListComp elt [#[target,iter,ifs,0]] scope pos) 0 it acc env) R s:=by
 refine codeAny_loop Gc I (λn s hI=>?_) n h;show FV _ A ((compTurn (.ListComp elt [#[target,iter,ifs,0]] scope pos) 0 it acc env).onRaise (λx=>do P9 x env;theTreesLotGoes x)) _ _ s;refine wpAny_noted ?_;rw[compTurn_list];refine FD (N7 (FD (ID (turn n s hI) (λr s₁ h₁=>?_) λ_ _ h'=>h')));cases r with
 |none=>exact F7 h₁
 |some v=>
  refine FD (ID h₁ (λ_ s₁' h₁'=>?_) λ_ _ h'=>h');refine FD (ID h₁' (λ_ s₂ h₂=>FD (ID h₂ (λok s₃ h₃=>?_) λ_ _ h'=>h')) λ_ _ h'=>h');cases ok with
  |false=>exact F7 #[Gc,h₃]
  |true=>
   exact FD (FD (ID h₃ (λx s₄ h₄=>FD (ID h₄ (λ_ s₅ h₅=>F7 (F7 #[Gc,h₅])) λ_ _ h'=>h')) λ_ _ h'=>h'))
section
variable {X:Cx}
def tLc (wi:TI) (g:TG) (tt:TT) (te:TE) (vs:E9 FC):TE:=λσ H Q=>wi σ H λJ H1=> ∀D,H1 D=FB-> ∃W:FC->FC->Hp->Prop,(∃m,W 0 m (aF H1 D (.lst [])))/\ ∀i m H,W i m H->
 (J.stop i H/\Q (.ref D) H)\/(J.go i H/\ ∃Nx:Hp->Prop,(∀H',Nx H'-> ∃m',m'<m/\W (i+1) m' H')/\ ∀x H',J.yld i H x H'->g x (hX σ vs) H' λσ2 H2=>hX σ2 vs=hX σ vs/\tt σ2 H2 λb H3=>
  if b=FM then te σ2 H3 λy H4=> ∃acc,H4 D=Fa (.lst acc)/\acc.length<F8/\Nx (aF H4 D (.lst (acc++[y]))) else Nx H3)
theorem DA {pins:E9 (Fi×IW)}{s:Fn}{σ:St}{H:Hp}{Q:VK}{elt tg iter:HH}{ifs:E9 HH}{scope:Scope}{own:E9 (FR×FC)}{pos NG:Pos}{wi:TI}{g:TG}{tt:TT}{te:TE}{use:Ft (Fh->Sem Nc)}{Qf:Fh->Fn->Prop}
  (hc:X.calm=FM) (hN:X.N.Nodup) (I:aE X pins σ H s) (hi:PI X tg iter wi) (ok:xD X.N X.env.scope scope own)
  (hg: ∀(s:Fn) (H:Hp) (C:Fi) (cl:E9 (FR×Fi)) (fp:E9 Fi),PG (X.Tu s H scope (MP scope cl C X.env) fp) tg g) (ht: ∀(s:Fn) (H:Hp) (C:Fi) (cl:E9 (FR×Fi)) (fp:E9 Fi),PTs (X.Tu s H scope (MP scope cl C X.env) fp) ifs tt)
  (he: ∀(s:Fn) (H:Hp) (C:Fi) (cl:E9 (FR×Fi)) (fp:E9 Fi),PE (X.Tu s H scope (MP scope cl C X.env) fp) elt te) (hs: ∀x,L4 iter X.env x=pure x)
  (h:tLc wi g tt te (own.map (·.2)) σ H Q)
  (hRR: ∀D C s' m H',aE X pins σ H' s'->Q (.ref D) H'->s'.heap.Ns C m->o0 X pins H' C->compPost (model X.prog X.w) X.A X.xe use Qf (.ref D) C (.ok .next) s'):
  FV (model X.prog X.w) X.A (comprehension (.ListComp elt [#[tg,iter,ifs,0]] scope pos) scope X.env NG (newList []) FS (eval iter X.env) use) Qf X.xe s:=by
 have Ry: ∀y∈scope.names,y.2= .free-> ∃c,X.env.cells.lookup y.1=Fa c:=λy hy e=>by
  rcases ok.free y hy e with k|k
  .exact I.ok.has _ (.inl k)
  .exact I.ok.has _ (.inr k)
 refine wpAny_comprehension_free (use:=use) Gc hs (uV Ry) ok.kind (λy hy e=>by rw[ok.uniq y hy,e])
  (b8 (hi pins s σ H _ I h) λxv s1 hx=>b8 hx λitv s2 h2=>?_)
 obtain⟨it,fp,tn,J,H2,e,I2,T,st2,f2,q⟩:=h2;subst e;refine wpAny_newObj_type (ud ?_) (by show 0<=F8;decide);generalize hD:s2.heap.objs.size=D;have hDn:H2 D=FB:=I2.Iu.fresh (JM hD);obtain⟨W,⟨m0,w0⟩,turn⟩:=q D hDn;generalize hs3:({ s2 with heap:=s2.heap.push { cls:= .type "list",data:= .seq ([]:E9 Fh).toArray } } :Fn)=s3;have I3:aE X pins σ (aF H2 D (.lst [])) s3:=by
  rw[<-hs3];refine I2.laid (t':=s2.toks) (λb o e=>Fz _ e) (JM hD) #[F3 _,[],0, .nil,?_];rw[<-hD];exact G6 _ Gc
 have h3:s3.heap=s2.heap.push { cls:= .type "list",data:= .seq ([]:E9 Fh).toArray } :=by rw[<-hs3]
 have sz: ∀b∈fp,b<s2.heap.objs.size:=λb hb=>by
  obtain⟨o,e,_⟩:=T.obj _ _ st2 b hb;exact FX e
 have f3: ∀b∈fp,o0 X pins (aF H2 D (.lst [])) b/\b<s3.heap.objs.size:=λb hb=>by
  have UH:=sz b hb;refine#[#[?_,(f2 b hb).2],by rw[h3,HQ];exact Jo UH];rw[ac (by rw[<-hD];exact Ha UH)];exact(f2 b hb).1
 have st3:tn 0 s3.heap:=T.keep _ _ _ st2 λb _ o e=>by rw[h3];exact Fz _ e
 have I4:=sF I3 ok hN f3
 have pg:=hg s3 (aF H2 D (.lst [])) s3.heap.objs.size (Ij (s3.heap.objs.size+1) scope.names (bX X.env.cells scope.names [])) fp
 have pt:=ht s3 (aF H2 D (.lst [])) s3.heap.objs.size (Ij (s3.heap.objs.size+1) scope.names (bX X.env.cells scope.names [])) fp
 have pe:=he s3 (aF H2 D (.lst [])) s3.heap.objs.size (Ij (s3.heap.objs.size+1) scope.names (bX X.env.cells scope.names [])) fp
 show Lq _ _ (.compStart (.ListComp elt [#[tg,iter,ifs,0]] scope pos) 0 (.ref it) (.ref D) (MP scope (Ij (s3.heap.objs.size+1) scope.names (bX X.env.cells scope.names [])) s3.heap.objs.size X.env)) (compPost (model X.prog X.w) X.A X.xe use Qf (.ref D) s3.heap.objs.size) { s3 with heap:=NJ (s3.heap.push { cls:= .type "dict",data:= .dict [].toArray }) scope.names }
 have nfp: ∀b∈fp,(aF H2 D (.lst [])) b=FB:=λb hb=>(f3 b hb).1.1
 generalize hce:MP scope (Ij (s3.heap.objs.size+1) scope.names (bX X.env.cells scope.names [])) s3.heap.objs.size X.env=ce at I4 pg pt pe ⊢;have cL:ce.locals=s3.heap.objs.size:=by subst hce;rfl
 generalize hH3:aF H2 D (.lst [])=H3 at I3 I4 pg pt pe w0 nfp f3;generalize hs4:({ s3 with heap:=NJ (s3.heap.push { cls:= .type "dict",data:= .dict [].toArray }) scope.names } :Fn)=s4 at I4 ⊢;have st4:tn 0 s4.heap:=T.keep _ _ _ st3 λb _ o e=>by rw[<-hs4];exact O2 _ _ _ _ (Fz _ e)
 have T5: ∀ {σ':St}{H':Hp}{s':Fn},aE (X.Tu s3 H3 scope ce fp) [] σ' H' s'->(∀b∈fp,H' b=FB)-> ∀b∈fp,o0 (X.Tu s3 H3 scope ce fp) [] H' b:=λ{σ' H' s'} I' hn b hb=>
  #[hn b hb,(I'.ok.exf b hb).1,I'.ok.SU b hb, .inl hb,λx c e=>(I'.ok.exf b hb).2 x c e,λp hp=>FH (show p∈([]:E9 (Fi×IW))++[] from hp) (by simp)]
 have loop:Lq (model X.prog X.w) X.A (.compLoop (.ListComp elt [⟨tg,iter,ifs,0⟩] scope pos) 0 (.ref it) (.ref D) ce) (compPost (model X.prog X.w) X.A X.xe use Qf (.ref D) s3.heap.objs.size) s4:=by
  refine rF (λn s'=> ∃i H',aE (X.Tu s3 H3 scope ce fp) [] (hX σ (own.map (·.2))) H' s'/\tn i s'.heap/\(∀b∈fp,H' b=FB)/\W i n H') ?_ m0 #[0,H3,I4,st4,nfp,w0];rintro n s5 ⟨i,H5,I5,st5,n5,w5⟩;rcases turn i n H5 w5 with⟨stop,qq⟩|⟨go,Nx,hNx,step⟩
  .have td:=T.done (X.Tu s3 H3 scope ce fp) Gc Gc Gc hc i [] s5 _ H5 (λ_ _=>False) I5 (T5 I5 n5) st5 stop
   refine xS td λr s6 ⟨hr,I6⟩=>?_;subst hr;have I7:aE X pins σ H5 s6:=I3.Wg (ch:=fp) I6.os I6.base I6.Iu I6.bare λb hb=>#[(f3 b hb).1.2.2.2.1,(f3 b hb).1.2.1,(f3 b hb).1.2.2.2.2.1,(f3 b hb).1.2.2.2.2.2]
   have nC:H5 s3.heap.objs.size=FB:=by
    have z:H5 ce.locals=FB:=I6.free;rw[cL] at z;exact z
   obtain⟨m,hn,_⟩:=I6.loc;have hn:s6.heap.Ns ce.locals m:=hn;rw[cL] at hn;exact hRR D s3.heap.objs.size s6 m H5 I7 qq hn (I3.aav (FF _) nC)
  .have ti:=T.item (X.Tu s3 H3 scope ce fp) Gc Gc Gc hc i [] s5 _ H5 (λ_ _=>False) I5 (T5 I5 n5) st5 go
   refine xS ti λr s6 ⟨u,hr,h6⟩=>?_;subst hr;refine xS h6 λ_ s7 ⟨x,H7,I7,r7,y7,st7,n7⟩=>?_;have I7':=I7.pinned (T5 I7 n7) (T.obj _ _ st7);refine xS (pg _ s7 _ H7 x u _ I7' r7 (step x H7 y7)) λ_ s8 ⟨σ8,H8,I8,hw8,q8⟩=>?_;refine xS (pt _ s8 σ8 H8 _ I8 q8) λb s9 ⟨H9,I9,q9⟩=>?_;have eN: ∀ {s':Fn}{H':Hp},aE (X.Tu s3 H3 scope ce fp) ([]++oQ fp s7.heap) σ8 H' s'->Nx H'-> ∃m,m<n/\ ∃i H',aE (X.Tu s3 H3 scope ce fp) [] (hX σ (own.map (·.2))) H' s'/\tn i s'.heap/\(∀b∈fp,H' b=FB)/\W i m H':=λ{s' H'} I' nx=>by
    obtain⟨m',hm,w'⟩:=hNx H' nx;have afO: ∀b∈fp,∀o,s7.heap.get? b=Fa o->s'.heap.get? b=Fa o/\H' b=FB:=λb hb o e=>
     let z:=I'.pin (b,o) (Hm _ (Hm _ (jB hb e)))
     #[z.1,z.2.1]
    have hl:(hX σ (own.map (·.2))).length=σ8.length:=by rw[<-hw8,iG]
    refine#[m',hm,i+1,H',(I'.PD (pins:=[])).weak hl (λj v e=>?_),T.keep _ _ _ st7 λb hb o e=>(afO b hb o e).1,λb hb=>?_,w']
    .rw[<-hw8] at e
     exact(kT e).1
    .obtain⟨o,e,_⟩:=T.obj _ _ st7 b hb
     exact(afO b hb o e).2
   cases b with
   |false=>
    simp only[IY,MO] at q9 ⊢;exact eN I9 q9
   |true=>
    simp only[Th] at q9 ⊢;refine xS (pe _ s9 σ8 H9 _ I9 q9) λz s10 ⟨yv,H10,I10,r10,acc,ak4,ak5,nx⟩=>?_;exact aaK (X:=X.Tu s3 H3 scope ce fp) I10 ak4 ak5 r10 λs11 I11=>eN I11 nx
 exact codeAny_compStart_list loop (T.self X.A 0 _ _ _ st4 loop)
theorem Bu {elt tg iter:HH}{scope:Scope}{pos:Pos}{g:TG}{tt:TT}{te:TE}(hc:X.calm=FM) (hN:X.N.Nodup) (hi:PI X tg iter wi) (ok:xD X.N X.env.scope scope own)
  (hg: ∀(s:Fn) (H:Hp) (C:Fi) (cl:E9 (FR×Fi)) (fp:E9 Fi),PG (X.Tu s H scope (MP scope cl C X.env) fp) tg g) (ht: ∀(s:Fn) (H:Hp) (C:Fi) (cl:E9 (FR×Fi)) (fp:E9 Fi),PTs (X.Tu s H scope (MP scope cl C X.env) fp) ifs tt)
  (he: ∀(s:Fn) (H:Hp) (C:Fi) (cl:E9 (FR×Fi)) (fp:E9 Fi),PE (X.Tu s H scope (MP scope cl C X.env) fp) elt te) (hs: ∀x,L4 iter X.env x=pure x:=by intro _;rfl):
  PE X (.ListComp elt [#[tg,iter,ifs,0]] scope pos) (tLc wi g tt te (own.map (·.2))):=by
 rw[01];rw[eval_ListComp];refine DA hc hN I hi ok hg ht he hs h λD C s' m H' I' q hn f=>#[m,hn,λh'' sb=>?_];obtain⟨f0,f1,f2,f3,f4,f5⟩:=f;exact#[.ref D,H',I'.turned (t':=s'.toks) (λb o hb e=>(sb.2 b hb).trans e) f0 f1 f3 f4 f5,Gc,q]
end
theorem qS {K:Fe}{a:Fi}{xs:E9 V}{g:TG}{tt:TT}{te:TE}{σ:St}{H1:Hp}{Qd:Hp->Prop}(Pv:FC->Hp->Prop) (h0:Pv 0 (aF H1 D (.lst []))) (hl: ∀i H,i<=xs.length->Pv i H->cB K H a xs)
  (hs: ∀i x H,xs[i]?=Fa x->Pv i H->g x (hX σ vs) H λσ2 H2=>hX σ2 vs=hX σ vs/\tt σ2 H2 λb H3=>
   if b=FM then te σ2 H3 λy H4=> ∃acc,H4 D=Fa (.lst acc)/\acc.length<F8/\Pv (i+1) (aF H4 D (.lst (acc++[y]))) else Pv (i+1) H3) (hd: ∀H,Pv xs.length H->Qd H):
  ∃W:FC->FC->Hp->Prop,(∃m,W 0 m (aF H1 D (.lst [])))/\ ∀i m H,W i m H->
   ((Yi K a).stop i H/\Qd H)\/((Yi K a).go i H/\ ∃Nx:Hp->Prop,(∀H',Nx H'-> ∃m',m'<m/\W (i+1) m' H')/\ ∀x H',(Yi K a).yld i H x H'->g x (hX σ vs) H' λσ2 H2=>hX σ2 vs=hX σ vs/\tt σ2 H2 λb H3=>
    if b=FM then te σ2 H3 λy H4=> ∃acc,H4 D=Fa (.lst acc)/\acc.length<F8/\Nx (aF H4 D (.lst (acc++[y]))) else Nx H3):=by
 refine#[λi m H=>m=xs.length-i/\i<=xs.length/\Pv i H,#[xs.length,by simp,F3 _,h0],?_];rintro i m H ⟨rfl,hi,p⟩;have q:=hl i H hi p;by_cases UH:i<xs.length
 .refine .inr #[#[xs,xs[i],q,by simp [UH]],Pv (i+1),λH' p'=>#[xs.length-(i+1),by lia,Gc,UH,p'],λx H' y=>?_]
  obtain⟨e,y⟩:=y;subst e;exact hs i x _ (y xs q) p
 .have e:i=xs.length:=by lia
  subst e;exact .inl #[#[xs,q,FF _],hd H p]
def Cd (N:E9 FR) (sc scope:Scope) (own:E9 (FR×FC)):Gu:=
 (match scope.kind with| .function=>FM|_=>FS)&&(scope.names.all λy=>decide (scope.names.lookup y.1=Fa y.2))&&(own.all λp=>decide (N[p.2]?=Fa p.1))&&
  (scope.names.all λy=>match y.2 with
   | .free=>(match sc.names.lookup y.1 with|some .cell=>FM|some .free=>FM|_=>FS)
   | .local=>decide (y.1∈own.map (·.1))||decide (y.1∉N)
   | .cell=>decide (y.1∈own.map (·.1))||decide (y.1∉N)
   |_=>FM)
theorem n6 {sc scope:Scope}(h:Cd N sc scope own=FM):xD N sc scope own:=by
 unfold Cd at h;simp only[GR,LW,N5] at h;obtain⟨⟨⟨h1,h2⟩,h3⟩,h4⟩:=h;refine#[?_,h2,h3,λy hy e=>?_,λy hy e=>?_]
 .split at h1
  .assumption
  .cases h1
 .have q:=h4 y hy
  simp only[e] at q;split at q<;>first|exact .inl (by assumption)|exact .inr (by assumption)|cases q
 .have q:=h4 y hy
  rcases e with e|e<;>(simp only[e,Mt,N5] at q;exact q)
section
variable {κ:Type} [DecidableEq κ]
def bO (aD:E9 (κ×V)) (k:κ):Ft V:=(aD.find? λkv=>decide (kv.1=k)).map (·.2)
def dz (aD:E9 (κ×V)) (k:κ) (v:V):E9 (κ×V):=
 if(aD.any λkv=>decide (kv.1=k))=FM then aD.map (λkv=>if kv.1=k then(kv.1,v) else kv) else aD++[(k,v)]
def fD (aD:E9 (κ×V)) (k:κ):E9 (κ×V):=aD.filter λkv=>decide (kv.1≠k)
theorem cg {p:κ×V}{r:E9 (κ×V)}{k:κ}(e:p.1=k):bO (p::r) k=Fa p.2:=by simp [bO,Hj,e]
theorem b4 {p:κ×V}{r:E9 (κ×V)}{k:κ}(e: ¬p.1=k):bO (p::r) k=bO r k:=by simp [bO,Hj,e]
theorem jR (k:κ): ∀aD:E9 (κ×V),(aD.any λkv=>decide (kv.1=k))=(bO aD k).isSome
 |[]=>rfl
 |p::r=>by
  rw[NL];by_cases e:p.1=k
  .simp only[cg e,GJ e,Tn,Ul]
  .rw[b4 e,Gb e,Se];exact jR k r
theorem sZ (k j:κ) (y:V): ∀aD:E9 (κ×V),bO (aD.map λkv=>if kv.1=k then(kv.1,y) else kv) j=(bO aD j).map λx=>if j=k then y else x
 |[]=>rfl
 |p::r=>by
  have ih:=sZ k j y r;rw[FQ];by_cases h:p.1=k
  .rw[Fm h]
   by_cases e:p.1=j
   .rw[cg (p:=(p.1,y)) e,cg e,Mg,Fm (e.symm.trans h)]
   .rw[b4 (p:=(p.1,y)) e,b4 e,ih]
  .rw[Fj h]
   by_cases e:p.1=j
   .rw[cg (p:=p) e,cg e,Mg,Fj (λz=>h (e.trans z))]
   .rw[b4 (p:=p) e,b4 e,ih]
theorem pR (k j:κ) (y:V): ∀aD:E9 (κ×V),bO aD k=FB->bO (aD++[(k,y)]) j=if j=k then Fa y else bO aD j
 |[],_=>by
  by_cases e:k=j
  .rw[Fm e.symm];exact cg (p:=(k,y)) e
  .rw[Fj (λz=>e z.symm)];exact b4 (p:=(k,y)) e
 |p::r,hn=>by
  rw[Ws];have hk: ¬p.1=k:=λz=>by rw[cg z] at hn;cases hn
  rw[b4 hk] at hn;have ih:=pR k j y r hn;by_cases e:p.1=j
  .rw[cg e,cg e,Fj (λz=>hk (e.trans z))]
  .rw[b4 e,b4 e,ih]
theorem gB (aD:E9 (κ×V)) (k j:κ) (y:V):bO (dz aD k y) j=if j=k then Fa y else bO aD j:=by
 unfold dz;by_cases a:(aD.any λkv=>decide (kv.1=k))=FM
 .rw[Fm a,sZ]
  rw[jR] at a;by_cases e:j=k
  .obtain⟨x,hx⟩:=KJ.mp a
   rw[Fm e,e,hx,Mg,Fm Gc]
  .rw[Fj e]
   cases bO aD j with
   |none=>rfl
   |some x=>rw[Mg,Fj e]
 .rw[Fj a]
  refine pR k j y aD ?_;rw[jR] at a;cases q:bO aD k with
  |none=>rfl
  |some x=>rw[q] at a;exact(a Gc).elim
theorem cH (aD:E9 (κ×V)) (k:κ) (v:V):(dz aD k v).length<=aD.length+1:=by
 unfold dz;split
 .rw[Fx];lia
 .rw[FL,FA,Kh];lia
theorem fU.Mv {o:Ft V}{u:Ft Fh}(r:fU o u):o.isSome=u.isSome:=by
 cases o with
 |none=>cases u with
  |none=>rfl
  |some _=>exact(show False from r).elim
 |some _=>cases u with
  |none=>exact(show False from r).elim
  |some _=>rfl
theorem KV.val {aD:E9 (κ×V)}(r:KV aD vs) (k:κ):fU (bO aD k) (Qg vs k):=by
 unfold KV at r
 induction r with
 |nil=>exact Hl
 | @cons p q ps qs h t ih=>
  obtain⟨h1,h2⟩:=h;by_cases e:p.1=k
  .have e':q.1=k:=h1.symm.trans e
   have b:Qg (q::qs) k=Fa q.2:=by simp [Qg,Hj,e']
   rw[cg e,b];exact h2
  .have e': ¬q.1=k:=λz=>e (h1.trans z)
   have b:Qg (q::qs) k=Qg qs k:=by simp [Qg,Hj,e']
   rw[b4 e,b];exact ih
theorem KV.any {aD:E9 (κ×V)}(r:KV aD vs) (k:κ):(aD.any λkv=>decide (kv.1=k))=vs.any λkv=>decide (kv.1=k):=by
 unfold KV at r
 induction r with
 |nil=>rfl
 |cons h t ih=>rw[NL,NL,ih,h.1]
theorem KV.aaL {aD:E9 (κ×V)}(r:KV aD vs) (k:κ) {y:V}{u:Fh}(ry:bh y u):
  KV (aD.map λkv=>if kv.1=k then(kv.1,y) else kv) (vs.map λkv=>if kv.1=k then(kv.1,u) else kv):=by
 unfold KV at r ⊢
 induction r with
 |nil=>exact .nil
 | @cons p q ps qs h t ih=>
  rw[FQ,FQ];refine .cons ?_ ih;obtain⟨h1,h2⟩:=h;by_cases e:p.1=k
  .rw[Fm e,Fm (h1.symm.trans e)];exact#[h1,ry]
  .rw[Fj e,Fj (λz=>e (h1.trans z))];exact#[h1,h2]
theorem KV.put {aD:E9 (κ×V)}(r:KV aD vs) (k:κ) {y:V}{u:Fh}(ry:bh y u):KV (dz aD k y) (stored vs k u):=by
 unfold dz stored;rw[r.any k];by_cases e:(vs.any λkv=>decide (kv.1=k))=FM
 .rw[Fm e,Fm e];exact r.aaL k ry
 .rw[Fj e,Fj e];exact Ze r #[Gc,ry]
theorem KV.drop {aD:E9 (κ×V)}(r:KV aD vs) (k:κ):KV (fD aD k) (without vs k):=by
 unfold KV at r ⊢;unfold fD without
 induction r with
 |nil=>exact .nil
 | @cons p q ps qs h t ih=>
  obtain⟨h1,h2⟩:=h;rw[QC,QC];by_cases e:p.1=k
  .have a: ¬decide (p.1≠k)=FM:=by simp [e]
   have b: ¬decide (q.1≠k)=FM:=by simp [h1.symm.trans e]
   rw[Fj a,Fj b];exact ih
  .have e': ¬q.1=k:=λz=>e (h1.trans z)
   have a:decide (p.1≠k)=FM:=by simp [e]
   have b:decide (q.1≠k)=FM:=by simp [e']
   rw[Fm a,Fm b];exact .cons #[h1,h2] ih
theorem KV.length {aD:E9 (κ×V)}(r:KV aD vs):aD.length=vs.length:=Rp r
theorem B6 (aD:E9 (κ×V)) (k:κ):(fD aD k).length<=aD.length:=Oq _ _
end
theorem ow {P:Ga}{w:GN}{k:a8}{u:Fh}(r:bh (kV k) u):(aU P w).is k u=FM:=by
 cases k with
 |inl i=>obtain⟨t,e⟩:=(show∃t,u=Ki i t from r);subst e;exact rP P w i t
 |inr x=>obtain⟨t,e⟩:=(show∃t,u=OH x t from r);subst e;exact rY P w x t
theorem qp {P:Ga}{w:GN} : ∀ {ks:E9 a8}{us:E9 Fh},aX (ks.map kV) us->ItemsAre (aU P w) ks us
 |[],_,r=>by rw[Qc] at r;cases r;exact .nil
 |k::ks,_,r=>by
  rw[FQ] at r;cases r with
  |cons h t=>exact .cons (ow h) (qp t)
abbrev KT (H:Hp):E9 (E9 a8×V)->E9 (E9 a8×Fi×Fh)->Prop:=Paired λp q=>p.1=q.1/\H q.2.1=Fa (.tup (p.1.map kV))/\bh p.2 q.2.2
theorem KT.val {H:Hp}{aD:E9 (E9 a8×V)}{xs:E9 (E9 a8×Fi×Fh)}(r:KT H aD xs) (k:E9 a8):fU (bO aD k) ((Q9 xs k).map (·.2)):=by
 induction r with
 |nil=>exact Hl
 | @cons p q ps qs h t ih=>
  obtain⟨h1,_,h2⟩:=h;by_cases e:p.1=k
  .have e':q.1=k:=h1.symm.trans e
   have b:Q9 (q::qs) k=Fa q.2:=by simp [Q9,Hj,e']
   rw[cg e,b];exact h2
  .have e': ¬q.1=k:=λz=>e (h1.trans z)
   have b:Q9 (q::qs) k=Q9 qs k:=by simp [Q9,Hj,e']
   rw[b4 e,b];exact ih
theorem KT.aaL {H:Hp}{aD:E9 (E9 a8×V)}{xs:E9 (E9 a8×Fi×Fh)}(r:KT H aD xs) (k:E9 a8) {y:V}{u:Fh}(ry:bh y u):
  KT H (aD.map λkv=>if kv.1=k then(kv.1,y) else kv) (xs.map (putAt k u)):=by
 induction r with
 |nil=>exact .nil
 | @cons p q ps qs h t ih=>
  rw[FQ,FQ];refine .cons ?_ ih;obtain⟨h1,h2,h3⟩:=h;unfold putAt;by_cases e:p.1=k
  .rw[Fm e,Fm (h1.symm.trans e)];exact#[h1,h2,ry]
  .rw[Fj e,Fj (λz=>e (h1.trans z))];exact#[h1,h2,h3]
theorem KT.put {H:Hp}{aD:E9 (E9 a8×V)}{xs:E9 (E9 a8×Fi×Fh)}(r:KT H aD xs) (k:E9 a8) {b:Fi}{y:V}{u:Fh}(hb:H b=Fa (.tup (k.map kV))) (ry:bh y u):
  KT H (dz aD k y) (storedH xs k b u):=by
 have e:(aD.any λkv=>decide (kv.1=k))=(Q9 xs k).isSome:=by
  rw[jR,(r.val k).Mv,Ig]
 unfold dz storedH;rw[e];by_cases q:(Q9 xs k).isSome=FM
 .rw[Fm q,Fm q];exact r.aaL k ry
 .rw[Fj q,Fj q];exact Ze r #[Gc,hb,ry]
theorem KT.keeps {H H':Hp}{aD:E9 (E9 a8×V)}{xs:E9 (E9 a8×Fi×Fh)}(r:KT H aD xs) (ht: ∀b ys,H b=Fa (.tup ys)->H' b=Fa (.tup ys)):KT H' aD xs:=
 Paired.MU r λ_ _ z=>#[z.1,ht _ _ z.2.1,z.2.2]
section
variable {P:Ga}{w:GN}{H:Hp}{h:GY}{a:Fi}
theorem Yn {u:HO}(ok:ib P w H h) (e:Rd H a u):cx P w H h a u:=e.ok ok
theorem oB {aD:E9 (a8×V)}(ok:ib P w H h) (e:Rd H a (.dK aD)):aD.length<=F8/\(a == IC)=FS/\ ∃vs,KV aD vs/\h.DictOf (aU P w) a vs:=
 show cx P w H h a (.dK aD) from Yn ok e
theorem Yo {aD:E9 (a8×V)}(ok:ib P w H h) (e:H a=Fa (.dK aD)):aD.length<=F8/\(a == IC)=FS/\ ∃vs,KV aD vs/\h.DictOf (aU P w) a vs:=oB ok (.inl e)
theorem jD {ks:E9 a8}(ok:ib P w H h) (e:H a=Fa (.tup (ks.map kV))):(NI (aU P w)).is h ks a:=by
 obtain⟨_,HD,r,o,h1,h2,n,h3⟩:=(show cx P w H h a (.tup (ks.map kV)) from ok a _ e);exact#[o,HD.toArray,n,h1,h2,h3,by simpa using qp r]
theorem pQ {aD:E9 (E9 a8×V)}(ok:ib P w H h) (e:Rd H a (.dT aD)):aD.length<=F8/\(a == IC)=FS/\
  ∃xs,KT H aD xs/\h.DictOfH (NI (aU P w)) a xs:=by
 obtain⟨z,y,xs,r,o,es,ep,h1,h2,h3,h4,h5⟩:=(show cx P w H h a (.dT aD) from Yn ok e);refine#[z,y,xs,r,o,es,ep,h1,h2,h3,h4,λx hx=>?_,h5];have all: ∀ {l:E9 (E9 a8×V)}{m:E9 (E9 a8×Fi×Fh)},KT H l m-> ∀x∈m,(NI (aU P w)).is h x.1 x.2.1:=by
  intro l m q
  induction q with
  |nil=>intro x hx;exact nomatch hx
  | @cons p q ps qs hq t ih=>
   intro x hx;rcases Fy.mp hx with e|hx
   .subst e
    exact jD ok (by rw[<-hq.1];exact hq.2.1)
   .exact ih x hx
 exact all r x hx
theorem afP {aD:E9 (E9 a8×V)}(ok:ib P w H h) (e:H a=Fa (.dT aD)):aD.length<=F8/\(a == IC)=FS/\
  ∃xs,KT H aD xs/\h.DictOfH (NI (aU P w)) a xs:=pQ ok (.inl e)
end
def gw (H:Hp) (a:Fi) (y:V) (r:Ft V):Prop:=
 (∃aD k,Rd H a (.dK aD)/\y=kV k/\r=bO aD k)\/ ∃aD k b,Rd H a (.dT aD)/\y= .ref b/\H b=Fa (.tup (k.map kV))/\r=bO aD k
def sH (H:Hp) (a:Fi) (y v:V) (H':Hp):Prop:=
 (∃aD k,H a=Fa (.dK aD)/\y=kV k/\aD.length<F8/\H'=aF H a (.dK (dz aD k v)))\/
 ∃aD k b,H a=Fa (.dT aD)/\y= .ref b/\H b=Fa (.tup (k.map kV))/\aD.length<F8/\H'=aF H a (.dT (dz aD k v))
theorem gw.k {H:Hp}{a:Fi}{aD:E9 (a8×V)}{k:a8}(e:H a=Fa (.dK aD)):gw H a (kV k) (bO aD k):= .inl #[aD,k, .inl e,Gc,Gc]
theorem sH.k {H:Hp}{a:Fi}{aD:E9 (a8×V)}{k:a8}{v:V}(e:H a=Fa (.dK aD)) (hl:aD.length<F8):sH H a (kV k) v (aF H a (.dK (dz aD k v))):= .inl #[aD,k,e,Gc,hl,Gc]
section
variable {X:Cx}{pins:E9 (Fi×IW)}{σ:St}{H:Hp}{s:Fn}{a:Fi}{y v:V}{u r:Fh}{o:Ft V}{A:GV}{E:Fh->Fn->Prop}
theorem aE.big (I:aE X pins σ H s):IC<s.heap.objs.size:=by
 have h:Jp<s.heap.objs.size:=(I.mod.glob.keeps I.bk).lt;exact FC.lt_trans [01] h
theorem xU {Q:Fh->Fn->Prop}(hu:A.units+1<O5) (I:aE X pins σ H s) (g:gw H a y (Fa v)) (ry:bh y u) (h: ∀w' s',aE X pins σ H s'->bh v w'->Q w' s'):
  FV (model X.prog X.w) A (Tg (.ref a) u) Q E s:=by
 rcases g with⟨aD,k,e,ey,l⟩|⟨aD,k,b,e,ey,eb,l⟩
 .subst ey
  obtain⟨z,hd,vs,rel,dd⟩:=oB I.Iu e;obtain⟨w',hw,T6⟩:=fU.some_of (v:=v) (o:=Qg vs k) (by rw[l];exact rel.val k);exact wpAny_getItem_of (ow ry) dd.mapOf hw (h w' _ (I.tok _) T6)
 .subst ey
  cases (show u=FZ b from ry);obtain⟨z,hd,xs,rel,dd⟩:=pQ I.Iu e;obtain⟨w',hw,T6⟩:=fU.some_of (v:=v) (o:=(Q9 xs k).map (·.2)) (by rw[l];exact rel.val k);obtain⟨p,hp,hp2⟩:=Gj.mp hw;refine Y5 (Kl hu) (jD I.Iu eb) dd hp ?_;rw[hp2];exact h w' _ (I.tok _) T6
theorem ak6 {Q:Fh->Fn->Prop}(hu:A.units+1<O5) (I:aE X pins σ H s) (g:gw H a y o) (ry:bh y u) (h: ∀s',aE X pins σ H s'->Q (.bool o.isSome) s'):
  FV (model X.prog X.w) A (Ii .In u (.ref a)) Q E s:=by
 rcases g with⟨aD,k,e,ey,l⟩|⟨aD,k,b,e,ey,eb,l⟩
 .subst ey
  obtain⟨z,hd,vs,rel,dd⟩:=oB I.Iu e;refine wpAny_in_of (ow ry) hd dd.mapOf ?_;rw[<-(rel.val k).Mv,<-l];exact h _ (I.tok _)
 .subst ey
  cases (show u=FZ b from ry);obtain⟨z,hd,xs,rel,dd⟩:=pQ I.Iu e;refine wpAny_in_heap (Kl hu) (jD I.Iu eb) hd dd ?_;have q:=(rel.val k).Mv;rw[Ig] at q;rw[<-q,<-l];exact h _ (I.tok _)
theorem EW {Q:Fh->Fn->Prop}(hu:A.units+1<O5) (I:aE X pins σ H s) (g:gw H a y o) (ry:bh y u) (h: ∀s',aE X pins σ H s'->Q (.bool (!o.isSome)) s'):
  FV (model X.prog X.w) A (Ii .NotIn u (.ref a)) Q E s:=by
 rcases g with⟨aD,k,e,ey,l⟩|⟨aD,k,b,e,ey,eb,l⟩
 .subst ey
  obtain⟨z,hd,vs,rel,dd⟩:=oB I.Iu e;refine wpAny_notIn_of (ow ry) hd dd.mapOf ?_;rw[<-(rel.val k).Mv,<-l];exact h _ (I.tok _)
 .subst ey
  cases (show u=FZ b from ry);obtain⟨z,hd,xs,rel,dd⟩:=pQ I.Iu e;refine wpAny_notIn_heap (Kl hu) (jD I.Iu eb) hd dd ?_;have q:=(rel.val k).Mv;rw[Ig] at q;rw[<-q,<-l];exact h _ (I.tok _)
theorem rE {h':GY}(I:aE X pins σ H s) (mu:eQ (H a)) (hs:MK a s.heap h') (he: ∃q,h'.get? a=Fa q) (new:cx X.prog X.w (aF H a ob) h' a ob):
  aE X pins σ (aF H a ob) { s with heap:=h',toks:=t' } :=
 I.write (x:=a) (e:=a) mu (.inl Gc) (λb q hb z=>(hs.2 b hb).trans z) he new
theorem vE {P:Ga}{w:GN}{H':Hp}{h':GY}{aD:E9 (a8×V)}(z:aD.length<=F8) (hd:(a == IC)=FS) (rel:KV aD vs) (dd:h'.DictOf (aU P w) a vs):
  cx P w H' h' a (.dK aD):=#[z,hd,vs,rel,dd]
theorem yK {H':Hp}{Q:Nc->Fn->Prop}(hu:A.units+1<O5) (I:aE X pins σ H s) (g:sH H a y v H') (ry:bh y u) (rv:bh v r) (h: ∀s',aE X pins σ H' s'->Q () s'):
  FV (model X.prog X.w) A (setItem (.ref a) u r) Q E s:=by
 rcases g with⟨aD,k,e,ey,l,eH⟩|⟨aD,k,b,e,ey,eb,l,eH⟩
 .subst ey eH
  obtain⟨z,hd,vs,rel,dd⟩:=Yo I.Iu e;have hz:vs.length<=F8:=by rw[<-rel.length];exact z
  have hl:(dz aD k v).length<=F8:=by have:=cH aD k v;lia
  refine wpAny_setItem_pairs (hsz:=hz) (ow ry) dd λh' WJ hs=>h _ ?_;have he: ∃q,h'.get? a=Fa q:=let ⟨q,_,_,hq,_⟩:=WJ;#[q,hq];exact rE I (by rw[e];exact Hl) hs he (vE hl hd (rel.put k rv) WJ)
 .subst ey eH
  cases (show u=FZ b from ry);obtain⟨z,hd,xs,rel,dd⟩:=afP I.Iu e;have hz:xs.length<=F8:=by rw[<-Rp rel];exact z
  have hl:(dz aD k v).length<=F8:=by have:=cH aD k v;lia
  refine wpAny_setItem_heap (hsz:=hz) (Kl hu) (jD I.Iu eb) dd λh' WJ hs=>h _ ?_;obtain⟨q,es,ep,hq,h2,h3,h4,_,h5⟩:=WJ;refine rE I (by rw[e];exact Hl) hs #[q,hq] #[hl,hd,_,(rel.put k eb rv).keeps λc ys ec=>?_,q,es,ep,hq,h2,h3,h4,h5];rw[ac (pS ec e (λz=>nomatch z))]
  exact ec
end
section
variable {X:Cx}{pins:E9 (Fi×IW)}{σ:St}{H:Hp}{s:Fn}{a:Fi}{aD:E9 (a8×V)}{k:a8}{u:Fh}{A:GV}{E:Fh->Fn->Prop}
theorem afQ {v:V}{Q:Fh->Fn->Prop}(I:aE X pins σ H s) (e:H a=Fa (.dK aD)) (ry:bh (kV k) u) (l:bO aD k=Fa v) (hm:more=[]\/ ∃x,more=[x])
  (h: ∀w' s',aE X pins σ (aF H a (.dK (fD aD k))) s'->bh v w'->Q w' s'):FV (model X.prog X.w) A (call (.builtin "dict.pop") (.ref a::u::more)) Q E s:=by
 obtain⟨z,hd,vs,rel,dd⟩:=Yo I.Iu e;obtain⟨w',hw,T6⟩:=fU.some_of (v:=v) (o:=Qg vs k) (by rw[<-l];exact rel.val k);have hp:(keyPart u).isSome=FM:=by
  cases k with
  |inl i=>obtain⟨t,q⟩:=(show∃t,u=Ki i t from ry);subst q;rfl
  |inr x=>obtain⟨t,q⟩:=(show∃t,u=OH x t from ry);subst q;rfl
 have ha:argsOk "dict.pop" ⟨.ref a::u::more,[]⟩:=by
  rcases hm with q|⟨x,q⟩
  .subst q;exact PySem.F.args_dict_pop_2 _ _
  .subst q;exact PySem.F.args_dict_pop_3 _ _ _
 refine call_meetsIn Sa dd.typeIs PySem.F.entry_dict_pop ha (meets_dict_pop_there (aU X.prog X.w) a (ow ry) more hm hp)
  #[vs,w',dd,by rw[<-rel.length];exact z,hw,λh' WJ hs=>h w' _ ?_ T6]
 have he: ∃q,h'.get? a=Fa q:=let ⟨q,_,_,hq,_⟩:=WJ;#[q,hq];exact rE I (by rw[e];exact Hl) hs he (vE (FP (B6 aD k) z) hd (rel.drop k) WJ)
theorem afR {Q:Fh->Fn->Prop}(I:aE X pins σ H s) (e:Rd H a (.dK aD)) (h: ∀t s',aE X pins σ H s'->Q (.int aD.length t) s'):FV (model X.prog X.w) A (call (.builtin "len") [.ref a]) Q E s:=by
 obtain⟨z,hd,vs,rel,dd⟩:=oB I.Iu e;refine call_len_dict hd dd (by rw[<-rel.length];rw[Ic] at z;lia) ?_;rw[<-rel.length];exact h _ _ (I.tok _)
end
def E1 (i:HH):Prop:= ∀ov iv,subscripted i FS ov iv=operate [ov,iv] (Tg ov iv)
theorem xu {prog:Ga}{w:GN}{A:GV}{E:Fh->Fn->Prop}{s:Fn}{env:Env}{Kk slice:HH}{pos:Pos}{T id:String}{Q:Fh->Fn->Prop}
  (hl:HR (.type T) "__getitem__"=pure (Fa (.builtin id))) (hs:E1 slice)
  (h:FV (model prog w) A (eval Kk env) (λo s₁=>FV (model prog w) A (eval slice env) (λi s₂=>s₂.TypeIs o T/\FV (model prog w) A (Tg o i) Q E s₂) E s₁) E s):
  FV (model prog w) A (eval (.Subscript Kk slice pos) env) Q E s:=by
 refine Y9 (ID h (λo s₁ h₁=>ID h₁ (λi s₂ h₂=>?_) λ_ _ x=>x) λ_ _ x=>x);obtain⟨hT,h₂⟩:=h₂;unfold UW;refine FD ?_;rw[getitemInPython_of_ne hT.not_modules];refine FD (wpAny_specialOf hT hl ?_);have eN:FV (model prog w) A (subscripted slice FS o i) (λr s₃=>FV (model prog w) A (letTemporaryGo Kk o r>>=λ_=>pure r) Q E s₃) E s₂:=by
  rw[hs o i];exact wpAny_operating (ID h₂ (λr s₃ h₃=>FD (wpAny_letTemporaryGo (F7 h₃))) λ_ _ x=>x)
 first
  |exact F7 (FD eN)
  |exact FD (F7 (FD eN))
  |exact FD eN
theorem sL {X:Cx}{pins:E9 (Fi×IW)}{σ:St}{H:Hp}{s:Fn}{a:Fi}{y:V}{o:Ft V}(I:aE X pins σ H s) (g:gw H a y o):s.TypeIs (.ref a) "dict":=by
 rcases g with⟨aD,k,e,_,_⟩|⟨aD,k,b,e,_,_,_⟩
 .obtain⟨_,_,vs,_,dd⟩:=oB I.Iu e
  exact dd.typeIs
 .obtain⟨_,_,xs,_,dd⟩:=pQ I.Iu e
  exact dd.typeIs
def afS (td ty:TE):TE:=λσ H Q=>td σ H λx H1=>ty σ H1 λy H2=> ∃a v,x= .ref a/\gw H2 a y (Fa v)/\Q v H2
inductive BL (y:V) (R:Ft V->Hp->Prop) (x:V) (H2:Hp):Prop
 |mk (a:Fi) (o:Ft V) (_:x= .ref a) (_:gw H2 a y o) (_:R o H2):BL y R x H2
def ak7 (ty td:TE):TE:=λσ H Q=>ty σ H λy H1=>td σ H1 (BL y (λo H2=>Q (.bl o.isSome) H2))
def E4 (ty td:TE):TE:=λσ H Q=>ty σ H λy H1=>td σ H1 (BL y (λo H2=>Q (.bl (!o.isSome)) H2))
def afT (td ty tv:TE):TS:=λD σ H=>tv σ H λv H1=>td σ H1 λx H2=>ty σ H2 λy H3=> ∃a H4,x= .ref a/\sH H3 a y v H4/\D.nx σ H4
section
variable {X:Cx}{o i e Kk:HH}{pos NG afE:Pos}{td ty tv:TE}
theorem jM (hu:X.A.units+1<O5) (ho:PE X o td) (hi:PE X i ty) (hs:E1 i):PE X (.Subscript o i pos) (afS td ty):=by
 rw[01];refine xu Q1.lookup hs (b8 (ho pins s σ H _ I h) λu s1 ⟨x,H1,I1,rx,q1⟩=>b8 (hi pins s1 σ H1 _ I1 q1) λiv s2 ⟨y,H2,I2,ry,a,v,ex,g,q2⟩=>?_);subst ex;obtain rfl:u=FZ a:=rx;exact#[sL I2 g,xU hu I2 g ry λw' s3 I3 T6=>#[v,H2,I3,T6,q2]]
theorem oR (hu:X.A.units+1<O5) (hi:PE X i ty) (ho:PE X o td):PC X .In i o (ak7 ty td):=by
 rw[01];refine b8 (hi pins s σ H _ I h) λiv s1 ⟨y,H1,I1,ry,q1⟩=>b8 (ho pins s1 σ H1 _ I1 q1) λu s2 ⟨x,H2,I2,rx,a,ov,ex,g,q2⟩=>?_;subst ex;obtain rfl:u=FZ a:=rx;exact ak6 hu I2 g ry λs3 I3=>#[.bl ov.isSome,H2,I3,Gc,q2]
theorem iV (hu:X.A.units+1<O5) (hi:PE X i ty) (ho:PE X o td):PC X .NotIn i o (E4 ty td):=by
 rw[01];refine b8 (hi pins s σ H _ I h) λiv s1 ⟨y,H1,I1,ry,q1⟩=>b8 (ho pins s1 σ H1 _ I1 q1) λu s2 ⟨x,H2,I2,rx,a,ov,ex,g,q2⟩=>?_;subst ex;obtain rfl:u=FZ a:=rx;exact EW hu I2 g ry λs3 I3=>#[.bl (!ov.isSome),H2,I3,Gc,q2]
theorem g9 (hu:X.A.units+1<O5) (ho:PE X o td) (hi:PE X i ty) (hv:PE X Kk tv) (hs:LL Kk (Fa (.Subscript o i NG)) pos.line X.env=pure FS):
  PS X (.Assign [.Subscript o i NG] Kk pos) (afT td ty tv):=by
 intro pins s σ H D I h;refine wpAny_Assign_Subscript (b8 (hv pins s σ H _ I h) λr s1 ⟨v,H1,I1,rv,q1⟩=>b8 (ho pins s1 σ H1 _ I1 q1) λu s2 ⟨x,H2,I2,rx,q2⟩=>b8 (hi pins s2 σ H2 _ I2 q2) λiv s3 ⟨y,H3,I3,ry,a,H4,ex,g,q3⟩=>?_) hs;subst ex;obtain rfl:u=FZ a:=rx;exact yK hu I3 g ry rv λs4 I4=>#[σ,H4,I4,q3]
end
theorem Aq {P:Ga}{w:GN}{H:Hp}(h:GY) (hb:IC<h.objs.size):cx P w H (h.push { cls:= .type "dict",data:= .dict [].toArray }) h.objs.size (.dK []):=
 #[F3 _,beq_eq_false_iff_ne.mpr (IG (Ha hb)),[], .nil,Tr h]
def aaM:TE:=λ_ H Q=> ∀p,H p=FB->Q (.ref p) (aF H p (.dK []))
section
variable {X:Cx}{pos:Pos}
theorem e9:PE X (.Dict [] [] pos) aaM:=λpins s σ H Q I h=>
 wpAny_Dict_empty #[.ref s.heap.objs.size,_,I.laid (a:=s.heap.objs.size) (o:= .dK []) (t':=s.toks) (λ_ _ q=>Fz _ q) (FF _) (Aq s.heap I.big),Gc,h _ (I.Iu.fresh (FF _))]
end
def fT (aD more:E9 (a8×V)):E9 (a8×V):=more.foldl (λacc kv=>dz acc kv.1 kv.2) aD
theorem KV.merge: ∀ {more:E9 (a8×V)}{rs:E9 (a8×Fh)}{aD:E9 (a8×V)}{vs:E9 (a8×Fh)},KV more rs->KV aD vs->KV (fT aD more) (merged vs rs):=by
 intro more rs aD vs r;unfold KV at r
 induction r generalizing aD vs with
 |nil=>intro q;exact q
 | @cons p q ps qs h t ih=>
  intro r0;have e:KV (dz aD p.1 p.2) (stored vs q.1 q.2):=by
   have:=r0.put p.1 h.2;rw[<-h.1];exact this
  exact ih e
theorem gu: ∀(more aD:E9 (a8×V)),(fT aD more).length<=aD.length+more.length
 |[],aD=>by show aD.length<=aD.length+0;lia
 |p::r,aD=>by
  have h1:=gu r (dz aD p.1 p.2)
  have h2:=cH aD p.1 p.2
  show(fT (dz aD p.1 p.2) r).length<=_
  rw[FA];lia
structure M1 (X:Cx) (o:HH) (m:FR) (La:Pos) (e:HH) (LJ:Pos):Prop where
 base:IA o m X.env (eval o X.env)=eval o X.env
 few:((IV LJ (FK [e] X.env)).all (λx=>!x.1)&&(KR LJ (Jq [] X.env)).all (λx=>x.1.isSome)
  &&decide (([e]:E9 HH).length+([]:E9 Keyword).length+(if([]:E9 Keyword).isEmpty then 0 else 1)<30))=FM
 line:(La.endLine == LJ.line)=FM
 trees:IV LJ (FK [e] X.env)=[[001]]
def IsD (H:Hp) (a:Fi):Prop:=(∃aD,Rd H a (.dK aD))\/ ∃aD,Rd H a (.dT aD)
theorem aaN {X:Cx}{pins:E9 (Fi×IW)}{σ:St}{H:Hp}{s:Fn}{a:Fi}(I:aE X pins σ H s) (d:IsD H a):
  s.TypeIs (.ref a) "dict"/\(∀b,FZ a= .ref b-> ∃ob,s.heap.get? b=Fa ob/\ob.dict=FB)/\(a == IC)=FS:=by
 rcases d with⟨aD,e⟩|⟨aD,e⟩
 .obtain⟨_,hd,vs,_,dd⟩:=oB I.Iu e
  refine#[dd.typeIs,λb q=>?_,hd];cases q;obtain⟨ob,_,_,h1,h2,_⟩:=dd;exact#[ob,h1,h2.2.1]
 .obtain⟨_,hd,xs,_,dd⟩:=pQ I.Iu e
  refine#[dd.typeIs,λb q=>?_,hd];cases q;obtain⟨ob,_,_,h1,h2,_⟩:=dd;exact#[ob,h1,h2.2.1]
def aaO (td ty:TE):TE:=λσ H Q=>td σ H λx H1=> ∃a,x= .ref a/\IsD H1 a/\ty σ H1 λy H2=> ∃aD k v,H2 a=Fa (.dK aD)/\y=kV k/\bO aD k=Fa v/\Q v (aF H2 a (.dK (fD aD k)))
section
variable {X:Cx}{o e f:HH}{La LJ:Pos}{td ty tx:TE}
theorem Bb (ho:PE X o td) (he:PE X e ty) (m:M1 X o "pop" La e LJ):PE X (.Call (.Attribute o "pop" La) [e] [] LJ) (aaO td ty):=by
 rw[01];refine wpAny_Call_method m.base m.few m.line PySem.F.plainAttrs_dict Sa PySem.F.type_dict_pop (b8 (ho pins s σ H _ I h) λu s1 ⟨x,H1,I1,rx,a,ex,d,q1⟩=>?_);subst ex;obtain rfl:u=FZ a:=rx;obtain⟨t1,t2,_⟩:=aaN I1 d;refine#[t1,t2,?_];rw[m.trees];refine Lk Gc (Ov (K5 (b8 (he pins s1 σ H1 _ I1 q1) λiv s2 ⟨y,H2,I2,ry,aD,k,v,ea,ey,l,q2⟩=>Ll ?_)));subst ey;exact afQ I2 ea ry l (.inl Gc) λw' s3 I3 T6=>#[v,_,I3,T6,q2]
end
theorem um:entryFor table "dict.update.loop"=Fa Builtin.«dict.update.loop»:=entryFor_of_tree (by kernel_rfl)
theorem iT:plainId "dict.update.loop"=FM:=by decide+kernel
theorem zk:K4 "zip"=Fa (.type "zip"):=by decide+kernel
end L2
namespace TL
open PySem PySem.Builtin PySem.Builtin.Str PySem.StrLaws
abbrev tl (x:FR):E9 FC:=x.cps.toList
theorem aaP {x y:FR}(h:tl x=tl y):x=y:=FR.ext' (Jw.toList_inj.mp h)
theorem pE (x y:FR):tl (x++y)=tl x++tl y:=by
 show(x++y).cps.toList=_
 rw[FR.cps_append,Jw.toList_append]
def SW (S:E9 FC):E9 (E9 FC)->E9 FC
 |[]=>[]
 |[p]=>p
 |p::q::r=>p++(S++SW S (q::r))
theorem UK (y:FR): ∀parts:E9 FR,tl (Zg y parts)=SW (tl y) (parts.map tl)
 |[]=>rfl
 |[_]=>rfl
 |x::z::r=>by
  show tl (x++y++Zg y (z::r))=tl x++(tl y++SW (tl y) ((z::r).map tl))
  rw[pE,pE,UK y (z::r),GG]
theorem join_eq (y:FR) (parts:E9 FR):U4 y parts=Zg y parts:=glued_eq_join y parts
end TL
namespace L2
open PySem PySem.Spec PyProof.Rows
theorem hZ: ∀ {ys:E9 FR}{us:E9 Fh},aX (ys.map V.str) us->StrsAre us ys
 |[],_, .nil=> .nil
 |y::ys,_, .cons r t=>by
  obtain⟨k,rfl⟩:=r;exact .cons y k (hZ t)
section
variable {X:Cx}
theorem DR:MtR X "str.join" (λx xs H Q=> ∃a p,∃ys:E9 FR,x= .str a/\xs=[.ref p]/\(cB X.K H p (ys.map V.str)\/pH X.K H p (ys.map V.str))/\
  (ys.map (·.length)).sum+ys.length*a.length<=16777216/\Q (.str (U4 a ys)) H):=by
 intro pins s σ H x xs v us Q I rx rs h;obtain⟨a,p,ys,rfl,rfl,hp,hz,h⟩:=h;obtain⟨t,rfl⟩:=rx;cases rs with
 |cons r1 rs=>
  cases rs;cases r1;rcases hp with hp|hp
  .obtain⟨HD,r,⟨o,n,ho,hc,_,hd⟩,_⟩:=I.list hp
   exact PyProof.Rows.join_list (items:=HD.toArray) #[o,ho,hc,n,hd] (by rw[US];exact hZ r) hz λt' k=>#[.str _,H,I.tok k,#[t',Gc],h]
  .obtain⟨HD,r,ht,_⟩:=I.tuple hp
   exact PyProof.Rows.join_tuple (items:=HD.toArray) ht (by rw[US];exact hZ r) hz λt' k=>#[.str _,H,I.tok k,#[t',Gc],h]
end
section
variable {X:Cx}{o e:HH}{to te:TE}
def tM1 (r:V->E9 V->Hp->VK->Prop) (to te:TE):TE:=λσ H Q=>to σ H λx H1=>(∃a,x= .str a)/\te σ H1 λy H2=>r x [y] H2 Q
theorem afU {id:String}{name:FR}{La pos:Pos}{r:V->E9 V->Hp->VK->Prop}(slot:Slot "str" name id) (ty:typeOf (.builtin id)=pure (.type "method_descriptor")) (rule:MtR X id r) (ho:PE X o to) (he:PE X e te)
  (hs:FK [e] X.env=[[001]]:=by rfl) (QY:IA o name X.env (eval o X.env)=eval o X.env:=by rfl) (QZ:(La.endLine == pos.line)=FM:=by rfl):
  PE X (.Call (.Attribute o name La) [e] [] pos) (tM1 r to te):=by
 rw[01];refine PySem.Call_method1 QY hs QZ (b8 (ho pins s σ H _ I h) λv s1 ⟨x,H1,I1,r1,q1⟩=>?_);obtain⟨⟨a,rfl⟩,q1⟩:=q1;obtain⟨t,rfl⟩:=_root_.id r1;refine#["str",_,F.plainAttrs_str,slot,ty,Za _ _ _,(λ_ e=>nomatch e),Lk Gc (Ov (K5 ?_))]
 exact b8 (he pins s1 σ H1 _ I1 q1) λu s2 ⟨y,H2,I2,r2,q2⟩=>Ll (rule pins s2 σ H2 _ [y] _ [u] Q I2 r1 (.cons r2 .nil) q2)
theorem ED {La pos:Pos}(ho:PE X o to) (he:PE X e te) (hs:FK [e] X.env=[[001]]:=by rfl) (QY:IA o "join" X.env (eval o X.env)=eval o X.env:=by rfl) (QZ:(La.endLine == pos.line)=FM:=by rfl):
  PE X (.Call (.Attribute o "join" La) [e] [] pos) (tM1 (λx xs H Q=> ∃a p,∃ys:E9 FR,x= .str a/\xs=[.ref p]/\(cB X.K H p (ys.map V.str)\/pH X.K H p (ys.map V.str))/\
   (ys.map (·.length)).sum+ys.length*a.length<=16777216/\Q (.str (U4 a ys)) H) to te):=
 afU F.slot_str_join F.type_str_join DR ho he hs QY QZ
end
abbrev E0:XK:=λ_ _ _=>False
theorem aQ {X:Cx} :dh wX X E0:=λ_ _ _ _ _ _ _ h=>h.elim
section
variable {P:Ga}{w:GN}{K:Fe}{mg:FR->Ft Fh}{base:GY}
theorem oX.ok {x He:FR}{st:Stmt}{f:Fi}{fd:Gs}{N ps:E9 FR}{k:FC}{sp:Sp}(F:oX K x He st f fd) (S:az N ps (af st)) (len: ∀vs H Q E,sp vs H Q E->vs.length=ps.length)
  (JG: ∀(GU:Fh) (A:GV) (outer:E9 Env) (s:Fn) (H:Hp) (vs:E9 V) (Q:VK) (E:XK),bZ k (A.deeper (JJ He (af st) s.heap.objs.size f GU))->sp vs H Q E->
   Bd (e8 wX P w K mg base N He (af st) f GU A outer s H E).nox (be st) { nx:=λ_ H'=>Q .IJ H',rt:=Q } (start N vs) H):bU P w K mg base wX (k+1) f fd ps sp:=by
 obtain⟨oc,od,kV,doc,pm,an,GU,ct,WD,rfl,lk,Sy⟩:=F.ex;refine Yl lk Sy S len λA outer s H vs Q E hr TR=>?_;obtain⟨t,h,q⟩:=JG GU A outer s H vs Q E hr TR;exact#[t,h.nox,q]
end
theorem dn {A:GV}{k:FC}(hr:bZ k A):A.units+1<O5:=Gp (MG (by decide:1<=64) _) hr.units
section
variable {X:Cx}
theorem pv (i:FC) {x:FR}{pos:Pos}(hN:X.N[i]?=Fa x:=by rfl) (hv:oU X.env.scope x:=by first|exact G9 rfl|exact Or.inr (G9 Gc)|exact Or.inr (Or.inr Gc)) (hd:(x == [003])=FS:=by decide)
  (Sy:(x == ("__classdict__":FR))=FS:=by decide):PE X (.Name x pos) (lr i):=dR hN hv hd Sy
theorem yP:gI X (.builtin "len") (λxs H Q=> ∃a aD,xs=[V.ref a]/\H a=Fa (.dK aD)/\Q (.int aD.length) H):=by
 intro pins s σ H xs us Q I r h;obtain⟨a,aD,rfl,ha,q⟩:=h;obtain⟨u,rfl,ru⟩:=mT r;cases ru;exact afR I (.inl ha) λt s' I'=>#[.int aD.length,H,I',#[t,Gc],q]
end
theorem bN {A B:Prop}(h:B):if FS=FM then A else B:=by
 rw[Fj Fd];exact h
theorem cc {A B:Prop}(h:A):if FM=FM then A else B:=by
 rw[Fm Gc];exact h
def aS (H H':Hp):Prop:= ∀b o,H b=Fa o->H' b=Fa o
theorem aS.refl (H:Hp):aS H H:=λ_ _ h=>h
theorem aS.trans {H H1 H2:Hp}(a:aS H H1) (b:aS H1 H2):aS H H2:=λc o h=>b c o (a c o h)
theorem aS.seq {K:Fe}{H H':Hp}{a:Fi}{xs:E9 V}(e:aS H H') (h:cB K H a xs):cB K H' a xs:=by
 rcases h with(h|⟨o,h⟩)|h
 .exact .inl (.inl (e _ _ h))
 .exact .inl (.inr #[o,e _ _ h])
 .exact .inr h
end L2
namespace OS
open PySem
structure zh (l:E9 Fi) (ch:E9 Fi) (a:Fi) (oe:IW) (h h':GY):Prop where
 keep: ∀b o,b∉l->b∉ch->h.get? b=Fa o->h'.get? b=Fa o
 slot: ∀b o,b∈l->b∉ch->h.get? b=Fa o-> ∃sl,h'.get? b=Fa { o with slots:=sl }
 there: ∀b o,h.get? b=Fa o-> ∃u,h'.get? b=Fa u
 fly: ∃vs T oT ts,h'.get? a=Fa #[oe.cls,oe.dict, .fields vs,oe.slots]/\vs[1]?=Fa (.ref T)/\h.objs.size<=T/\T≠a/\h'.get? T=Fa oT/\oT.data= .fields ts/\ts[3]?=Fa .none
theorem qB {o:IW}{vs:Jw Fh}(hd:o.data= .fields vs) (f:Jw Fh->Jw Fh):o.mapFields f=#[o.cls,o.dict, .fields (f vs),o.slots]:=by
 obtain⟨c,d,dt,sl⟩:=o;cases hd
 rfl
section
variable {E:Fh->Fn->Prop}{base:GY}{a:Fi}{Q:Nc->Fn->Prop}
theorem ot {head:Fh}{Xt:Gu}(Sj:A.frames=Fa (env::outer)) (hl:s.heap.FunFrames base (env::outer)) (hf:env.frame=Fa L)
  (he:s.heap.get? a=Fa oe) (hd:oe.data= .fields vs) (hsz:1<vs.size)
  (h: ∀h',zh ((env::outer).filterMap (·.frame)) [a] a oe s.heap h'->Q () { s with heap:=h' }):
  FV M A (frameOf env>>=λx=>entryPlaceOf L Xt>>=λpl=>RG head x .none (N9 L) .none pl>>=λb=>setField (.ref a) 1 b) (λ_ s'=>FV M A (RF (.ref a) FB) Q E s') E s:=by
 have na:a∉(env::outer).filterMap (·.frame):=λhm=>by
  obtain⟨_,o,ho,hn⟩:=hl.mem hm;rw[he] at ho;cases ho;exact hn vs hd
 refine FD (wpAny_frameOf_fun Sj hl hf λh1 S=>FD (wpAny_entryPlaceOf λpl MT=>?_));unfold RG newFields;refine FD (wpAny_newObj_type ?_ (MT.sizeOk5 _ _ _ _ _));have e1:h1.get? a=Fa oe:=(S.2.1 a na).trans he;generalize ht:({ cls:= .type "traceback",dict:=FB,data:= .fields ([head, .ref L, .none,N9 L, .none]++(if pl.isEmpty then Jl 6 HY else pl)).toArray } :IW)=tb
 have td:tb.data= .fields ([head, .ref L, .none,N9 L, .none]++(if pl.isEmpty then Jl 6 HY else pl)).toArray:=by rw[<-ht]
 have tf:tb.isFreed=FS:=LV td
 have e2:(h1.push tb).get? a=Fa oe:=Fz tb e1;refine TH e2 hd hsz ?_
 have ne:h1.objs.size≠a:=Ly (FX e1)
 have hd3:=PN hd (·.setIfInBounds 1 (FZ h1.objs.size))
 have e3:=Jz (Iq (·.setIfInBounds 1 (FZ h1.objs.size))) e2 (LV hd3)
 have t3:((h1.push tb).update a (Iq (·.setIfInBounds 1 (FZ h1.objs.size)))).get? h1.objs.size=Fa tb:=
  (Hf (h1.push tb) _ (IG ne)).trans (G6 h1 tf)
 unfold RF;refine FD (wpAny_field e3 hd3 (x:= .ref h1.objs.size) (by simp [hsz]) ?_);rw[Fm (show(FZ h1.objs.size !=HY)=FM from by simp)];have sz3:3<([head, .ref L, .none,N9 L, .none]++(if pl.isEmpty then Jl 6 HY else pl)).toArray.size:=by
  simp only[Gv,FL,FA,Kh];lia
 refine TH t3 td sz3 (h _ ?_);have other: ∀b,b≠a->b≠h1.objs.size-> ∀f,(((h1.push tb).update a (Iq (·.setIfInBounds 1 (FZ h1.objs.size)))).update h1.objs.size f).get? b=(h1.push tb).get? b:=λb x y f=>by
  rw[Hf _ _ (IG y),Hf _ _ (IG x)]
 have old: ∀b o,s.heap.get? b=Fa o->b≠h1.objs.size:=λb o q=>by
  rw[S.1];exact Ha (FX q)
 have d4:=PN td (·.setIfInBounds 3 ((FB:Ft Fi).elim HY λf=>N9 f))
 have t4:=Jz (Iq (·.setIfInBounds 3 ((FB:Ft Fi).elim HY λf=>N9 f))) t3 (LV d4)
 have a4:(((h1.push tb).update a (Iq (·.setIfInBounds 1 (FZ h1.objs.size)))).update h1.objs.size (Iq (·.setIfInBounds 3 ((FB:Ft Fi).elim HY λf=>N9 f)))).get? a=Fa #[oe.cls,oe.dict, .fields (vs.setIfInBounds 1 (FZ h1.objs.size)),oe.slots]:=by
  rw[Hf _ _ ne,e3,qB hd]
 refine#[λb o nl nc q=>?_,λb o hb nc q=>?_,λb o q=>?_,?_]
 .rw[other b (λz=>nc (by rw[z];exact Fq)) (old b o q)]
  exact Fz tb ((S.2.1 b nl).trans q)
 .obtain⟨sl,z⟩:=S.2.2 b o q
  exact#[sl,by rw[other b (λy=>nc (by rw[y];exact Fq)) (old b o q)];exact Fz tb z]
 .by_cases ba:b=a
  .rw[ba];exact#[_,a4]
  .obtain⟨sl,z⟩:=S.2.2 b o q
   exact#[_,by rw[other b ba (old b o q)];exact Fz tb z]
 .refine#[_,h1.objs.size,_,_,a4,by simp [hsz],JM S.1.symm,ne,t4,d4,?_]
  simp
theorem yZ (Sj:A.frames=Fa (env::outer)) (hl:s.heap.FunFrames base (env::outer)) (hf:env.frame=Fa L)
  (he:s.heap.get? a=Fa oe) (hd:oe.data= .fields vs) (h1:vs[1]?=Fa .none)
  (h: ∀h',zh ((env::outer).filterMap (·.frame)) [a] a oe s.heap h'->Q () { s with heap:=h' }):FV M A (leaving env (.ref a)) Q E s:=by
 unfold leaving P9;simp only[hf];refine FD (FD (wpAny_field he hd h1 ?_));rw[Fj [01]];exact ot Sj hl hf he hd (Kr.mp h1).1 h
theorem xf (Sj:A.frames=Fa (env::outer)) (hl:s.heap.FunFrames base (env::outer)) (hf:env.frame=Fa L)
  (he:s.heap.get? a=Fa oe) (hd:oe.data= .fields vs) (h1:vs[1]?=Fa (.ref T)) (ne:T≠a) (hT:s.heap.get? T=Fa oT) (hdT:oT.data= .fields ts) (h3:ts[3]?=Fa .none)
  (h: ∀h',zh ((env::outer).filterMap (·.frame)) [a,T] a oe s.heap h'->Q () { s with heap:=h' }):FV M A (P9 (.ref a) env) (λ_ s'=>FV M A (RF (.ref a) FB) Q E s') E s:=by
 unfold P9;simp only[hf];refine FD (wpAny_field he hd h1 ?_);rw[Fm (show(FZ T !=HY)=FM from by simp)];refine FD (wpAny_field hT hdT h3 ?_);rw[Fj (show¬((HY == N9 L)=FM) from by simp [N9])];refine FD (TH hT hdT (Kr.mp h3).1 ?_);have other: ∀b,b≠T->(s.heap.update T (Iq (·.setIfInBounds 3 HY))).get? b=s.heap.get? b:=λb hb=>Hf _ _ (IG hb)
 have nT:T∉(env::outer).filterMap (·.frame):=λhm=>by
  obtain⟨_,o,ho,hn⟩:=hl.mem hm;rw[hT] at ho;cases ho;exact hn ts hdT
 have sT:=Jz (Iq (·.setIfInBounds 3 HY)) hT (LV (PN hdT _));refine ot (s:= { s with heap:=s.heap.update T (Iq (·.setIfInBounds 3 HY)) }) Sj (hl.of_keeps λb o hb hn=>#[o,(other b λq=>by rw[q,hT] at hb;cases hb;exact hn ts hdT).trans hb,Gc]) hf ((other a (IG ne)).trans he) hd (Kr.mp h1).1 λh' X=>h h' ?_
 have size:(s.heap.update T (Iq (·.setIfInBounds 3 HY))).objs.size=s.heap.objs.size:=GY.size_after_update ..;refine#[λb o nl nc q=>X.keep b o nl (λz=>nc (by rcases Fy.mp z with z|z;rw[z];exact Fq;cases z)) ((other b λz=>nc (by rw[z];simp)).trans q),
  λb o hb nc q=>X.slot b o hb (λz=>nc (by rcases Fy.mp z with z|z;rw[z];exact Fq;cases z)) ((other b λz=>nc (by rw[z];simp)).trans q),λb o q=>?_,?_]
 .by_cases bT:b=T
  .rw[bT];exact X.there T _ sT
  .exact X.there b o ((other b bT).trans q)
 .obtain⟨ws,T',oT',ts',x1,x2,x3,x4⟩:=X.fly
  exact#[ws,T',oT',ts',x1,x2,by rw[<-size];exact x3,x4]
theorem At (Sj:A.frames=Fa (env::outer)) (hl:s.heap.FunFrames base (env::outer)) (hf:env.frame=Fa L)
  (he:s.heap.get? a=Fa oe) (hd:oe.data= .fields vs) (h1:vs[1]?=Fa (.ref T)) (ne:T≠a) (hT:s.heap.get? T=Fa oT) (hdT:oT.data= .fields ts) (h3:ts[3]?=Fa .none)
  (h: ∀h',zh ((env::outer).filterMap (·.frame)) [a,T] a oe s.heap h'->Q () { s with heap:=h' }):FV M A (leaving env (.ref a)) Q E s:=by
 unfold leaving;exact FD (xf Sj hl hf he hd h1 ne hT hdT h3 h)
end
end OS
namespace OS
open PySem
section
variable {prog:Ga}{w:GN}{A:GV}{E:Fh->Fn->Prop}{h:GY}{g:Jw Q8}{d:Drawn}{t:FC}{os:OsState}
variable {nm q:FR}{C N:Fi}{bs bm bmB:E9 Fh}{SX:Gu}{sn:E9 FR}{sub:E9 Fh}{ab:Gu}{col:Ft Gu}{dd:Ft Fi}{k0 k1 k2 k3 k5:Ft Fh}{B J9 Om:String}
def LA (h:GY) (l:E9 Fh) (name:FR) (y:Ft Fh):Prop:= ∀(M:Model) (A:GV) (E:Fh->Fn->Prop) (g:Jw Q8) (d:Drawn) (t:FC) (os:OsState) (Q:Ft Fh->Fn->Prop),Q y #[h,g,d,t,os]->FV M A (lookupAlong l name) Q E #[h,g,d,t,os]
theorem LA.of (m:mroOf (.type B)=pure l) (k:HR (.type B) name=pure y):LA h l name y:=by
 rw[typeLookup_eq,m] at k;intro M A E g d t os Q q;rw[show lookupAlong l name=pure y from k];exact F7 q
theorem LA.own {a:Fi}{mA:FR->Ft Fh}(o:h.get? a=Fa #[c0,da, .cls cd,sl]) (n:h.Ns cd.ns mA) (z:mA name=FB) (k:LA h l name y):LA h (.ref a::l) name y:=by
 intro M A E g d t os Q q;rw[lookupAlong_cons];refine FD (wpAny_classOwn_cls o n ?_);rw[z];exact k M A E g d t os Q q
theorem gZ {mN:FR->Ft Fh}{Q:Ft Fh->Fn->Prop}(hC:h.get? C=Fa (Ir nm q C N bs bm SX sn sub ab col dd k0 k1 k2 k3 k5 J9)) (n:h.Ns N mN) (k:mN name=FB->LA h bm name y)
  (q:Q (match mN name with|some v=>Fa v|none=>y) #[h,g,d,t,os]):FV M A (HR (.ref C) name) Q E #[h,g,d,t,os]:=by
 rw[typeLookup_eq];refine FD (wpAny_mroOf_exc hC ?_);rw[lookupAlong_cons];refine FD (wpAny_classOwn_exc hC n ?_);cases z:mN name with
 |some v=>rw[z] at q;exact F7 q
 |none=>rw[z] at q;exact k z M A E g d t os Q q
abbrev dj (C T:Fi):IW:= { cls:= .ref C,data:= .fields [.ref T, .none, .none, .none, .bool FS, .none].toArray }
abbrev ee (l:E9 Fh):IW:= { cls:= .type "tuple",data:= .seq l.toArray }
def wP (x:Fi) (Q:Fh->Fn->Prop) (E:Fh->Fn->Prop) (r:Result) (s':Fn):Prop:=match r with
 | .ok (.ret v)=>v= .none/\Q (.ref x) s'
 | .ok _=>False
 | .error e=>E e s'
structure Up (bm l:E9 Fh) (B:String):Prop where
 b:l.contains (.type B)=FM
 a:l.contains (.type "AttributeError")=FS
 n:l.contains (.type "NameError")=FS
theorem AW (F:Nm B J9 Om bmB) (U:Up bm (.ref C::bm) B) {Q:Nc->Fn->Prop}(hC:h.get? C=Fa (Ir nm q C N bs bm SX sn sub ab col dd k0 k1 k2 k3 k5 J9)) (z:Q () #[h,g,d,t,os]):FV M A (JD J9 #[.ref C::rest,[]]) Q E #[h,g,d,t,os]:=by
 have u:=U.b
 have st:=F.noStar;simp only[F.newRow,F.newSplit,F.newKind,JD]
 repeat (first|(refine wpAny_isSubtype_exc hC ?_;rw[u])|refine Gz hC ?_|refine wpAny_madeBy_exc hC ?_|refine wpAny_staticBase_exc hC ?_|simp only[bne_self_eq_false,IY,MO]|wp_step)
 exact z
theorem Ae (F:Nm B J9 Om bmB) (U:Up bm (.ref C::bm) B) {R:Result->Fn->Prop}(hC:h.get? C=Fa (Ir nm q C N bs bm SX sn sub ab col dd k0 k1 k2 k3 k5 J9)) (z:R (.ok (.ret (.ref (h.objs.size+1)))) #[(h.push (ee rest)).push (dj C h.objs.size),g,d,t,os]) (UL:rest.length<=F8):
  Lq (model prog w) A (.builtin J9 #[.ref C::rest,[]]) R #[h,g,d,t,os]:=by
 have amD:=F.ends
 have u1:=U.b
 have u2:=U.a
 have u3:=U.n;refine codeAny_builtinAt F.entry ?_;unfold Builtin.«BaseException.__new__»;refine wpAt_bind ?_
 show wpAt _ _ _ (stack>>=_) _ _ _
 refine wpAt_bind (wpAt_stack λ_ _=>wpAt_of_wpAny ?_)
 wp_walk
 refine wpAt_of_wpAny ?_;rw[F.owner]
 repeat (first|(with_reducible refine wpAny_isSubtype_exc hC ?_;first|rw[u1]|rw[u2]|rw[u3])|with_reducible refine wpAny_madeHere_exc F.canon hC ?_|with_reducible refine Gz hC ?_|wp_step)
 show R _ _
 rw[HQ];exact z
theorem yg (F:Nm B J9 Om bmB) (U:Up bm (.ref C::bm) B) {Q:Nc->Fn->Prop}
  (hC:h.get? C=Fa (Ir nm q C N bs bm SX sn sub ab col dd k0 k1 k2 k3 k5 J9)) (he:h.get? e=Fa oe) (aar:oe.cls= .ref C) (z:Q () #[h,g,d,t,os]):FV M A (JD Om #[.ref e::rest,[]]) Q E #[h,g,d,t,os]:=by
 have u:=U.b
 have st:=F.noStar;simp only[F.initRow,F.initSplit,F.initKind,JD]
 repeat (first|(with_reducible refine wpAny_isSubtype_exc hC ?_;rw[u])|(with_reducible refine Gz he ?_;rw[aar])|with_reducible refine Gz hC ?_|wp_step)
 refine wpAny_onRaise ?_;rw[show∀(a b:String) (n:FC),Bind.check #[.positional,"*",B, .self,[#["args", .varPos,FS]]] a b n (E9.map (λx=>x.1) ({ pos:=FZ e::rest } :Args).kw)=pure () from λ_ _ _=>check_star_args _ _ _ _ _ _];exact F7 z
theorem o7 (F:Nm B J9 Om bmB) (U:Up bm (.ref C::bm) B) {mN:FR->Ft Fh}{Q:Fin->Fn->Prop}
  (hC:h.get? C=Fa (Ir nm q C N bs bm SX sn sub ab col dd k0 k1 k2 k3 k5 J9)) (hn:h.Ns N mN) (Xu:mN "__init__"=Fa (.ref fI)) (hI:h.get? fI=Fa oI) (hIc:oI.cls= .type "function")
  (hq:Lq (model prog w) A (.call (.ref fI) #[.ref (h.objs.size+1)::rest,[]]) (wP (h.objs.size+1) (λv s'=>Q (.done (.ret v)) s') E) #[(h.push (ee rest)).push (dj C h.objs.size),g,d,t,os])
  (UL:rest.length<=F8):
  FV (model prog w) A (Builtin.«type.__call__» #[.ref C::rest,[]]) Q E #[h,g,d,t,os]:=by
 repeat (first|with_reducible refine Gz hC ?_|with_reducible refine wpAny_madeBy_exc hC ?_|wp_step)
 refine codeAny_call_builtin_code (Vl _ F.quiet) (AW F U hC ?_);refine Ae F U hC ?_ UL;show FV _ _ _ _ _ _;have c1:((h.push (ee rest)).push (dj C h.objs.size)).get? C=Fa (Ir nm q C N bs bm SX sn sub ab col dd k0 k1 k2 k3 k5 J9):=Fz _ (Fz _ hC);have n1:((h.push (ee rest)).push (dj C h.objs.size)).Ns N mN:=
  let ⟨o,es,ep,e,r⟩:=hn;#[o,es,ep,Fz _ (Fz _ e),r]
 have i1:((h.push (ee rest)).push (dj C h.objs.size)).get? fI=Fa oI:=Fz _ (Fz _ hI)
 have e1:((h.push (ee rest)).push (dj C h.objs.size)).get? (h.objs.size+1)=Fa (dj C h.objs.size):=by heap_get
 have hcC:(FZ C::bm).contains (.ref C)=FM:=by simp
 unfold Zb
 repeat (first|with_reducible refine Gz e1 ?_|(with_reducible refine wpAny_isSubtype_exc c1 ?_;rw[hcC])|wp_step)
 show FV _ _ (HR (.ref C) _) _ _ _
 refine gZ (y:=FB) c1 n1 (λz=>by rw[Xu] at z;cases z) ?_;rw[Xu];refine N8 ?_;unfold bindSpecial;refine FD (FD ?_);have hT:(⟨(h.push (ee rest)).push (dj C h.objs.size),g,d,t,os⟩:Fn).TypeIs (.ref fI) "function":=#[_,i1,hIc];refine VJ hT (F7 (FD (QK (Nl hq λr s' z=>?_))));rcases r with e|(v|_|_|_)
 .exact z
 .exact z.elim
 .exact z.elim
 .exact z.elim
 .obtain⟨rfl,z⟩:=z
  exact F7 (F7 z)
theorem AM (F:Nm B J9 Om bmB) (U:Up bm (.ref C::bm) B) {mN:FR->Ft Fh}{R:Result->Fn->Prop}
  (hC:h.get? C=Fa (Ir nm q C N bs bm SX sn sub ab col dd k0 k1 k2 k3 k5 J9)) (hn:h.Ns N mN) (Xu:mN "__init__"=Fa (.ref fI)) (hI:h.get? fI=Fa oI) (hIc:oI.cls= .type "function")
  (hq:Lq (model prog w) (A.under (.builtin "type.__call__" #[.ref C::rest,[]])) (.call (.ref fI) #[.ref (h.objs.size+1)::rest,[]]) (wP (h.objs.size+1) (λv s'=>R (.ok (.ret v)) s') (λe s'=>R (.error e) s')) #[(h.push (ee rest)).push (dj C h.objs.size),g,d,t,os])
  (UL:rest.length<=F8):
  Lq (model prog w) A (.call (.ref C) #[rest,[]]) R #[h,g,d,t,os]:=by
 have f1:=tc_lookup
 have f2:=tc_bind (.ref C)
 have hT:(⟨h,g,d,t,os⟩:Fn).TypeIs (.ref C) "type":=#[_,hC,Gc];refine codeAny_of_tree ?_
 show FV _ _ (callAny (.ref C) _) _ _ _
 repeat (any_goals (first|assumption|with_reducible refine Gz hC ?_|wp_step))
 refine#[Gc,?_];refine codeAny_call_builtin_at (Vl _ [00]) entry_typeCall (wpAny_check_type_call_sub hC (o7 F U hC hn Xu hI hIc ?_ UL));exact hq
theorem yr (F:Nm B J9 Om bmB) (U:Up bm (.ref C::bm) B) {R:Result->Fn->Prop}
  (hC:h.get? C=Fa (Ir nm q C N bs bm SX sn sub ab col dd k0 k1 k2 k3 k5 J9)) (he:h.get? e=Fa (dj C T))
  (hq:R (.ok (.ret .none)) #[(h.push (ee [])).update e (Iq (·.setIfInBounds 0 (.ref h.objs.size))),g,d,t,os]):
  Lq (model prog w) A (.call (.builtin Om) #[[.ref e],[]]) R #[h,g,d,t,os]:=by
 refine PM F.init.plain F.initEntry (yg F U hC he Gc ?_);unfold Builtin.«BaseException.__init__»
 wp_walk
 exact hq
end
theorem afV:HR (.type "Exception") "__getattribute__"=pure (Fa (.builtin "BaseException.__getattribute__")):=by rw[Kt,Ji];kernel_rfl
theorem afW:HR (.type "Exception") "__getattr__"=pure FB:=by rw[Kt,Ji];kernel_rfl
theorem wn:Slot "Exception" "__getattribute__" "BaseException.__getattribute__":=
 .of (owner:="BaseException") (n:="__getattribute__") (by rw[Kt,Ji];kernel_rfl) [00] [00] [00]
  (by first|exact .inl [00]|exact .inr [00]) (by rw[isSubtype_type];kernel_rfl)
section
open Builtin Builtin.ObjectAttr
variable {prog:Ga}{w:GN}{A:GV}{E:Fh->Fn->Prop}{h:GY}{g:Jw Q8}{d:Drawn}{t:FC}{os:OsState}
variable {nm q:FR}{C N x:Fi}{bs bm:E9 Fh}{sn:E9 FR}{sub:E9 Fh}{ab:Gu}{col:Ft Gu}{dd:Ft Fi}{k0 k1 k2 k3 k5:Ft Fh}{J9:String}
 {mN mA:FR->Ft Fh}{name:FR}{v:Fh}
theorem yh {Q:VX->Fn->Prop}
  (hC:h.get? C=Fa (Ir nm q C N bs bm FM sn sub ab col dd k0 k1 k2 k3 k5 J9)) (hn:h.Ns N mN) (hna:mN name=FB)
  (hB:LA h bm name FB) (I:h.Inst x C mA) (hv:mA name=Fa v) (hq:Q (.done (.ret v)) #[h,g,d,t,os]):
  FV (model prog w) A (Builtin.«object.__getattribute__» #[[.ref x, .str name tk],[]]) Q E #[h,g,d,t,os]:=by
 obtain⟨o,hx,hc,hnc,hd⟩:=I;rcases hd with⟨_,hmA⟩|⟨dx,Vf,hne,hns⟩
 .rw[hmA name] at hv;cases hv
 unfold Builtin.«object.__getattribute__»
 repeat (first|(with_reducible refine Gz hx ?_;rw[hc])|(with_reducible refine gZ hC hn (λ_=>hB) ?_;rw[hna])|wp_step)
 split
 .rename_i c Sy
  exact FH Sy (hnc c)
 unfold instanceDict
 repeat (first|(with_reducible refine Gz hx ?_;rw[hc])|with_reducible refine Gz hC ?_|wp_step)
 rw[Vf]
 repeat (first|(with_reducible refine wpAny_nsGet hns.ns ?_;rw[hv])|wp_step)
 exact hq
theorem yR (hcB:(FZ C::bm).contains (.type "BaseException")=FM) {Q:Nc->Fn->Prop}(hC:h.get? C=Fa (Ir nm q C N bs bm FM sn sub ab col dd k0 k1 k2 k3 k5 J9))
  (hx:h.get? x=Fa o) (hc:o.cls= .ref C) (hq:Q () #[h,g,d,t,os]):FV M A (JD "BaseException.__getattribute__" #[[.ref x,ic],[]]) Q E #[h,g,d,t,os]:=by
 have hk:builtinKind "BaseException.__getattribute__"=Fa .slot:=by decide+kernel
 have aaQ:splitId "BaseException.__getattribute__"=Fa ("BaseException","__getattribute__"):=by decide+kernel
 have ha:=PySem.F.args_bexc_ga (.ref x) ic;simp only[JD,hk,aaQ];refine FD ?_;unfold Zb
 repeat (first|(with_reducible refine Gz hx ?_;rw[hc])|(with_reducible refine wpAny_isSubtype_exc hC ?_;rw[hcB])|wp_step)
 exact hq
theorem DL (hcB:(FZ C::bm).contains (.type "BaseException")=FM) (l1:LA h bm "__getattribute__" (Fa (.builtin "BaseException.__getattribute__"))) (l2:LA h bm "__getattr__" FB) {Q:Fh->Fn->Prop}
  (hC:h.get? C=Fa (Ir nm q C N bs bm FM sn sub ab col dd k0 k1 k2 k3 k5 J9)) (hn:h.Ns N mN) (hng:mN "__getattribute__"=FB) (hnh:mN "__getattr__"=FB) (hna:mN name=FB)
  (hB:LA h bm name FB) (I:h.Inst x C mA) (hv:mA name=Fa v) (hh:handedOut v=pure v) (hq:Q v #[h,g,d,t+1,os]):
  FV (model prog w) A (Td (.ref x) name expr) Q E #[h,g,d,t,os]:=by
 obtain⟨o,hx,hc,_⟩:=id I;have f3:=wn.bind (.ref x);have hx0:(expr&&onTheHeap (L0 "BaseException.__getattribute__"))=FS:=by cases expr<;>rfl
 have hx2:(L0 "BaseException.__getattribute__" == L0 "object.__getattribute__")=FS:=by decide+kernel
 have hx1:(onTheHeap (FZ C)&&L0 "BaseException.__getattribute__" == L0 "object.__getattribute__")=FS:=by rw[hx2];rfl
 have hx3:onTheHeap (FZ C)=FM:=rfl;unfold Td getAttrBy
 repeat (any_goals (first|assumption|(with_reducible refine Gz hx ?_;rw[hc])|(with_reducible refine gZ hC hn (λ_=>l1) ?_;rw[hng])|(with_reducible refine gZ hC hn (λ_=>l2) ?_;rw[hnh])|wp_step))
 exact PM wn.plain PySem.F.entry_bexc_ga (yR hcB hC hx hc (yh hC hn hna hB I hv (by show FV _ _ (handedOut v) _ _ _;rw[hh];exact F7 hq)))
end
end OS
namespace OS
open PySem
section
open Builtin Builtin.ObjectAttr
variable {prog:Ga}{w:GN}{A:GV}{E:Fh->Fn->Prop}{h:GY}{g:Jw Q8}{d:Drawn}{t:FC}{os:OsState}
variable {nm q:FR}{C N x R:Fi}{bs bm:E9 Fh}{sn:E9 FR}{sub:E9 Fh}{ab:Gu}{col:Ft Gu}{dd:Ft Fi}{k0 k1 k2 k3 k5:Ft Fh}{J9:String}
 {mN mA:FR->Ft Fh}{name:FR}{v:Fh}{o:IW}{vs:Jw Fh}{sa owner B:String}
theorem DI {Q:Nc->Fn->Prop}(SF:Mx B bm sa owner) (hC:h.get? C=Fa (Ir nm q C N bs (.ref R::bm) FM sn sub ab col dd k0 k1 k2 k3 k5 J9)) (hx:h.get? x=Fa o) (hc:o.cls= .ref C) (z:Q () #[h,g,d,t,os]):
  FV M A (JD sa #[[.ref x,y,v],[]]) Q E #[h,g,d,t,os]:=by
 have u:(FZ C:: .ref R::bm).contains (.type owner)=FM:=by rw[GB,GB,SF.hasOwner,Qh,Qh]
 have ha:=SF.args (.ref x) y v;simp only[SF.split,SF.kind,JD];refine FD ?_;unfold Zb
 repeat (first|(with_reducible refine wpAny_isSubtype_exc hC ?_;rw[u])|(with_reducible refine Gz hx ?_;rw[hc])|wp_step)
 cases hs:Manifest.signature? sa with
 |none=>exact F7 z
 |some r=>
  simp only[argsOk,hs] at ha;show FV M A (XG sa r #[[.ref x,y,v],[]]) Q E _;rw[show XG sa r #[[.ref x,y,v],[]]=pure () from ha];exact F7 z
theorem Dj {Q:VX->Fn->Prop}(SF:Mx B bm sa owner) (hC:h.get? C=Fa (Ir nm q C N bs (.ref R::bm) FM sn sub ab col dd k0 k1 k2 k3 k5 J9)) (hn:h.Ns N mN) (hna:mN name=FB)
  (hB:LA h (.ref R::bm) name FB) (hx:h.get? x=Fa o) (hc:o.cls= .ref C) (hdn:o.dict=FB) (hfd:o.data= .fields vs)
  (hq: ∀h' T8,(∀b ob,b≠x->h.get? b=Fa ob->h'.get? b=Fa ob)->h'.get? x=Fa #[o.cls,Fa h.objs.size,o.data,o.slots]->h'.Ns1 h.objs.size (λy=>if y=name then Fa v else FB)->
   Q (.done (.ret .none)) #[h',g,d,T8,os]):
  FV (model prog w) A (Builtin.«object.__setattr__» #[[.ref x, .str name tk,v],[]]) Q E #[h,g,d,t,os]:=by
 have Wl:=SF.passes (.ref x);unfold Builtin.«object.__setattr__»
 repeat (first|rw[refuse_eq]|(rw[refuseLoop_ref,refuseLoop_ref,Wl])|(with_reducible refine Gz hx ?_;rw[hc])|with_reducible refine wpAny_mroOf_exc hC ?_|(with_reducible refine gZ hC hn (λ_=>hB) ?_;rw[hna])|wp_step)
 rw[hdn,Fj (by simp [typeHasDict])];split
 .rename_i z
  cases z
 split
 .rename_i c z
  rw[hfd] at z;cases z
 .have x1:(h.push { cls:= .type "dict",data:= .dict [].toArray }).get? x=Fa o:=Fz _ hx
  have ne:x≠h.objs.size:=Ha (FX hx);refine FD (wpAny_alloc' ?_);refine FD (wpAny_update' x1 ?_);refine F7 ?_
  have hgd:((h.push { cls:= .type "dict",data:= .dict [].toArray }).update x λo=> { cls:=o.cls,dict:=Fa h.objs.size,data:=o.data,slots:=o.slots }).get? h.objs.size
    =Fa { cls:= .type "dict",data:= .dict [].toArray } :=
   (UT _ _ _ _ ne.symm).trans (GY.get?_push_at Gc Gc)
  have Du:((h.push { cls:= .type "dict",data:= .dict [].toArray }).update x λo=> { cls:=o.cls,dict:=Fa h.objs.size,data:=o.data,slots:=o.slots }).Ns h.objs.size (λ_=>FB):=
   #[_, [].toArray,_,hgd,Gc,λe he=>FH he (by simp),λ_=>rfl]
  show FV _ _ (storeInDict h.objs.size (.str name tk) name v) _ _ _
  unfold storeInDict newKeyGuard;refine FD (F7 (FD (VI (O3 Du) λh' Yf hs=>?_)));obtain⟨oD,esD,epD,hoD,hdD,hcD⟩:=Yf.count (Zh name v Within.nil);refine FD (RC hoD (by rw[hdD];exact RD (FP hcD (by rw[FA,Kh,Ic];lia))) ?_)
  wp_walk
  refine hq h' _ (λb ob hb e=>?_) ?_ Yf
  .exact(hs.2 b (Ha (FX e))).trans ((UT _ _ _ _ hb).trans (Fz _ e))
  .refine(hs.2 x ne).trans (Jz _ x1 ?_)
   have Sj:=(GY.get?_some_iff.mp hx).2;obtain⟨oc,od,odt,WD⟩:=o;cases odt<;>first|rfl|exact Sj
theorem AE {Q:VX->Fn->Prop}(SF:Mx B bm sa owner) (hC:h.get? C=Fa (Ir nm q C N bs (.ref R::bm) FM sn sub ab col dd k0 k1 k2 k3 k5 J9)) (hn:h.Ns N mN) (hna:mN name=FB)
  (hB:LA h (.ref R::bm) name FB) (hx:h.get? x=Fa o) (hc:o.cls= .ref C) (Vf:o.dict=Fa dx) (hd:h.Ns1 dx mA) (hw:Within mA ns) (hsz:ns.length<=1000)
  (hq: ∀h' T8,(∀b ob,b≠dx->h.get? b=Fa ob->h'.get? b=Fa ob)->h'.Ns1 dx (λy=>if y=name then Fa v else mA y)->Q (.done (.ret .none)) #[h',g,d,T8,os]):
  FV (model prog w) A (Builtin.«object.__setattr__» #[[.ref x, .str name tk,v],[]]) Q E #[h,g,d,t,os]:=by
 have Wl:=SF.passes (.ref x);unfold Builtin.«object.__setattr__»
 repeat (first|rw[refuse_eq]|(rw[refuseLoop_ref,refuseLoop_ref,Wl])|(with_reducible refine Gz hx ?_;rw[hc])|with_reducible refine wpAny_mroOf_exc hC ?_|(with_reducible refine gZ hC hn (λ_=>hB) ?_;rw[hna])|wp_step)
 rw[Vf];refine F7 ?_;show FV _ _ (storeInDict dx (.str name tk) name v) _ _ _;unfold storeInDict newKeyGuard;refine FD (F7 (FD (VI hd λh' n' hs=>?_)));obtain⟨o1,es1,ep1,h1,d1,c1⟩:=n'.count (Zh name v hw);refine FD (RC h1 (by rw[d1];exact RD (FP c1 (by rw[FA,Ic];lia))) ?_)
 wp_walk
 exact hq h' _ (λb ob hb e=>(hs.2 b hb).trans e) n'
theorem wG {Q:Nc->Fn->Prop}(SF:Mx B bm sa owner) (hC:h.get? C=Fa (Ir nm q C N bs (.ref R::bm) FM sn sub ab col dd k0 k1 k2 k3 k5 J9)) (hn:h.Ns N mN) (hns:mN "__setattr__"=FB) (l:LA h (.ref R::bm) "__setattr__" (Fa (.builtin sa))) (hx:h.get? x=Fa o) (hc:o.cls= .ref C)
  (hq: ∀tk t,FV (model prog w) A.in1 (Builtin.«object.__setattr__» #[[.ref x, .str name tk,v],[]]) (λf s'=>f= .done (.ret .none)/\Q () s') (λ_ _=>False) #[h,g,d,t,os]):
  FV (model prog w) A (Te (.ref x) name v) Q E #[h,g,d,t,os]:=by
 have f3:=SF.slot.bind (.ref x);unfold Te callSpecial? specialOf
 repeat (any_goals (first|assumption|(with_reducible refine Gz hx ?_;rw[hc])|(with_reducible refine gZ hC hn (λ_=>l) ?_;rw[hns])|wp_step))
 refine PM SF.slot.plain SF.entry (DI SF hC hx hc (ID (hq _ _) (λf s' z=>?_) λ_ _ z=>z.elim));obtain⟨rfl,z⟩:=z
 repeat (any_goals (first|assumption|wp_step))
end
end OS
namespace OS
open PySem PySem.Spec L2
open PyProof.Rows hiding St
def Dr (H:Hp) (ch:E9 Fi):Hp:=λb=>if b∈ch then FB else H b
theorem e6 {H:Hp}(h:b∉ch):Dr H ch b=H b:=Fj h
theorem nF {H:Hp}(h:b∈ch):Dr H ch b=FB:=Fm h
theorem Bz {H:Hp}(h: ∀b∈ch,H b=FB):Dr H ch=H:=by
 funext b
 by_cases hb:b∈ch
 .rw[nF hb,h b hb]
 .exact e6 hb
theorem DD {H:Hp}{a:Fi}(I:aE X pins σ H s) (hex:X.ex=[])
  (L:zh (rK X.stack) ch a oe s.heap h') (T4: ∀b∈ch,X.PV.heap.objs.size<=b) (htr: ∀b∈ch,H b=FB\/ ∃φ,H b=Fa (.ext φ)):
  Un X.fs [] X.H_0 (Dr H ch) X.PV.heap h'/\ib X.prog X.w (Dr H ch) h':=by
 have old: ∀b o,X.PV.heap.get? b=Fa o->b∉ch:=λb o e hb=>FH (F5 (FX e) (T4 b hb)) (HZ _)
 have nex: ∀b,b∉X.ex:=λb hb=>by rw[hex] at hb;exact nomatch hb
 have nst: ∀b o,X.PV.heap.get? b=Fa o->b∉X.fs->b∉rK X.stack:=λb o e hb hs=>by
  rcases Fy.mp (I.R7 b hs) with z|z
  .rw[z] at e
   exact FH (F5 (FX e) I.ok.above) (HZ _)
  .exact hb z
 have AF: ∀b u,H b=Fa u->(∀φ,u≠ .ext φ)->b∉ch:=λb u e ne hb=>by
  rcases htr b hb with z|⟨φ,z⟩
  .rw[e] at z;cases z
  .rw[e] at z;exact ne φ (FG z)
 have eN: ∀b,b∈X.fs->b∈rK X.stack:=λb hb=>by
  rcases I.ok.Yd with e|⟨e,hf⟩
  .rw[e];exact hb
  .rw[e];unfold rK;rw[KL,hf];exact Fp _ hb
 refine#[#[λb o e n hb _=>?_,λb o e n hb _=>?_,λb o e n _=>?_,λb o e _=>?_,λb xs e=>?_,λb o u e=>?_,λb ps e=>?_],λx u q=>?_]
 .exact L.keep b o (nst b o e hb) (old b o e) (I.base.keep b o e n hb (nex b))
 .obtain⟨sl,z⟩:=I.base.slot b o e n hb (nex b)
  obtain⟨sl',z'⟩:=L.slot b _ (eN b hb) (old b o e) z;exact#[sl',z']
 .rw[e6 (old b o e)]
  exact I.base.free b o e n (nex b)
 .obtain⟨o',z⟩:=I.base.there b o e (nex b)
  exact L.there b o' z
 .have z:=I.base.Ra b xs e
  rw[e6 (AF b _ z λφ y=>nomatch y)]
  exact z
 .have z:=I.base.QO b o u e
  rw[e6 (AF b _ z λφ y=>nomatch y)]
  exact z
 .obtain⟨more,z⟩:=I.base.Rc b ps e
  exact#[more,by rw[e6 (AF b _ z λφ y=>nomatch y)];exact z]
 .have hx:x∉ch:=λz=>by rw[nF z] at q;cases q
  rw[e6 hx] at q;refine(I.Iu x u q).RZ (λb v hb e=>?_) (λb e=>?_) λb xs e=>?_
  .refine L.keep b v (λz=>?_) (λz=>?_) e
   .have y:=I.QH b z
    rcases hb with rfl|hb
    .rw[q] at y;cases y
    .rw[hb] at y;cases y
   .rcases hb with rfl|hb
    .exact hx z
    .exact AF b _ hb (λφ y=>nomatch y) z
  .rw[e6 (AF b _ e λφ y=>nomatch y)];exact e
  .rw[e6 (AF b _ e λφ y=>nomatch y)];exact e
def afX (C d a:Fi) (n:FC) (H:Hp) (h:GY):Prop:= ∃oe vs T oT ts,h.get? a=Fa oe/\oe.cls= .ref C/\oe.dict=Fa d/\oe.data= .fields vs/\vs[1]?=Fa (.ref T)/\n<=T/\T≠a/\H T=FB/\
 h.get? T=Fa oT/\oT.data= .fields ts/\ts[3]?=Fa .none
def fY (P:Ga) (w:GN):pP:=λouter H s E e s'=> ∃(C a d:Fi) (H':Hp),e= .ref a/\s'.os=s.os/\Qb s'.gens/\Un (rK outer) [] H H' s.heap s'.heap/\ib P w H' s'.heap/\
 s.heap.objs.size<=a/\H' a=FB/\afX C d a s.heap.objs.size H' s'.heap/\E (.ref C) (Fa d) H'
section
variable {P:Ga}{w:GN}{K:Fe}{mg:FR->Ft Fh}{base:GY}{H0:Hp}{E:XK}{CX:pP}
theorem sw {H:Hp}{a d:Fi}(I:aE (e8 CX P w K mg base N He scope f cd A outer s0 H0 E) pins σ H s)
  (L:zh (rK (JJ He scope s0.heap.objs.size f cd::outer)) ch a oe s.heap h') (T4: ∀b∈ch,s0.heap.objs.size<=b) (htr: ∀b∈ch,H b=FB\/ ∃φ,H b=Fa (.ext φ)) (ha:a∈ch)
  (hc:oe.cls= .ref C) (hd:oe.dict=Fa d) (hE:E (.ref C) (Fa d) (Dr H ch)):fY P w outer H0 s0 E (.ref a) { s with heap:=h' } :=by
 obtain⟨u,k⟩:=DD I Gc L T4 htr;obtain⟨vs,T,oT,ts,x1,x2,x3,x4,x5,x6,x7⟩:=L.fly;refine#[C,a,d,Dr H ch,Gc,I.os,I.bare,u,k,T4 a ha,nF ha,#[_,vs,T,oT,ts,x1,hc,hd,Gc,x2,FP I.sz x3,x4,?_,x5,x6,x7],hE];have z:=I.Iu.fresh x3;by_cases hT:T∈ch
 .exact nF hT
 .rw[e6 hT];exact z
theorem aA:dh (fY P w) (e8 (fY P w) P w K mg base N He scope f cd A outer s0 H0 E) E:=by
 intro pins σ H s e s' I h;obtain⟨C,a,d,H',rfl,os,bare,un,Iu,za,ha,⟨oe,vs,T,oT,ts,x1,x2,x3,x4,x5,x6,x7,x8,x9,x10,x11⟩,hE⟩:=h;have J:=I.Wg (ch:=[]) os un Iu bare (λb z=>nomatch z)
 have sz:=I.sz
 have ck: ∀b∈[a,T],H' b=FB:=λb hb=>by
  rcases Fy.mp hb with z|z
  .rw[z];exact ha
  .rw[FN.mp z];exact x8
 refine At (base:=base) J.ok.frames J.stack Gc x1 x4 x5 x7 x9 x10 x11 λh' L=>?_;refine sw J L (λb hb=>?_) (λb hb=> .inl (ck b hb)) Fq x2 x3 (by rw[Bz ck];exact hE);rcases Fy.mp hb with z|z
 .rw[z];exact FP sz za
 .rw[FN.mp z];exact FP sz x6
end
theorem fP {P:Ga}{w:GN}{K:Fe}{mg:FR->Ft Fh}{base:GY}{x He:FR}{st:Stmt}{f:Fi}{fd:Gs}{N ps:E9 FR}{k:FC}{sp:Sp}(F:oX K x He st f fd)
  (S:az N ps (af st)) (len: ∀vs H Q E,sp vs H Q E->vs.length=ps.length)
  (JG: ∀(GU:Fh) (A:GV) (outer:E9 Env) (s:Fn) (H:Hp) (vs:E9 V) (Q:VK) (E:XK),bZ k (A.deeper (JJ He (af st) s.heap.objs.size f GU))->sp vs H Q E->
   Bd (e8 (fY P w) P w K mg base N He (af st) f GU A outer s H E) (be st) { nx:=λ_ H'=>Q .IJ H',rt:=Q } (start N vs) H):bU P w K mg base (fY P w) (k+1) f fd ps sp:=by
 obtain⟨oc,od,kV,doc,pm,an,GU,ct,WD,rfl,lk,Sy⟩:=F.ex;exact Yl lk Sy S len λA outer s H vs Q E hr TR=>JG GU A outer s H vs Q E hr TR
theorem afY {R C:Fi} :Up (.ref R::c7) (.ref C:: .ref R::c7) "Exception":=
 #[by rw[GB,GB];rfl,by rw[GB,GB];rfl,by rw[GB,GB];rfl]
theorem AA {R C:Fi} :(FZ C:: .ref R::c7).contains (.type "BaseException")=FM:=by rw[GB,GB];rfl
theorem pK {E:Fh->Fn->Prop}{Q:Flow->Fn->Prop}(hh:A.handled=FB)
  (H:FV M A y (λv s1=> ∃e oe vs R C fI,v= .ref e/\XAt s1.heap R C fI/\s1.heap.get? e=Fa oe/\oe.cls= .ref C/\oe.data= .fields vs/\vs[1]?=Fa .none/\E (.ref e) s1) E s):
  FV M A (raiseStmt env (Fa y) FB) Q E s:=by
 unfold raiseStmt;refine FD (ID H (λv s1 h1=>?_) λ_ _ x=>x);obtain⟨e,oe,vs,R,C,fI,rfl,⟨Nn,mN,oI,NR,mR,⟨nm,q,bs,sn,sub,ab,col,dd,k0,k1,k2,k3,k5,hC⟩,_⟩,he,hc,hd,h1,hE⟩:=h1;have hcB:=AA (R:=R) (C:=C);obtain⟨hp,g,d,tk,os⟩:=s1
 repeat (first|(with_reducible refine Gz he ?_;rw[hc])|with_reducible refine Gz hC ?_|(with_reducible refine wpAny_isSubtype_exc hC ?_;rw[hcB])|with_reducible refine wpAny_field he hd h1 ?_|wp_step)
 exact wpAny_raiseNew_none hh hE
def qV (C p:Fi):HO:= .ext λh=> ∃T,h.get? p=Fa (dj C T)
def kg (C d p:Fi):HO:= .ext λh=> ∃o vs,h.get? p=Fa o/\o.cls= .ref C/\o.dict=Fa d/\o.data= .fields vs/\vs[1]?=Fa .none
def ci (d:Fi) (fs:E9 (FR×V)):HO:= .ext λh=> ∃mA,h.Ns1 d mA/\(∀f,fU (fs.lookup f) (mA f))/\N3 mA (fs.map (·.1))
def dQ (C:Fi) (g:E9 V->E9 (FR×V)->Prop):Sp:=λvs H Q _=> ∃(p:Fi) (us:E9 V) (fs:E9 (FR×V)),vs= .ref p::us/\g us fs/\H p=Fa (qV C p)/\
 ∀d,H d=FB->Q .IJ (aF (aF H d (ci d fs)) p (kg C d p))
def Cc (C:Fi) (g:E9 V->E9 (FR×V)->Prop) (E:XK) (t:TA):TS:=λ_ σ H=>t σ H λvs H1=>vs.length<=9/\ ∃fs,g vs fs/\ ∀d,H1 d=FB->E (.ref C) (Fa d) (aF H1 d (ci d fs))
def rc (X:Cx) (E:XK):Prop:= ∀(pins:E9 (Fi×IW)) (σ:St) (H:Hp) (s:Fn) (C d a:Fi),aE X pins σ H s->H a=Fa (kg C d a)->X.PV.heap.objs.size<=a->E (.ref C) (Fa d) (Dr H [a])->X.xe (.ref a) s
theorem eF {P:Ga}{w:GN}{K:Fe}{mg:FR->Ft Fh}{base:GY}{H0:Hp}{E:XK} :rc (e8 (fY P w) P w K mg base N He scope f cd A outer s0 H0 E) E:=by
 intro pins σ H s C d a I h z hE;obtain⟨⟨o,ws,x1,x2,x3,x4,x5⟩,_⟩:=I.Iu _ _ h;refine yZ (base:=base) I.ok.frames I.stack Gc x1 x4 x5 λh' L=>?_;refine sw I L (λb hb=>?_) (λb hb=>?_) Fq x2 x3 hE
 .rw[FN.mp hb]
  exact z
 .rw[FN.mp hb]
  exact .inr #[_,h]
section
variable {E:XK}{g:E9 V->E9 (FR×V)->Prop}
theorem nW {H1:Hp}(XR:rc X E) (XC:dD X.K R C fI) (F:bU X.prog X.w X.K X.mg X.base wX k fI fdI ps (dQ C g)) (hr:bZ (k+1) X.A) (hb:fZ X.K fdI ps [])
  (I1:aE X pins σ H1 s1) (r:aX vs us) (lv:vs.length<=9) (hg:g vs fs) (qE: ∀d,H1 d=FB->E (.ref C) (Fa d) (aF H1 d (ci d fs))):
  FV (model X.prog X.w) X.A (call (.ref C) us) (λv s1=> ∃e oe vs R C fI,v= .ref e/\XAt s1.heap R C fI/\s1.heap.get? e=Fa oe/\oe.cls= .ref C/\oe.data= .fields vs/\vs[1]?=Fa .none/\X.xe (.ref e) s1) X.xe s1:=by
 obtain⟨h1,g1,d1,t1,Wm⟩:=s1;obtain⟨Nn,mN,oI,NR,mR,⟨nm,q,bs,sn,sub,ab,col,dd,k0,k1,k2,k3,k5,hC⟩,hn,Xu,WK,hI,hIc,_⟩:=XC.at_ h1 I1.ND;have lu:us.length<=9:=by rw[<-r.length];exact lv
 have fr:H1 (h1.objs.size+1)=FB:=I1.Iu.fresh (Li _)
 have ge:((h1.push (ee us)).push (dj C h1.objs.size)).get? (h1.objs.size+1)=Fa (dj C h1.objs.size):=by heap_get
 have I2:aE X pins σ (aF H1 (h1.objs.size+1) (qV C (h1.objs.size+1))) ⟨(h1.push (ee us)).push (dj C h1.objs.size),g1,d1,t1,Wm⟩:=
  I1.laid (t':=t1) (λb u z=>Fz _ (Fz _ z)) (Li _) #[#[_,ge],#[_,ge],λ_ _ ⟨T,z⟩ y=>#[T,y _ z]]
 have r2:aX (V.ref (h1.objs.size+1)::vs) (FZ (h1.objs.size+1)::us):= .cons Gc r
 have TR:dQ C g (V.ref (h1.objs.size+1)::vs) (aF H1 (h1.objs.size+1) (qV C (h1.objs.size+1)))
   (λv H'=>v= .IJ/\ ∃d,(aF H1 (h1.objs.size+1) (qV C (h1.objs.size+1))) d=FB/\H'=aF (aF (aF H1 (h1.objs.size+1) (qV C (h1.objs.size+1))) d (ci d fs)) (h1.objs.size+1) (kg C d (h1.objs.size+1))) E0:=
  #[_,vs,fs,Gc,hg,ae,λd hd=>#[Gc,d,hd,Gc]]
 have hl:(FZ (h1.objs.size+1)::us++[]).length=ps.length:=by
  have z:=r2.length;rw[F.len _ _ _ _ TR] at z;rw[Hc];exact z.symm
 have bb:=hb #[(h1.push (ee us)).push (dj C h1.objs.size),g1,d1,t1,Wm] (FZ (h1.objs.size+1)::us) I2.ND hl;rw[Hc] at bb;refine QK (AM Q2 afY hC hn Xu hI hIc (Nl (F.run _ X.stack _ _ #[FZ (h1.objs.size+1)::us,[]] (FZ (h1.objs.size+1)::us) _ _ E0 (hr.make C us []) (I2.aaA.make C us []) bb r2 TR) λr s' UI=>?_) (by rw[Ic];lia))
 cases r with
 |error e=>exact UI.elim
 |ok fl=>
  cases fl with
  |next=>exact UI.elim
  |brk=>exact UI.elim
  |cont=>exact UI.elim
  |ret u=>
   obtain⟨v,H',I3,rv,ev,d,hd,eH⟩:=I2.after UI;subst ev;have np:d≠h1.objs.size+1:=λz=>by rw[z,ae] at hd;cases hd
   rw[ac np] at hd;have at3:H' (h1.objs.size+1)=Fa (kg C d (h1.objs.size+1)):=by rw[eH];exact ae
   obtain⟨⟨o,ws,x1,x2,x3,x4,x5⟩,_⟩:=I3.Iu _ _ at3;refine#[rv,_,o,ws,R,C,fI,Gc,XC.at_ _ I3.ND,x1,x2,x4,x5,XR pins σ H' _ C d _ I3 at3 (FP I1.sz (Li _)) ?_];have z:Dr H' [h1.objs.size+1]=aF H1 d (ci d fs):=by
    funext b
    by_cases hb:b=h1.objs.size+1
    .rw[nF (by rw[hb];exact Fq),hb,ac np.symm,fr]
    .rw[e6 (by simpa using hb),eH,ac hb]
     by_cases hbd:b=d
     .rw[hbd,ae,ae]
     .rw[ac hbd,ac hbd,ac hb]
   rw[z];exact qE d hd
theorem rM (XR:rc X E) (XC:dD X.K R C fI) (F:bU X.prog X.w X.K X.mg X.base wX k fI fdI ps (dQ C g)) (hr:bZ (k+1) X.A) (hg:Gl X x) (hm:X.mg x=Fa (.ref C)) (hb:fZ X.K fdI ps []) (ha:PA X (e::es) t)
  (R8:(x == [003])=FS:=by decide) (he:FK (e::es) X.env=[001]::FK es X.env:=by rfl) (MT:(IV LJ (FK es X.env)).any (·.1)=FS:=by rfl):
  PS X (.Raise (Fa (.Call (.Name x np) (e::es) [] LJ)) FB pos) (Cc C g E t):=by
 intro pins s σ H D I h;rw[arm_exec_Raise];refine FD (N7 (pK hr.hd (FD (b8 ?_ λv s1 hv=>FD (N7 (F7 hv))))));refine JI (ga I hg hm ?_ R8);refine KQ (h₀:=X.base) I.ok.mod.Vz XC.kp (b8 (ha LJ pins s σ H _ I h) λus s1 z=>?_) he MT;obtain⟨vs,H1,I1,r,lv,fs,hgv,qE⟩:=z;exact#[I1.ND,nW XR XC F hr hb I1 r lv hgv qE]
theorem eX (XR:rc X E) (XC:dD X.K R C fI) (F:bU X.prog X.w X.K X.mg X.base wX k fI fdI ps (dQ C g)) (hr:bZ (k+1) X.A) (hg:Gl X x) (hm:X.mg x=Fa (.ref C)) (hb:fZ X.K fdI ps [])
  (R8:(x == [003])=FS:=by decide):PS X (.Raise (Fa (.Call (.Name x np) [] [] LJ)) FB pos) (Cc C g E CS):=by
 intro pins s σ H D I h;obtain⟨lv,fs,hgv,qE⟩:=h;rw[arm_exec_Raise];refine FD (N7 (pK hr.hd (FD (b8 ?_ λv s1 hv=>FD (N7 (F7 hv))))));refine JI (ga I hg hm ?_ R8);exact Oy (I.ND) XC.kp (nW XR XC F hr hb I .nil lv hgv qE)
end
end OS
namespace OS
open Vbemac
def bR (c:Jc):Gu:=letter c||digit c
def eO (c:Jc):Gu:=c !=10
def aY (p:Jc->Gu) (bs:Gm) (i:FC):FC:=i+((bs.drop i).takeWhile p).length
theorem eY {bs:Gm}{i:FC}{c:Jc}(h:bs[i]?=Fa c):bs.drop i=c::bs.drop (i+1):=by
 obtain⟨hi,e⟩:=Gh.mp h;rw[Hs hi,e]
theorem kC {p:Jc->Gu}{bs:Gm}{i:FC}{c:Jc}(h:bs[i]?=Fa c) (hp:p c=FM):aY p bs i=aY p bs (i+1):=by
 unfold aY;rw[eY h,JU,Fm hp,FA];lia
theorem oh {p:Jc->Gu}{bs:Gm}{i:FC}{c:Jc}(h:bs[i]?=Fa c) (hp:p c=FS):aY p bs i=i:=by
 unfold aY;rw[eY h,JU,Fj (by rw[hp];exact Fd)]
 rfl
theorem k8 {p:Jc->Gu}{bs:Gm}{i:FC}(h:bs.length<=i):aY p bs i=i:=by
 unfold aY;rw[S7 h]
 rfl
theorem nO {p:Jc->Gu}{bs:Gm}{i:FC}(h:i<=bs.length):aY p bs i<=bs.length:=by
 unfold aY;have:=(E9.takeWhile_sublist p (l:=bs.drop i)).length_le;rw[LX] at this;lia
def part (bs:Gm) (i j:FC):Gm:=(bs.drop i).take (j-i)
theorem wT {p:Jc->Gu} : ∀l:Gm,l.takeWhile p=l.take (l.takeWhile p).length
 |[]=>rfl
 |a::l=>by
  rw[JU];split
  .rw[FA,E9.take_succ_cons,<-wT l]
  .rfl
theorem kt (p:Jc->Gu) (bs:Gm) (i:FC):(bs.drop i).takeWhile p=part bs i (aY p bs i):=by
 unfold part aY;rw[HW];exact wT _
theorem mz (p:Jc->Gu) (bs:Gm) (i:FC):(bs.drop i).drop ((bs.drop i).takeWhile p).length=bs.drop (aY p bs i):=by
 rw[OF]
 rfl
theorem iC: ∀(w:Gm) (p:Pos),(∀c∈w,c≠10)->moved p w=(p.1,p.2+w.length)
 |[],p,_=>rfl
 |c::w,p,h=>by
  show moved (advance p c) w=_
  rw[iC w _ λd hd=>h d (Fp _ hd)];unfold advance;rw[Fj (h c Fq),FA];show(p.1,p.2+1+w.length)=_;rw[Ss,KG 1]
theorem qP {p:Jc->Gu} : ∀(l:Gm),∀c∈l.takeWhile p,p c=FM
 |[],c,h=>nomatch h
 |a::l,c,h=>by
  rw[JU] at h;split at h
  .rename_i q
   rcases Fy.mp h with e|h
   .rw[e];exact q
   .exact qP l c h
  .exact nomatch h
theorem oC {p:Jc->Gu}(hp:p 10=FS) (bs:Gm) (i:FC) (q:Pos):moved q ((bs.drop i).takeWhile p)=(q.1,q.2+(aY p bs i-i)):=by
 rw[iC _ _ λc hc e=>by
  have:=qP _ c hc;rw[e,hp] at this;cases this]
 unfold aY;rw[HW]
section
variable {bs:Gm}{i k:FC}{c:Jc}{q:Pos}
theorem k6 (h:bs[i]?=Fa c) (hb:blank c=FM):lex (k+1) q (bs.drop i)=lex k (advance q c) (bs.drop (i+1)):=by
 rw[eY h,lex,Fm hb]
theorem iL (h:bs[i]?=Fa c) (hb:blank c=FS) (PL:c=35):
  lex (k+1) q (bs.drop i)=lex k (q.1,q.2+(aY eO bs i-i)) (bs.drop (aY eO bs i)):=by
 have e:=eY h
 have m:=oC (p:=eO) Gc bs i q
 have d:=mz eO bs i;rw[e] at m d;rw[e,lex,Fj (by rw[hb];exact Fd),Fm PL]
 show lex k (moved q ((c::bs.drop (i+1)).takeWhile eO)) ((c::bs.drop (i+1)).drop ((c::bs.drop (i+1)).takeWhile eO).length)=_
 rw[m,d]
theorem kc (h:bs[i]?=Fa c) (hb:blank c=FS) (PL: ¬c=35) (hl:letter c=FM):
  lex (k+1) q (bs.drop i)=if 24<aY bR bs i-i then [(.bad,q)] else(.word (part bs i (aY bR bs i)),q)::lex k (q.1,q.2+(aY bR bs i-i)) (bs.drop (aY bR bs i)):=by
 have e:=eY h
 have m:=oC (p:=bR) [01] bs i q
 have d:=mz bR bs i
 have t:=kt bR bs i
 have n:((bs.drop i).takeWhile bR).length=aY bR bs i-i:=by unfold aY;rw[HW]
 rw[e] at m d t n;rw[e,lex,Fj (by rw[hb];exact Fd),Fj PL,Fm hl];show(if 24<((c::bs.drop (i+1)).takeWhile bR).length then _ else(Tok.word ((c::bs.drop (i+1)).takeWhile bR),q)::lex k (moved q ((c::bs.drop (i+1)).takeWhile bR)) ((c::bs.drop (i+1)).drop ((c::bs.drop (i+1)).takeWhile bR).length))=_
 rw[m,d,n,t]
def qj (bs:Gm) (j:FC):Gu:=(bs[j]?).any letter
theorem zB (bs:Gm) (j:FC):(bs.drop j).head?=bs[j]?:=E9.head?_drop
theorem mv (h:bs[i]?=Fa c) (hb:blank c=FS) (PL: ¬c=35) (hl:letter c=FS) (hd:digit c=FM):
  lex (k+1) q (bs.drop i)=if 18<aY digit bs i-i\/qj bs (aY digit bs i)=FM then [(.bad,q)] else(.num (valueOf (part bs i (aY digit bs i))),q)::lex k (q.1,q.2+(aY digit bs i-i)) (bs.drop (aY digit bs i)):=by
 have e:=eY h
 have m:=oC (p:=digit) [01] bs i q
 have d:=mz digit bs i
 have t:=kt digit bs i
 have n:((bs.drop i).takeWhile digit).length=aY digit bs i-i:=by unfold aY;rw[HW]
 rw[e] at m d t n;rw[e,lex,Fj (by rw[hb];exact Fd),Fj PL,Fj (by rw[hl];exact Fd),Fm hd];show(if 18<((c::bs.drop (i+1)).takeWhile digit).length\/((((c::bs.drop (i+1)).drop ((c::bs.drop (i+1)).takeWhile digit).length).head?).any letter)=FM then _
  else(Tok.num (valueOf ((c::bs.drop (i+1)).takeWhile digit)),q)::lex k (moved q ((c::bs.drop (i+1)).takeWhile digit)) ((c::bs.drop (i+1)).drop ((c::bs.drop (i+1)).takeWhile digit).length))=_
 rw[m,d,n,t,zB]
 rfl
theorem n8 {n:FC}{x:Gm} : ∀(L:E9 Gm),(∀s∈L,s.length=n)->L.find? (λs=>x.take s.length == s)=if x.take n∈L then Fa (x.take n) else FB
 |[],_=>by simp
 |a::L,h=>by
  have ha:=h a Fq
  have ih:=n8 (n:=n) (x:=x) L λs hs=>h s (Fp _ hs)
  rw[Hj,ha];by_cases e:x.take n=a
  .rw[show(x.take n == a)=FM from by rw[e];exact G7 a,Fm (by rw[e];exact Fq),e]
  .rw[show(x.take n == a)=FS from beq_eq_false_iff_ne.mpr e]
   show L.find? _=_
   rw[ih];by_cases m:x.take n∈L
   .rw[Fm m,Fm (Fp _ m)]
   .rw[Fj m,Fj (λz=>(Fy.mp z).elim e m)]
def yb:E9 Gm:=SIGNS.take 7
def Bo:E9 Gm:=SIGNS.drop 7
theorem gh:SIGNS=yb++Bo:=(Tw 7 SIGNS).symm
theorem iH: ∀s∈yb,s.length=2:=by decide
theorem oJ: ∀s∈Bo,s.length=1:=by decide
theorem vW: ∀s∈SIGNS,∀d∈s,d≠10:=by decide
def bv (bs:Gm) (i:FC):FC:=if part bs i (i+2)∈SIGNS then i+(part bs i (i+2)).length else i+1
theorem gL (x:Gm):x∈SIGNS ↔ x∈yb\/x∈Bo:=by rw[gh];exact FY
theorem yS (h:bs[i]?=Fa c):(SIGNS.find? λs=>(bs.drop i).take s.length == s)=if part bs i (bv bs i)∈SIGNS then Fa (part bs i (bv bs i)) else FB:=by
 have e2:(bs.drop i).take 2=part bs i (i+2):=by unfold part;rw[HW]
 have e1:(bs.drop i).take 1=part bs i (i+1):=by unfold part;rw[HW]
 have l1:(part bs i (i+1)).length=1:=by rw[<-e1,eY h];rfl
 rw[gh,VL,n8 yb iH,n8 Bo oJ,e2,e1];by_cases m2:part bs i (i+2)∈yb
 .have n2:=iH _ m2
  have s2:part bs i (i+2)∈SIGNS:=(gL _).mpr (.inl m2)
  have se:bv bs i=i+2:=by unfold bv;rw[Fm s2,n2]
  rw[Fm m2,se,<-gh,Fm s2]
  rfl
 .have se:bv bs i=i+1:=by
   unfold bv;by_cases s2:part bs i (i+2)∈SIGNS
   .rw[Fm s2,oJ _ (((gL _).mp s2).resolve_left m2)]
   .rw[Fj s2]
  have n1: ¬part bs i (i+1)∈yb:=λz=>by
   have:=iH _ z;lia
  rw[Fj m2,se,<-gh,Ft.none_or];by_cases m1:part bs i (i+1)∈Bo
  .rw[Fm m1,Fm ((gL _).mpr (.inr m1))]
  .rw[Fj m1,Fj λz=>((gL _).mp z).elim n1 m1]
theorem o5 (h:bs[i]?=Fa c) (m:part bs i (bv bs i)∈SIGNS):(part bs i (bv bs i)).length=bv bs i-i:=by
 have e1:(part bs i (i+1)).length=1:=by unfold part;rw[HW,eY h];rfl
 unfold bv at m ⊢;split
 .rename_i s2
  rw[Fm s2] at m;rcases(gL _).mp s2 with z|z
  .rw[iH _ z,iH _ z];lia
  .rw[oJ _ z,e1];lia
 .rw[e1];lia
theorem jX (h:bs[i]?=Fa c) (hb:blank c=FS) (PL: ¬c=35) (hl:letter c=FS) (hd:digit c=FS):
  lex (k+1) q (bs.drop i)=if part bs i (bv bs i)∈SIGNS then(.sign (part bs i (bv bs i)),q)::lex k (q.1,q.2+(bv bs i-i)) (bs.drop (bv bs i)) else [(.bad,q)]:=by
 have f:=yS h
 have e:=eY h
 have hle:i<=bv bs i:=by unfold bv;split<;>lia
 have dd: ∀n,(bs.drop i).drop n=bs.drop (i+n):=λn=>OF
 rw[e] at f;rw[e,lex,Fj (by rw[hb];exact Fd),Fj PL,Fj (by rw[hl];exact Fd),Fj (by rw[hd];exact Fd),f];by_cases m:part bs i (bv bs i)∈SIGNS
 .rw[Fm m,Fm m]
  show _::lex k (moved q (part bs i (bv bs i))) ((c::bs.drop (i+1)).drop (part bs i (bv bs i)).length)=_
  rw[iC _ _ (vW _ m),o5 h m,<-e,dd,show i+(bv bs i-i)=bv bs i by lia]
 .rw[Fj m,Fj m]
theorem EG (h:bs.length<=i):lex (k+1) q (bs.drop i)=[(.eof,q)]:=by
 rw[S7 h,lex]
end
end OS
namespace OS
open Vbemac
open PySem (Str)
def f9:Tok->Prop
 | .word w=>w≠[]/\ ∀c∈w,bR c=FM
 | .sign s=>s∈SIGNS
 |_=>True
def Mid (x:Tok×Pos):Prop:=x.1≠ .eof/\x.1≠ .bad/\f9 x.1
def jy (x:Tok×Pos):Prop:=x.1= .eof\/x.1= .bad
def fL (t:MS):Prop:= ∃Xv x,t=Xv++[x]/\jy x/\ ∀y∈Xv,Mid y
theorem fL.one (h:jy x):fL [x]:=#[[],x,Gc,h,λ_ z=>nomatch z]
theorem fL.cons (h:Mid x) (w:fL t):fL (x::t):=by
 obtain⟨Xv,y,rfl,f,a⟩:=w;refine#[x::Xv,y,Gc,f,λz hz=>?_];rcases Fy.mp hz with e|hz
 .rw[e];exact h
 .exact a z hz
theorem fL.tail (w:fL (x::t)) (h: ¬jy x):Mid x/\fL t:=by
 obtain⟨Xv,y,e,f,a⟩:=w;cases Xv with
 |nil=>
  injection e with e1 e2;exact FH (e1▸f) h
 |cons z Xv=>
  injection e with e1 e2;exact#[e1▸a z Fq,Xv,y,e2,f,λv hv=>a v (Fp _ hv)]
theorem fL.ne (w:fL t):t≠[]:=by
 obtain⟨Xv,y,rfl,_⟩:=w;simp
theorem fK: ∀(k:FC) (q:Pos) (b:Gm),fL (lex k q b)
 |0,q,b=>by rw[lex];exact .one (.inl Gc)
 |k+1,q,[]=>by rw[lex];exact .one (.inl Gc)
 |k+1,q,c::r=>by
  have z:(c::r)[0]?=Fa c:=rfl
  have d0:(c::r).drop 0=c::r:=rfl;rw[<-d0];by_cases hb:blank c=FM
  .rw[k6 z hb];exact fK k _ _
  .have hb:blank c=FS:=by simpa using hb
   by_cases PL:c=35
   .rw[iL z hb PL];exact fK k _ _
   .by_cases hl:letter c=FM
    .rw[kc z hb PL hl]
     split
     .exact .one (.inr Gc)
     .refine .cons #[by simp,by simp,?_,?_] (fK k _ _)
      .rw[<-kt,d0,JU,Fm (by unfold bR;rw[hl];rfl)]
       simp
      .rw[<-kt];exact qP _
    .have hl:letter c=FS:=by simpa using hl
     by_cases hd:digit c=FM
     .rw[mv z hb PL hl hd]
      split
      .exact .one (.inr Gc)
      .exact .cons #[by simp,by simp,Hl] (fK k _ _)
     .have hd:digit c=FS:=by simpa using hd
      rw[jX z hb PL hl hd];split
      .rename_i m
       exact .cons #[by simp,by simp,m] (fK k _ _)
      .exact .one (.inr Gc)
theorem dS: ∀(k:FC) (q:Pos) (b:Gm),(lex k q b).length<=k+1
 |0,q,b=>by rw[lex];simp
 |k+1,q,[]=>by rw[lex];simp
 |k+1,q,c::r=>by
  have z:(c::r)[0]?=Fa c:=rfl
  have d0:(c::r).drop 0=c::r:=rfl;rw[<-d0];by_cases hb:blank c=FM
  .rw[k6 z hb];exact FP (dS k _ _) (by lia)
  .have hb:blank c=FS:=by simpa using hb
   by_cases PL:c=35
   .rw[iL z hb PL];exact FP (dS k _ _) (by lia)
   .by_cases hl:letter c=FM
    .rw[kc z hb PL hl]
     split
     .simp
     .rw[FA];exact Hi (dS k _ _)
    .have hl:letter c=FS:=by simpa using hl
     by_cases hd:digit c=FM
     .rw[mv z hb PL hl hd]
      split
      .simp
      .rw[FA];exact Hi (dS k _ _)
     .have hd:digit c=FS:=by simpa using hd
      rw[jX z hb PL hl hd];split
      .rw[FA];exact Hi (dS k _ _)
      .simp
theorem eu {a b:Gm}(h:sb a=sb b):a=b:=by
 have e:(a.map Nk).toArray=(b.map Nk).toArray:=Gq FR.cps h
 have e:a.map Nk=b.map Nk:=by simpa using e
 exact Vm (λx y q=>QL.mp q) |>.mp e
theorem xH: ∀a∈SIGNS,∀b∈SIGNS,dI a=dI b->a=b:=by decide+kernel
theorem zH: ∀a∈SIGNS,∀c,(dI a).cps[0]?=Fa c-> ∀d:FC,d<256->d=c->bR (OC d)=FS:=by
 have h: ∀a∈SIGNS,∀d:FC,d<256->(dI a).cps[0]?=Fa d->bR (OC d)=FS:=by decide+kernel
 intro a ha c hc d hd e;subst e;exact h a ha d hd hc
theorem tu {w s:Gm}(h0:w≠[]) (hw: ∀c∈w,bR c=FM) (hs:s∈SIGNS):sb w≠dI s:=λe=>by
 obtain⟨c,r,rfl⟩: ∃c r,w=c::r:=by cases w with|nil=>exact FH Gc h0|cons c r=>exact#[c,r,Gc]
 have f:=zH s hs c.toNat (by rw[<-e];rfl) c.toNat (WV c) Gc;rw[Vn,hw c Fq] at f;cases f
def vb:Tok->Ft FR
 | .word w=>Fa (sb w)
 | .sign s=>Fa (dI s)
 | .num _=>FB
 | .eof=>Fa (sb [])
 | .bad=>Fa (sb [])
def cV (x:FR) (w:Gm):Prop:=x=sb w/\w≠[]/\ ∀c∈w,bR c=FM
def d7 (x:FR) (s:Gm):Prop:=x=dI s/\s∈SIGNS
theorem CI: ∀s∈SIGNS,dI s≠sb []:=by decide+kernel
theorem AX (ok:f9 k) {w:Gm}(h:cV x w):vb k=Fa x ↔ k= .word w:=by
 obtain⟨rfl,h0,h1⟩:=h;constructor
 .intro e
  cases k with
  |word v=>exact Gq Tok.word (eu (FG e))
  |sign s=>exact FH (FG e).symm (tu h0 h1 ok)
  |num n=>cases e
  |eof=>exact FH (eu (FG e)).symm h0
  |bad=>exact FH (eu (FG e)).symm h0
 .intro e;subst e;rfl
theorem tK (ok:f9 k) (h:d7 x s):vb k=Fa x ↔ k= .sign s:=by
 obtain⟨rfl,hs⟩:=h;constructor
 .intro e
  cases k with
  |word v=>exact FH (FG e) (tu ok.1 ok.2 hs)
  |sign r=>exact Gq Tok.sign (xH r ok s hs (FG e))
  |num n=>cases e
  |eof=>exact FH (FG e).symm (CI s hs)
  |bad=>exact FH (FG e).symm (CI s hs)
 .intro e;subst e;rfl
end OS
namespace OS
abbrev ip (p q:PySem.Pos):Prop:=(p.endLine == q.line)=FM
open PySem PySem.Spec L2
open PyProof.Rows hiding St
theorem aT {X:Cx}{i:Int}{pos:Pos}(hg:Gl X x) (hm: ∃t,X.mg x=Fa (.int i t)) (hd:(x == [003])=FS:=by decide):PE X (.Name x pos) (tC (.int i)):=by
 obtain⟨t,hm⟩:=hm;exact qD hg hm #[t,Gc] hd
theorem afZ {X:Cx}{i:FR}{pos:Pos}(hg:Gl X x) (hm: ∃t,X.mg x=Fa (.str i t)) (hd:(x == [003])=FS:=by decide):PE X (.Name x pos) (tC (.str i)):=by
 obtain⟨t,hm⟩:=hm;exact qD hg hm #[t,Gc] hd
theorem ph.sq {K:Fe}{a:Fi}{H:Hp}(h:ph K a xs):pH K H a xs:= .inr h
theorem vX (r:Paired (λ(p:E9 a8×V) (q:E9 a8×Fi×Fh)=>p.1=q.1/\bh p.2 q.2.2) aD xs) (k:E9 a8):fU (bO aD k) ((Q9 xs k).map (·.2)):=by
 induction r with
 |nil=>exact Hl
 | @cons p q ps qs hq t ih=>
  unfold bO Q9 at*;rw[Hj,Hj];by_cases e:q.1=k
  .rw[show decide (p.1=k)=FM from GJ (hq.1.trans e),show decide (q.1=k)=FM from GJ e]
   exact hq.2
  .rw[show decide (p.1=k)=FS from Gb (λz=>e (hq.1.symm.trans z)),show decide (q.1=k)=FS from Gb e]
   exact ih
section
variable {td ty:TE}
def af0 (P:Ga) (w:GN) (K:Fe) (ty td:TE):TE:=λσ H Q=>ty σ H λy H1=>td σ H1 λx H2=> ∃a b k aD,x= .ref a/\zM P w K a aD/\y= .ref b/\H2 b=Fa (.tup (k.map kV))/\Q (.bl (bO aD k).isSome) H2
def aaR (P:Ga) (w:GN) (K:Fe) (td ty:TE):TE:=λσ H Q=>td σ H λx H1=>ty σ H1 λy H2=> ∃a b k aD v,x= .ref a/\zM P w K a aD/\y= .ref b/\H2 b=Fa (.tup (k.map kV))/\bO aD k=Fa v/\Q v H2
theorem vZ (hu:X.A.units+1<O5) (hi:PE X i ty) (ho:PE X o td):PC X .In i o (af0 X.prog X.w X.K ty td):=by
 rw[01];refine bin hi ho I h λv u s2 x y H2 I2 rx ry q=>?_;obtain⟨a,b,k,aD,ey,kd,ex,eb,q⟩:=q;subst ex;subst ey;cases rx;cases ry;obtain⟨xs,dd,rel⟩:=kd.at_;refine wpAny_in_heap (Kl hu) (jD I2.Iu eb) kd.no (dd _ I2.ND) ?_;have z:=(vX rel k).Mv;rw[Ig] at z;rw[<-z];exact#[.bl _,H2,I2.tok _,Gc,q]
theorem zT (hu:X.A.units+1<O5) (ho:PE X o td) (hi:PE X i ty) (hs:E1 i):PE X (.Subscript o i pos) (aaR X.prog X.w X.K td ty):=by
 rw[01];refine xu Q1.lookup hs (b8 (ho pins s σ H _ I h) λu s1 ⟨x,H1,I1,rx,q1⟩=>b8 (hi pins s1 σ H1 _ I1 q1) λiv s2 ⟨y,H2,I2,ry,a,b,k,aD,v',ex,kd,ey,eb,l,q⟩=>?_);subst ex;subst ey;obtain rfl:u=FZ a:=rx;obtain rfl:iv=FZ b:=ry;obtain⟨xs,dd,rel⟩:=kd.at_;have z:=vX rel k;rw[l] at z;obtain⟨w',hw,T6⟩:=fU.some_of z;obtain⟨p,hp,hp2⟩:=Gj.mp hw;have D:=dd _ I2.ND;refine#[D.typeIs,Y5 (Kl hu) (jD I2.Iu eb) D hp ?_];rw[hp2];exact#[v',H2,I2.tok _,T6,q]
end
section
variable {X:Cx}{st:Stmt}{t:TS}
def af1 (t:TS):TS:=λD σ H=> ∃J:L2.St->Hp->Prop,t { D with nx:=J } σ H/\ ∀σ' H',J σ' H'->D.nx σ' H'
theorem DG (h:PS X st t):PS X st (af1 t):=by
 intro pins s σ H D I h0;obtain⟨J,h1,h2⟩:=h0;refine b8 (h pins s σ H { D with nx:=J } I h1) λf s1 q=>?_;cases f with
 |next=>
  obtain⟨σ',H',I',q⟩:=q;exact#[σ',H',I',h2 _ _ q]
 |brk=>exact q
 |cont=>exact q
 |ret u=>exact q
end
theorem kZ:gI X (.builtin "isinstance") (λxs H Q=> ∃(x:V) (C:Fi) (t:Fh) (b:Gu),xs=[x, .ref C]/\jI X.K H x t/\HK X.K t (.ref C)=Fa b/\Q (.bl b) H):=by
 intro pins s σ H xs us Q I r h;obtain⟨x,C,t,b,rfl,ty,e,q⟩:=h;obtain⟨u1,u2,rfl,r1,r2⟩:=vals2 r;cases r2;exact yH I r1 ty e λtk=>#[.bl b,H,I.tok _,Gc,q]
theorem yn.of {K:Fe}{H:Hp}(t:yn K C) (e:H p=Fa (.ins C dx fs)):jI K H (.ref p) (.ref C):= .ins e t.cl t.ha t.hn t.htk t.hm
theorem bA {α β:Type}{F:α->β->Prop} : ∀ {l:E9 α}{m:E9 β},Paired F l m->l.length=m.length
 |_,_, .nil=>rfl
 |_,_, .cons r t=>Gq (· +1) (bA t)
def aaS (N P:E9 FR) (sc:Scope):Prop:=sc.kind= .function/\sc.isCoroutine=FS/\sc.isGenerator=FS/\N.Nodup/\N.take P.length=P/\(∀x∈P,sc.names.lookup x=Fa .local\/sc.names.lookup x=Fa .cell)/\ ∀y∈sc.names,y.2≠ .free
instance (N P:E9 FR) (sc:Scope):Decidable (aaS N P sc):=by unfold aaS;infer_instance
theorem aw {N P:E9 FR}(h:aaS N P sc):az N P sc:=#[h.1,h.2.1,h.2.2.1,h.2.2.2.1,h.2.2.2.2.1,h.2.2.2.2.2.1,h.2.2.2.2.2.2]
end OS
namespace OS
open PySem PySem.Spec L2
open PyProof.Rows hiding St
def _root_.L2.eA.to (D:eA) (X:Cx) (ss:E9 Stmt):eA:= { D with nx:=λσ H=>Bd X ss D σ H }
theorem eM {x m:FR}{p1 p2 p4:Pos}(hp:ip p2 p4) (hf:methodCallForm (args.length+0) (IV p4 (FK args env)) (KR p4 (Jq [] env))=FM):
  eval (.Call (.Attribute (.Name x p1) m p2) args [] p4) env=(do
   let ov<-eval (.Name x p1) env
   standAt p2.atName
   let (f,first)<-holding [ov] (K7 ov m (do return (<-PQ (.Name x p1) env).getD FM))
   NN p4 f first (IV p4 (FK args env)) (KR p4 (Jq [] env))):=by
 show(do
   let ov<-eval (.Name x p1) env
   standAt p2.atName
   methodCall (.Name x p1) m p2 p4 env ov (args.length+0) (IV p4 (FK args env)) (KR p4 (Jq [] env)))=_
 unfold methodCall calleeOf methodCallPos;rw[hf,hp]
 rfl
section
variable {H:Hp}{t:TS}
theorem iu:uo X ss (λD σ H=>Bd X ss D σ H):=λpins s σ H D I h=>by
 obtain⟨t,h,q⟩:=h;exact h pins s σ H D I q
theorem aR (h:PS X s t) (q:t (D.to X ss) σ H):Bd X (s::ss) D σ H:=#[_,ax h iu,q]
theorem d8 (h:PS X s t) (q:t D σ H):Bd X [s] D σ H:=#[_,aj h,q]
theorem cf (q:D.nx σ H):Bd X [] D σ H:=#[_,bo,q]
end
inductive Pe (X:Cx) (e:HH) (σ:L2.St) (H:Hp) (Q:VK):Prop
 |mk (t:TE) (_:PE X e t) (_:t σ H Q):Pe X e σ H Q
inductive Pt (X:Cx) (e:HH) (σ:L2.St) (H:Hp) (Q:Gu->Hp->Prop):Prop
 |mk (t:TT) (_:PT X e t) (_:t σ H Q):Pt X e σ H Q
inductive Pa (X:Cx) (e:E9 HH) (σ:L2.St) (H:Hp) (Q:E9 V->Hp->Prop):Prop
 |mk (t:TA) (_:PA X e t) (_:t σ H Q):Pa X e σ H Q
section
variable {H:Hp}{t:TS}{Q:VK}{R:Gu->Hp->Prop}
theorem du:PE X e (λσ H Q=>Pe X e σ H Q):=λpins s σ H Q I h=>by
 obtain⟨t,h,q⟩:=h;exact h pins s σ H Q I q
theorem jp:PT X e (λσ H Q=>Pt X e σ H Q):=λpins s σ H Q I h=>by
 obtain⟨t,h,q⟩:=h;exact h pins s σ H Q I q
theorem sX:PA X es (λσ H Q=>Pa X es σ H Q):=λpos pins s σ H Q I h=>by
 obtain⟨t,h,q⟩:=h;exact h pos pins s σ H Q I q
structure Sl (X:Cx) (i:FC) (y:FR):Prop where
 hi:X.N[i]?=Fa y
 hx:Loc X.env.scope y
 hf:X.fn y=FM
theorem aN (i:FC) (nd:X.N.Nodup) (q:Pe X e σ H λv H'=>Bd X ss D (σ.set i (Fa v)) H') (h:Sl X i y:=by exact#[Gc,G9 Gc,Gc]) (hs:LL e (Fa (.Name y p0)) p5.line X.env=pure FS:=by rfl):Bd X (.Assign [.Name y p0] e p5::ss) D σ H:=
 aR (cC nd h.hi h.hx du hs (.inl h.hf)) q
theorem bD (q:Pe X e σ H λ_ H'=>Bd X ss D σ H') (hs:LL e FB p5.line X.env=pure FS:=by rfl):Bd X (.Expr e p5::ss) D σ H:=aR (bj du hs) q
theorem aM (q:Pe X e σ H D.rt):Bd X (.Return (Fa e) p5::ss) D σ H:=aR (aJ du) q
theorem bH (q:Pt X e σ H λb H'=>if b=FM then Bd X A (D.to X ss) σ H' else Bd X ss D σ H'):Bd X (.If e A [] p5::ss) D σ H:=aR (cv jp iu bo) q
theorem gj (N:L2.St->Hp->Prop) (rest: ∀σ H,N σ H->Bd X ss D σ H) (q:Pt X e σ H λb H'=>if b=FM then Bd X A { D with nx:=N } σ H' else N σ H'):Bd X (.If e A [] p5::ss) D σ H:=aR (DG (cv jp iu bo)) #[N,q,rest]
theorem ur (q:Bd X ss D σ H):Bd X [] (D.to X ss) σ H:=cf q
theorem dq (q:Pe X e σ H (uP R)) (he: ∀whole,isTrue e X.env whole=(do let v<-whole;standAt e.pos;holding [v] (truthy v)):=by intro _;rfl):Pt X e σ H R:=#[_,cZ du he,q]
theorem jn (q:Pt X e σ H λb H'=>R (!b) H'):Pt X (.UnaryOp .Not e p1) σ H R:=#[_,ld jp,q]
theorem Cj {f:HH}(q:Pt X e σ H λb H'=>if b=FM then Pt X f σ H' R else R FS H'):Pt X (.BoolOp .And [e,f] p1) σ H R:=#[_,(rA jp (me jp)).pt,q]
theorem af2 {f:HH}(q:Pt X e σ H λb H'=>if b=FM then R FM H' else Pt X f σ H' R):Pt X (.BoolOp .Or [e,f] p1) σ H R:=#[_,(wS jp (rD jp)).pt,q]
theorem Yp {x:FR}(q:Q (.str x) H):Pe X (.Constant (.str x) j p1) σ H Q:=#[_,dH,q]
theorem cN {x:Int}(q:Q (.int x) H):Pe X (.Constant (.int x) j p1) σ H Q:=#[_,ak,q]
theorem mB (q:Q .IJ H):Pe X (.Constant .none j p1) σ H Q:=#[_,aas,q]
theorem cF {Q:E9 V->Hp->Prop}(q:Q [] H):Pa X [] σ H Q:=#[_,ag,q]
theorem aP {Q:E9 V->Hp->Prop}(q:Pe X e σ H λv H1=>Pa X es σ H1 λvs H2=>Q (v::vs) H2) (hs:FK (e::es) X.env=[001]::FK es X.env:=by rfl):Pa X (e::es) σ H Q:=#[_,aa du sX hs,q]
theorem bB (i:FC) {x:FR}(q:lr i σ H Q) (hN:X.N[i]?=Fa x:=by rfl) (hv:oU X.env.scope x:=by exact G9 Gc) (hd:(x == [003])=FS:=by decide) (Sy:(x == ("__classdict__":FR))=FS:=by decide):Pe X (.Name x p1) σ H Q:=#[_,dR hN hv hd Sy,q]
end
theorem Pt.mono {X:Cx}{e:HH}{σ:L2.St}{H:Hp}{Q Q':Gu->Hp->Prop}(h:Pt X e σ H Q) (im: ∀b H,Q b H->Q' b H):Pt X e σ H Q':=by
 obtain⟨t,ht,q⟩:=h;refine#[λσ H Q'=> ∃Q:Gu->Hp->Prop,(∀b H,Q b H->Q' b H)/\t σ H Q,λpins s σ H Q' I h=>?_,Q,im,q];obtain⟨Q,im,q⟩:=h;exact b8 (ht pins s σ H Q I q) λc s' ⟨H',I',q⟩=>#[H',I',im _ _ q]
theorem Pe.mono {X:Cx}{e:HH}{σ:L2.St}{H:Hp}{Q Q':VK}(h:Pe X e σ H Q) (im: ∀b H,Q b H->Q' b H):Pe X e σ H Q':=by
 obtain⟨t,ht,q⟩:=h;refine#[λσ H Q'=> ∃Q:VK,(∀b H,Q b H->Q' b H)/\t σ H Q,λpins s σ H Q' I h=>?_,Q,im,q];obtain⟨Q,im,q⟩:=h;exact b8 (ht pins s σ H Q I q) λc s' ⟨v,H',I',r,q⟩=>#[v,H',I',r,im _ _ q]
inductive aaT (I:FC->L2.St->Hp->Prop) (m:FC) (σ:L2.St) (H:Hp):Prop
 |mk (k:FC) (_:k<m) (_:I k σ H):aaT I m σ H
def _root_.L2.eA.lp (D:eA) (X:Cx) (ss:E9 Stmt) (N:L2.St->Hp->Prop):eA:= { D.to X ss with nx:=N,ct:=N,bk:=(D.to X ss).nx }
inductive isApp (L:Fi) (R:Hp->Prop) (v:V) (H:Hp):Prop
 |mk (xs:E9 V) (_:H L=Fa (.lst xs)) (_:xs.length<F8) (_:R (aF H L (.lst (xs++[v])))):isApp L R v H
section
variable {X:Cx}{ss A:E9 Stmt}{D:eA}{σ:L2.St}{H:Hp}{e f c:HH}{es:E9 HH}{Q:VK}{R:Gu->Hp->Prop}{N:L2.St->Hp->Prop}{x y:FR}{p0 p1 p2 p3 p4 p5:Pos}{i:FC}{L:Fi}{xs:E9 V}{te:TE}
theorem fS (hp:P8 (model X.prog X.w) X.A X.env X.xe) (I:FC->L2.St->Hp->Prop) (m:FC) (h0:I m σ H) (hs: ∀m σ H,I m σ H->Pt X c σ H λb H1=>if b=FM then Bd X A (D.lp X ss (aaT I m)) σ H1 else Bd X ss D σ H1):Bd X (.While c A [] p5::ss) D σ H:=by
 refine aR (iD hp jp iu) #[I,#[m,h0],λm σ H h=>(hs m σ H h).mono λb H1 z=>?_];cases b with
 |true=>exact#[aaT I m,λσ' H' ⟨k,h1,h2⟩=>#[k,h1,h2],z]
 |false=>exact z
theorem gm (q:N σ H):Bd X [] (D.lp X ss N) σ H:=cf q
theorem Dk (q:D.bk σ H):Bd X (.Break p5::A) D σ H:=aR Dc q
theorem jK (i:FC) (hp:P8 (model X.prog X.w) X.A X.env X.xe) (nd:X.N.Nodup) (he:PE X e te) (hv: ∀R:VK,R (.ref L) H->te σ H R) (I:FC->L2.St->Hp->Prop) (h0:I 0 σ H) (hL: ∀j σ H,j<=xs.length->I j σ H->H L=Fa (.lst xs))
  (hs: ∀j x σ H,xs[j]?=Fa x->I j σ H->Bd X A (D.lp X ss (I (j+1))) (σ.set i (Fa x)) H) (hd: ∀σ H,I xs.length σ H->Bd X ss D σ H) (hc:X.calm=FM:=by rfl) (h:Sl X i y:=by exact#[Gc,G9 Gc,Gc]) (hf: ∀x,L4 e X.env x=pure x:=by intro _;rfl):Bd X (.For (.Name y p0) e A [] p5::ss) D σ H:=
 aR (vo hp hc (j3 he) (jc nd h.hi h.hx (.inl h.hf)) iu hf) (hv _ #[L,Gc,#[_,cB.of (hL 0 σ H (F3 _) h0)],sI I h0 (λj σ H hj h=>cB.of (hL j σ H hj h)) hs hd])
theorem uW (q:Pa X es σ H (Bm Q)):Pe X (.List es p1) σ H Q:=#[_,fR sX,q]
theorem mq (q: ∀L,H L=FB->Q (.ref L) (aF H L (.lst []))):Pe X (.List [] p1) σ H Q:=uW (cF #[F3 _,q])
theorem iA (hl:X.mg "len"=FB) (hL:H L=Fa (.lst xs)) (he:PE X e te) (hv: ∀Q:VK,Q (.ref L) H->te σ H Q) (q:Q (.int xs.length) H) (hg:Gl X "len":=by rfl) (Kq:FK [e] X.env=[[001]]:=by rfl):Pe X (.Call (.Name "len" p1) [e] [] p2) σ H Q:=
 #[_,bw bJ hg hl HN (aa he ag Kq) [01] [01] Kq Gc,hv _ #[L,xs,Gc, .inl (cB.of hL),q]]
theorem cO {r:R2}(ho:ku X (Ii op) r) (q:Pe X e σ H λx H1=>Pe X f σ H1 λy H2=>r x y H2 (uP R)) (hm:behindInMarks op f=FS:=by exact aL _):Pt X (.Compare e [op] [f] p1) σ H R:=#[_,a0 ho du du hm,q]
theorem CP {r:R2}(ho:ku X (OA op) r) (q:Pe X e σ H λx H1=>Pe X f σ H1 λy H2=>r x y H2 Q):Pe X (.BinOp e op f p1) σ H Q:=#[_,bW ho du du,q]
theorem iN (he:PE X e te) (hv: ∀R:VK,R (.ref L) H->te σ H R) (hL:H L=Fa (.lst xs)) (q:Pe X f σ H (isApp L λH'=>Bd X ss D σ H')) (hb:IA e "append" X.env (eval e X.env)=eval e X.env:=by rfl) (Kq:FK [f] X.env=[(FS,eval f X.env)]:=by rfl) (hp:ip p2 p4:=by rfl):
  Bd X (.Expr (.Call (.Attribute e "append" p2) [f] [] p4) p5::ss) D σ H:=by
 refine bD #[_,xi Jj KA KC i9 he (aa du ag Kq) hb (by rw[Kq];rfl) hp Kq Gc,hv _ #[.inl #[Gc,_,cB.of hL],q.mono λv H1 z=>?_]];obtain⟨xs',h1,h2,h3⟩:=z;exact#[L,xs',v,Gc,Gc,h1,h2,h3]
end
theorem okL {P:Ga}{w:GN}{K:Fe}{mg:FR->Ft Fh}{base:GY}{x He:FR}{st:Stmt}{f:Fi}{fd:Gs}{N ps:E9 FR}{k:FC}{sp:Sp}(F:oX K x He st f fd)
  (S:az N ps (af st)) (len: ∀vs H Q E,sp vs H Q E->vs.length=ps.length)
  (JG: ∀(GU:Fh) (A:GV) (outer:E9 Env) (s:Fn) (H:Hp) (vs:E9 V) (Q:VK) (E:XK),bZ k (A.deeper (JJ He (af st) s.heap.objs.size f GU))->sp vs H Q E->
   let X:=e8 (fY P w) P w K mg base N He (af st) f GU A outer s H E
   let D:eA:= { nx:=λ_ H'=>Q .IJ H',rt:=Q }
   Bd X (be st) D (start N vs) H):bU P w K mg base (fY P w) (k+1) f fd ps sp:=fP F S len JG
section
variable {H:Hp}{Q:VK}{R:Gu->Hp->Prop}{sp:Sp}{CX:pP}{E:XK}
theorem cr (q:Pt X e σ H λb H'=>if b=FM then Bd X A D σ H' else Bd X B D σ H'):Bd X [.If e A B p5] D σ H:=d8 (cv jp iu iu) q
theorem aaU {Z:Prop}(T9:Z->Bd X B D σ H) (q:(Z->Bd X B D σ H)->Pt X e σ H λb H'=>if b=FM then Bd X A D σ H' else Bd X B D σ H'):Bd X [.If e A B p5] D σ H:=cr (q T9)
theorem fk (q:Pe X e σ H λ_ H'=>D.nx σ H') (hs:LL e FB p5.line X.env=pure FS):Bd X [.Expr e p5] D σ H:=d8 (bj du hs) q
theorem cn (q:Pe X e σ H (dC X.K y Q)) (hb:IA e y X.env (eval e X.env)=eval e X.env):Pe X (.Attribute e y p1) σ H Q:=#[_,ah du hb,q]
theorem kN (q:Pe X e σ H λv H1=>Pe X f σ H1 λu H2=>AZ X.K v u H2 Q) (hs:qN f):Pe X (.Subscript e f p1) σ H Q:=#[_,cM bC du du hs,q]
theorem bL (q:Pa X (e::es) σ H λvs H1=>sp (vs++[]) H1 Q E) (G:bU X.prog X.w X.K X.mg X.base CX k fa fd ps sp) (hr:bZ k X.A) (d:CD X.K X.mg x fa fd ps) (up:dh CX X E) (hg:Gl X x:=by rfl) (hx:(x == [003])=FS:=by decide) (he:FK (e::es) X.env=[001]::FK es X.env:=by rfl) (MT:(IV p4 (FK es X.env)).any (·.1)=FS:=by rfl):
  Pe X (.Call (.Name x p1) (e::es) [] p4) σ H Q:=#[_,aG G hr hg d up sX hx he MT,q]
theorem jm (q:Pe X e σ H λv H1=>Pe X f σ H1 λu H2=> ∃i j,v= .int i/\u= .int j/\R (decide (i=j)) H2):Pt X (.Compare e [.Eq] [f] p1) σ H R:=cO b9 (q.mono λv H1 q=>q.mono λu H2 ⟨i,j,h1,h2,q'⟩=>by
 subst h1 h2;exact#[Gc,_,Gc,by rw[show decide (V.int i=V.int j)=decide (i=j) from decide_eq_decide.mpr #[λy=>V.int.inj y,λy=>by rw[y]]];exact q']) (aL _)
end
theorem dA {c:Prop} [Decidable c] {A B:Prop}(h1:c->A) (h2: ¬c->B):if decide c=FM then A else B:=by
 by_cases h:c
 .rw[Fm (GJ h)];exact h1 h
 .rw[Fj (by rw[Gb h];exact Fd)];exact h2 h
abbrev kR:=Fi×HO
structure Ow (B:Hp) (L:E9 kR) (H:Hp):Prop where
 same:aS B H
 at_: ∀x∈L,H x.1=Fa x.2/\B x.1=FB
 nd:(L.map λx:kR=>x.1).Nodup
section
variable {B H H':Hp}
theorem Ow.get (O:Ow B L H) (i:FC) {x:kR}(h:L[i]?=Fa x):H x.1=Fa x.2:=(O.at_ x (G8 h)).1
theorem Ow.grow (O:Ow B L H) (k:aS H H'):Ow B L H':=#[λb o e=>k b o (O.same b o e),λx h=>#[k _ _ (O.at_ x h).1,(O.at_ x h).2],O.nd]
theorem Ow.sub (O:Ow B L H) (h:L'.Sublist L):Ow B L' H:=#[O.same,λx z=>O.at_ x (h.subset z),O.nd.sublist (h.map _)]
theorem Ow.perm (O:Ow B L H) (h:L.Perm L'):Ow B L' H:=#[O.same,λx z=>O.at_ x (h.mem_iff.mpr z),(h.map _).nodup_iff.mp O.nd]
theorem Ow.set (O:Ow B (L1++(p,o)::L2) H) (e:H' p=Fa o') (k: ∀b u,H b=Fa u->b≠p->H' b=Fa u):Ow B (L1++(p,o')::L2) H':=by
 have nd:=O.nd;rw[Hk,FQ] at nd
 have z:=Ln.mp nd
 have bp:=(O.at_ (p,o) (Hm _ Fq)).2;refine#[λb u h=>k b u (O.same b u h) λz=>(by rw[z,bp] at h;cases h),λx h=>?_,by rw[Hk,FQ];exact nd]
 rcases FY.mp h with h|h
 .have h1:=O.at_ x (Md _ h)
  exact#[k _ _ h1.1 λy=>z.2.2 x.1 (KN h) p Fq y,h1.2]
 .rcases Fy.mp h with h|h
  .rw[h];exact#[e,bp]
  .have h1:=O.at_ x (Hm _ (Fp _ h))
   exact#[k _ _ h1.1 λy=>(Gk.mp z.2.1).1 (by have h3:=KN (f:=λx:kR=>x.1) h;rw[y] at h3;exact h3),h1.2]
theorem mC: ∀b u,H b=Fa u->b≠p->aF H p o b=Fa u:=λb u e n=>by rw[ac n];exact e
theorem Ow.put (O:Ow B (L1++(p,o)::L2) H):Ow B (L1++(p,o')::L2) (aF H p o'):=O.set ae mC
theorem Ow.adds (O:Ow B L H) (k:aS H H') (h: ∀x∈N,H x.1=FB/\H' x.1=Fa x.2) (nd:(N.map λx:kR=>x.1).Nodup):Ow B (N++L) H':=by
 have hB: ∀ {b:Fi},H b=FB->B b=FB:=λ{b} e=>by
  cases z:B b with
  |none=>rfl
  |some o=>rw[O.same b o z] at e;cases e
 refine#[λb o e=>k b o (O.same b o e),λx z=>?_,?_]
 .rcases FY.mp z with z|z
  .exact#[(h x z).2,hB (h x z).1]
  .exact#[k _ _ (O.at_ x z).1,(O.at_ x z).2]
 .rw[Hk]
  refine Ln.mpr #[nd,O.nd,λa ha b hb z=>?_];obtain⟨x,hx,rfl⟩:=Lr.mp ha;obtain⟨y,hy,rfl⟩:=Lr.mp hb;have:=(O.at_ y hy).1;rw[<-z,(h x hx).1] at this;cases this
end
abbrev cD.O {K:Fe}{mg:FR->Ft Fh}{n:FR}{st:Stmt}{ps:E9 FR}{f:Fi}{fd:Gs}(_:cD K mg n st ps f fd) (P:Ga) (w:GN) (base:GY) (k:FC) (sp:Sp):Prop:=bU P w K mg base (fY P w) k f fd ps sp
abbrev cD.U {K:Fe}{mg:FR->Ft Fh}{n:FR}{st:Stmt}{ps:E9 FR}{f:Fi}{fd:Gs}(_:cD K mg n st ps f fd) (P:Ga) (w:GN) (base:GY) (k:FC) (sp:Sp):Prop:=bU P w K mg base wX k f fd ps sp
abbrev eG.O {K:Fe}{C:Fi}{n q:FR}{st:Stmt}{ps:E9 FR}{f:Fi}{fd:Gs}(_:eG K C n q st ps f fd) (P:Ga) (w:GN) (mg:FR->Ft Fh) (base:GY) (k:FC) (sp:Sp):Prop:=bU P w K mg base (fY P w) k f fd ps sp
abbrev eG.U {K:Fe}{C:Fi}{n q:FR}{st:Stmt}{ps:E9 FR}{f:Fi}{fd:Gs}(_:eG K C n q st ps f fd) (P:Ga) (w:GN) (mg:FR->Ft Fh) (base:GY) (k:FC) (sp:Sp):Prop:=bU P w K mg base wX k f fd ps sp
abbrev cA (s:Stmt) (l:E9 FR):Prop:=az l l (af s)
theorem af3:cA abR ["self","worth"]:=aw [00]
theorem af4:cA abS ["self","name"]:=aw [00]
theorem af5:cA abT ["self","name","arguments"]:=aw [00]
theorem af6:cA abU ["self","sign","operand"]:=aw [00]
theorem af7:cA abV ["self","strength","operands","signs"]:=aw [00]
theorem af8:cA abW ["self","condition","chosen","otherwise"]:=aw [00]
theorem af9:cA abX ["self","name","first","last","body"]:=aw [00]
theorem aga:cA abY ["self","name","exp"]:=aw [00]
theorem agb:cA abZ ["self","name","first","last","statements"]:=aw [00]
theorem agc:cA ab0 ["self","condition","statements","else_statements"]:=aw [00]
theorem agd:cA ab1 ["self","side","zone","quarter","price","to_price","amount"]:=aw [00]
theorem age:cA ab2 ["self","name","exp"]:=aw [00]
theorem agf:cA ab3 ["self","name","side","zone","price","amounts","under","group"]:=aw [00]
theorem agg:cA ab4 ["self","name","exp"]:=aw [00]
theorem agh:cA ab5 ["self","name","parameters","exp"]:=aw [00]
theorem agi:cA ab6 ["self","name","statements"]:=aw [00]
theorem agj:cA ab7 ["self","desk","zone","quarter","side","low","high","amount"]:=aw [00]
theorem agk:cA ab8 ["self","desk","zone","side","price","group","parent","amounts"]:=aw [00]
theorem ak8:cA s_M ["word"]:=aw [00]
theorem ak9:cA s_N ["order"]:=aw [00]
theorem ala:cA s_o ["self","number"]:=aw [00]
theorem agl:cA ab9 ["self"]:=aw [00]
theorem alb:cA s_5 ["self","kind","line","column"]:=aw [00]
theorem alc:cA s_O ["self"]:=aw [00]
theorem ald:cA s_P ["self"]:=aw [00]
theorem agm:cA aca ["self"]:=aw [00]
theorem agn:cA acb ["self"]:=aw [00]
theorem ago:cA acd ["self"]:=aw [00]
theorem agp:cA ace ["self"]:=aw [00]
theorem ale:cA s_Q ["sign","right"]:=aw [00]
theorem alf:cA s_R ["sign","left","right"]:=aw [00]
theorem alg:cA s_S ["sign","left","right"]:=aw [00]
theorem agq:cA acf ["sign","number"]:=aw [00]
theorem agr:cA acg ["name","numbers"]:=aw [00]
theorem ags:cA ach ["strength","number"]:=aw [00]
theorem alh:cA s_T ["strength"]:=aw [00]
theorem agt:cA aci ["self","exp"]:=aw [00]
theorem agu:cA acj ["self"]:=aw [00]
theorem agv:cA ack ["self"]:=aw [00]
theorem agw:cA acm ["self","name","value"]:=aw [00]
theorem agx:cA acn ["self","name"]:=aw [00]
theorem agy:cA aco ["self","exp"]:=aw [00]
theorem agz:cA acp ["self","value"]:=aw [00]
theorem agA:cA acq ["self","exp"]:=aw [00]
theorem ali:cA s_6 ["worker","exp","parts"]:=aw [00]
theorem alj:az ["worker","call","parts","wanted","function"] ["worker","call","parts"] (af s_7):=aw [00]
theorem alk:cA s_8 ["worker","unary","parts"]:=aw [00]
theorem alm:cA s_9 ["worker","chain","parts"]:=aw [00]
theorem agB:cA acr ["worker","chain","parts"]:=aw [00]
theorem agC:az ["worker","chain","parts","right"] ["worker","chain","parts"] (af acs):=aw [00]
theorem agD:cA acu ["sign","left","right"]:=aw [00]
theorem aln:cA s_y ["value"]:=aw [00]
theorem agE:cA acv ["worker","choice","parts"]:=aw [00]
theorem agF:cA acw ["worker","summed","parts"]:=aw [00]
theorem agG:az ["worker","summed","parts","turns","added"] ["worker","summed","parts"] (af acx):=aw [00]
theorem agH:cA acy ["self","zones","quarters","low","high"]:=aw [00]
theorem agI:cA acz ["self","market"]:=aw [00]
theorem aaV:az ["market","tops","expansion","top"] ["market","tops"] (af s_U):=aw [00]
theorem agJ:cA acA ["expansion","top"]:=aw [00]
theorem alo:cA s_z ["worker","given"]:=aw [00]
theorem agK:az ["expansion","statements","statement"] ["expansion","statements"] (af s_k):=aw [00]
theorem alp:cA s_V ["expansion","statement"]:=aw [00]
theorem aaW:az ["expansion","loop","worker","turn","last"] ["expansion","loop"] (af s_A):=aw [00]
theorem agL:cA s_E ["expansion","condition"]:=aw [00]
theorem agM:cA acB ["number","least","most"]:=aw [00]
theorem Yq:az ["expansion","step","worker","zone","quarter","low","high","amount","market","side"] ["expansion","step"] (af acC):=aw [00]
theorem alq:cA s_W ["expansion","order"]:=aw [00]
theorem Yr:az ["expansion","block","worker","zone","price","amounts","group","amount","parent","side"] ["expansion","block"] (af acD):=aw [00]
theorem agN:az ["expansion","amounts","found","quarter"] ["expansion","amounts"] (af s_F):=aw [00]
theorem agO:cA acE ["expansion","block"]:=aw [00]
theorem agP:cA acF ["expansion","name","order"]:=aw [00]
theorem alr:cA s_G ["self","kind","value","line","column"]:=aw [00]
theorem als:cA s_e ["byte"]:=aw [00]
theorem alu:cA s_h ["byte"]:=aw [00]
theorem agQ:cA s_H ["text","at"]:=aw [00]
theorem agR:cA s_I ["text","at"]:=aw [00]
theorem agS:cA s_J ["text","at"]:=aw [00]
theorem agT:az ["text","at","pair"] ["text","at"] (af s_K):=aw [00]
theorem agU:az ["text","at","end","glued"] ["text","at","end"] (af s_L):=aw [00]
theorem DN:az ["part","worth","byte"] ["part"] (af s_r):=aw [00]
theorem aaX:az ["kind","part","byte"] ["kind","part"] (af s_s):=aw [00]
theorem l8:az ["text","found","line","line_start","at","end","kind"] ["text"] (af s_i):=aw [00]
theorem agV:cA acG ["self","tokens"]:=aw [00]
theorem agW:az ["self","token"] ["self"] (af s_a):=aw [00]
theorem agX:az ["self","kind","token"] ["self","kind"] (af s_c):=aw [00]
theorem alv:cA s_p ["self","value"]:=aw [00]
theorem agY:cA acH ["self"]:=aw [00]
theorem agZ:cA acI ["self"]:=aw [00]
theorem ag0:az ["self","token"] ["self"] (af s_X):=aw [00]
theorem ag1:cA acJ ["self"]:=aw [00]
theorem ag2:az ["self","token"] ["self"] (af s_t):=aw [00]
theorem ag3:cA acK ["self","value"]:=aw [00]
theorem ag4:cA acL ["self","value"]:=aw [00]
theorem alw:cA s_B ["self"]:=aw [00]
theorem Ys:az ["self","name"] ["self"] (af acM):=aw [00]
theorem ag5:cA acN ["self","given"]:=aw [00]
theorem ag6:cA acO ["self","name"]:=aw [00]
theorem ag7:cA acP ["self","name"]:=aw [00]
theorem alx:cA s_f ["reader","depth"]:=aw [00]
theorem ag8:cA s_d ["reader","depth"]:=aw [00]
theorem ag9:az ["reader","depth","inner","condition","chosen"] ["reader","depth"] (af acQ):=aw [00]
theorem aha:az ["reader","depth","strength","operands","signs"] ["reader","depth","strength"] (af s_u):=aw [00]
theorem aaY:az ["reader","depth","inner","sign"] ["reader","depth"] (af s_l):=aw [00]
theorem ahb:az ["reader","depth","name"] ["reader","depth"] (af acR):=aw [00]
theorem ahc:az ["reader","depth","inner","exp"] ["reader","depth"] (af acS):=aw [00]
theorem ahd:az ["reader","depth","inner","name","first","last","body"] ["reader","depth"] (af acT):=aw [00]
theorem aly:az ["reader","depth","inner","name","wanted","arguments"] ["reader","depth"] (af s_Y):=aw [00]
theorem ahe:cA acU ["reader","sign"]:=aw [00]
theorem aaZ:az ["text","reader","tops"] ["text"] (af s_j):=aw [00]
theorem ahf:cA acV ["reader"]:=aw [00]
theorem ahg:az ["reader","name","exp"] ["reader"] (af acW):=aw [00]
theorem alz:az ["reader","exp"] ["reader"] (af s_q):=aw [00]
theorem ahh:az ["reader","name","parameters","exp","parameter"] ["reader"] (af acX):=aw [00]
theorem ahi:az ["reader","function","parameters"] ["reader","function"] (af acY):=aw [00]
theorem ahj:az ["reader","function","name"] ["reader","function"] (af acZ):=aw [00]
theorem ahk:az ["reader","name"] ["reader"] (af ac0):=aw [00]
theorem ahl:az ["reader","depth","statements","statement"] ["reader","depth"] (af s_m):=aw [00]
theorem ahm:cA ac1 ["reader","depth"]:=aw [00]
theorem alA:az ["reader","name","exp"] ["reader"] (af s_Z):=aw [00]
theorem ahn:cA ac2 ["reader","depth"]:=aw [00]
theorem aho:az ["reader","depth","inner","name","first","last","statements"] ["reader","depth"] (af ac3):=aw [00]
theorem ahp:az ["reader","depth","inner","condition","statements","else_statements"] ["reader","depth"] (af ac4):=aw [00]
theorem ahq:cA ac5 ["reader"]:=aw [00]
theorem alB:cA s_n ["reader","word"]:=aw [00]
theorem alC:cA s_C ["reader","word"]:=aw [00]
theorem alD:az ["reader","side","zone","quarter","price","to_price","amount"] ["reader"] (af s_1):=aw [00]
theorem alE:az ["reader","name","side","zone","price","amounts","under","group"] ["reader"] (af s_2):=aw [00]
theorem ahr:az ["reader","name","exp"] ["reader"] (af ac6):=aw [00]
theorem ahs:cA ac7 ["reader"]:=aw [00]
theorem aa0:az ["text","byte"] ["text"] (af s_w):=aw [00]
theorem alF:cA s_3 ["price"]:=aw [00]
theorem Yt:az ["zones","quarters","low","high","counts"] ["zones","quarters","low","high"] (af ac8):=aw [00]
theorem alG:cA s_g ["as_told"]:=aw [00]
theorem alH:cA s_4 ["zones","quarters","low","high","text"]:=aw [00]
theorem aa1:az ["expansion","order"] ["expansion"] (af s_x):=aw [00]
theorem alI:cA s_D ["numbers"]:=aw [00]
theorem DH:az ["zones","quarters","low","high","text","other","first","second","refusal"] ["zones","quarters","low","high","text","other"] (af s_b):=aw [00]
variable {P:Ga}{w:GN}{K:Fe}{mg:FR->Ft Fh}{base:GY}{a:bf}
def jJ (bs:Fb):E9 V:=bs.map λc=>V.int (nb c)
theorem fG (bs:Fb):(jJ bs).length=bs.length:=by unfold jJ;rw[Fx]
theorem fC {bs:Fb}{i:FC}{c:Jc}(h:bs[i]?=Fa c):(jJ bs)[i]?=Fa (V.int (nb c)):=by unfold jJ;rw[Gw,h];rfl
theorem nQ {p:Jc->Prop}(h: ∀n:FC,n<256->p (OC n)) (c:Jc):p c:=by
 have:=h c.toNat (WV c)
 rwa [Vn] at this
theorem tH (c:Jc):HJ c=(decide ((48:Int)<=nb c)&&decide (nb c<=57)):=nQ (p:=λc=>HJ c=(decide ((48:Int)<=nb c)&&decide (nb c<=57))) [00] c
theorem yy (c:Jc):Kc c=((decide ((65:Int)<=nb c)&&decide (nb c<=90))||((decide ((97:Int)<=nb c)&&decide (nb c<=122))||decide (nb c=95))):=
 nQ (p:=λc=>Kc c=((decide ((65:Int)<=nb c)&&decide (nb c<=90))||((decide ((97:Int)<=nb c)&&decide (nb c<=122))||decide (nb c=95)))) [00] c
inductive vd (p:Jc->Gu) (vs:E9 V) (H:Hp) (Q:VK) (_E:XK):Prop
 |mk (c:Jc) (_:vs=[.int (nb c)]) (_:Q (.bl (p c)) H):vd p vs H Q _E
inductive wE (K:Fe) (p:Jc->Gu) (vs:E9 V) (H:Hp) (Q:VK) (_E:XK):Prop
 |mk (l:Fi) (bs:Fb) (i:FC) (_:vs=[.ref l, .int i]) (_:cB K H l (jJ bs)) (_:i<=bs.length) (_:Q (.int (aY p bs i:FC)) H):wE K p vs H Q _E
theorem Bw (c:Jc):eO c=!decide (V.int (nb c)=V.int 10):=nQ (p:=λc=>eO c=!decide (V.int (nb c)=V.int 10)) [00] c
theorem jx {i:FC}{lo hi n:Int}{σ:St}{H:Hp}{Q:VK}(hv:σ[i]?=Fa (Fa (.int n))) (q:Q (.bl (decide (lo<=n)&&decide (n<=hi))) H):
  ut (zm λi j=> .bl (decide (i<=j))) (zm λi j=> .bl (decide (i<=j))) (tC (.int lo)) (lr i) (tC (.int hi)) σ H Q:=by
 refine mM #[_,_,Gc,Gc,_,Gc,?_] hv;by_cases h1:lo<=n
 .rw[Fm (GJ h1)]
  rw[GJ h1,Je] at q;exact#[_,_,Gc,Gc,q]
 .rw[Fj (by rw[Gb h1];exact Fd)]
  rw[Gb h1,Jk] at q;exact q
theorem cj:decide (V.int i=V.int j)=decide (i=j):=decide_eq_decide.mpr #[λy=>V.int.inj y,λy=>by rw[y]]
theorem aO {A B:Prop}(h1:b=FM->A) (h2:b=FS->B):if b=FM then A else B:=by
 cases b with
 |true=>exact cc (h1 Gc)
 |false=>exact bN (h2 Gc)
theorem DY (T:aW K mg a):T.d_e.U P w base 1 (vd HJ):=by
 refine T.d_e.F.ok als [03] [02];obtain⟨c,rfl,q⟩:=h;refine#[_,(aj (aJ (iy eP eP ak (pv 0) ak))),?_];rw[tH] at q;exact jx Gc q
theorem aa2 (T:aW K mg a):T.d_h.U P w base 1 (vd Kc):=by
 refine T.d_h.F.ok alu [03] [02];obtain⟨c,rfl,q⟩:=h;refine#[_,(aj (aJ (Dd (iy eP eP ak (pv 0) ak) (Dd (iy eP eP ak (pv 0) ak) (jw (ca b9 (pv 0) ak (aL _))))))),?_];rw[yy] at q;refine jx Gc #[_,Gc,aO (λe=>?_) λe=>?_]
 .rw[e,Tn] at q
  exact q
 .rw[e,Se] at q
  refine jx Gc #[_,Gc,aO (λe=>?_) λe=>?_]
  .rw[e,Tn] at q
   exact q
  .rw[e,Se] at q
   refine#[Gc,?_];rw[cj];exact q
theorem alJ (T:aW K mg a):T.d_H.U P w base 1 (wE K eO):=by
 refine T.d_H.F.ok agQ [03] [02];obtain⟨l,bs,i,rfl,hS,hi,q⟩:=h;refine#[_,(ax (iD LO (rA (a0 j8 (pv 1) (bw bJ (by rfl) T.Kj HN (aa (pv 0) ag)) (aL _)) (me (a0 qf (cM bC (pv 0) (pv 1) [002]) (aT (by rfl) T.Qt) (aL _)))).pt (aj (kY (i:=1) agQ.nd Gc (G9 Gc) ak lq)))
   (aj (aJ (pv 1)))),?_]
 refine#[λm σ H'=> ∃j:FC,m=bs.length-j/\σ=[Fa (.ref l),Fa (.int (j:FC))]/\H'=H/\j<=bs.length/\aY eO bs j=aY eO bs i,#[_,i,Gc,Gc,Gc,hi,Gc],?_];rintro m σ H' ⟨j,rfl,rfl,rfl,hj,ej⟩;refine#[_,_,Gc, .inl hS,_,_,Gc,Gc,_,Gc,?_];rw[fG];refine aO (λe=>?_) λe=>?_
 .have lt:j<bs.length:=by have:=F4 e;lia
  obtain⟨c,hc⟩: ∃c,bs[j]?=Fa c:=#[_,Hx lt];refine#[_,_,_,_,Gc,Gc,hS,br (fC hc),Gc,_,Gc,?_];have st:eO c=!decide (V.int (nb c)=V.int 10):=Bw c;refine aO (λe2=>?_) λe2=>?_
  .refine#[λσ' Sk=>σ'=[Fa (.ref l),Fa (.int ((j+1:FC)))]/\Sk=H',?_,_,Gc,_,_,Gc,Gc,Gc,Gc]
   rintro σ' Sk ⟨rfl,rfl⟩;exact#[_,by lia,j+1,Gc,Gc,Gc,lt,by rw[<-ej,kC hc (st.trans e2)]]
  .refine ?_
   rw[<-ej,oh hc (st.trans e2)] at q;exact q
 .have ge:bs.length<=j:=by have:=F6 e;lia
  refine bN ?_;rw[<-ej,k8 ge] at q;exact q
theorem alK (T:aW K mg a):T.d_I.U P w base 2 (wE K bR):=by
 have G_h:=aa2 (P:=P) (w:=w) (base:=base) T
 have G_e:=DY (P:=P) (w:=w) (base:=base) T;refine T.d_I.F.ok agR [03] [02];obtain⟨l,bs,i,rfl,hS,hi,q⟩:=h;refine#[_,(ax (iD LO (rA (a0 j8 (pv 1) (bw bJ (by rfl) T.Kj HN (aa (pv 0) ag)) (aL _)) (me (wS (cZ (aG G_h hr (by rfl) T.d_h.c aQ (aa (cM bC (pv 0) (pv 1) [002]) ag))) (rD (cZ (aG G_e hr (by rfl) T.d_e.c aQ (aa (cM bC (pv 0) (pv 1) [002]) ag))))).pt)).pt (aj (kY (i:=1) agR.nd Gc (G9 Gc) ak lq)))
   (aj (aJ (pv 1)))),?_]
 refine#[λm σ H'=> ∃j:FC,m=bs.length-j/\σ=[Fa (.ref l),Fa (.int (j:FC))]/\H'=H/\j<=bs.length/\aY bR bs j=aY bR bs i,#[_,i,Gc,Gc,Gc,hi,Gc],?_];rintro m σ H' ⟨j,rfl,rfl,rfl,hj,ej⟩;refine#[_,_,Gc, .inl hS,_,_,Gc,Gc,_,Gc,?_];rw[fG];refine aO (λe=>?_) λe=>?_
 .have lt:j<bs.length:=by have:=F4 e;lia
  obtain⟨c,hc⟩: ∃c,bs[j]?=Fa c:=#[_,Hx lt];have go:bR c=FM-> ∃N:St->Hp->Prop,(∀σ' Sk,N σ' Sk-> ∃m',m'<bs.length-j/\ ∃j1:FC,m'=bs.length-j1/\σ'=[Fa (.ref l),Fa (.int (j1:FC))]/\Sk=H'/\j1<=bs.length/\aY bR bs j1=aY bR bs i)/\
    N [Fa (.ref l),Fa (.int ((j+1:FC)))] H':=λy=>by
   refine#[λσ' Sk=>σ'=[Fa (.ref l),Fa (.int ((j+1:FC)))]/\Sk=H',?_,Gc,Gc];rintro σ' Sk ⟨rfl,rfl⟩;exact#[_,by lia,j+1,Gc,Gc,Gc,lt,by rw[<-ej,kC hc y]]
  refine#[_,_,_,_,Gc,Gc,hS,br (fC hc),c,Gc,_,Gc,aO (λe2=>?_) λe2=>?_]
  .obtain⟨N,n1,n2⟩:=go (by unfold bR;rw[e2];rfl)
   exact cc #[N,n1,_,Gc,_,_,Gc,Gc,n2]
  .refine#[_,_,_,_,Gc,Gc,hS,br (fC hc),c,Gc,_,Gc,aO (λe3=>?_) λe3=>?_]
   .obtain⟨N,n1,n2⟩:=go (by unfold bR;rw[e3,Qh])
    exact#[N,n1,_,Gc,_,_,Gc,Gc,n2]
   .refine ?_
    rw[<-ej,oh hc (by unfold bR;rw[e2,e3];rfl)] at q;exact q
 .have ge:bs.length<=j:=by have:=F6 e;lia
  refine bN ?_;rw[<-ej,k8 ge] at q;exact q
theorem alL (T:aW K mg a):T.d_J.U P w base 2 (wE K HJ):=by
 have G_e:=DY (P:=P) (w:=w) (base:=base) T;refine T.d_J.F.ok agS [03] [02];obtain⟨l,bs,i,rfl,hS,hi,q⟩:=h;refine#[_,(ax (iD LO (rA (a0 j8 (pv 1) (bw bJ (by rfl) T.Kj HN (aa (pv 0) ag)) (aL _)) (me (cZ (aG G_e hr (by rfl) T.d_e.c aQ (aa (cM bC (pv 0) (pv 1) [002]) ag))))).pt (aj (kY (i:=1) agS.nd Gc (G9 Gc) ak lq)))
   (aj (aJ (pv 1)))),?_]
 refine#[λm σ H'=> ∃j:FC,m=bs.length-j/\σ=[Fa (.ref l),Fa (.int (j:FC))]/\H'=H/\j<=bs.length/\aY HJ bs j=aY HJ bs i,#[_,i,Gc,Gc,Gc,hi,Gc],?_];rintro m σ H' ⟨j,rfl,rfl,rfl,hj,ej⟩;refine#[_,_,Gc, .inl hS,_,_,Gc,Gc,_,Gc,?_];rw[fG];refine aO (λe=>?_) λe=>?_
 .have lt:j<bs.length:=by have:=F4 e;lia
  obtain⟨c,hc⟩: ∃c,bs[j]?=Fa c:=#[_,Hx lt];refine#[_,_,_,_,Gc,Gc,hS,br (fC hc),c,Gc,_,Gc,aO (λe2=>?_) λe2=>?_]
  .refine#[λσ' Sk=>σ'=[Fa (.ref l),Fa (.int ((j+1:FC)))]/\Sk=H',?_,_,Gc,_,_,Gc,Gc,Gc,Gc]
   rintro σ' Sk ⟨rfl,rfl⟩;exact#[_,by lia,j+1,Gc,Gc,Gc,lt,by rw[<-ej,kC hc e2]]
  .refine ?_
   rw[<-ej,oh hc e2] at q;exact q
 .have ge:bs.length<=j:=by have:=F6 e;lia
  refine bN ?_;rw[<-ej,k8 ge] at q;exact q
theorem ig (hg:Gl X x) (hm:X.mg x=Fa (.ref p)) (hd:(x == [003])=FS:=by decide):PE X (.Name x pos) (tC (.ref p)):=qD hg hm Gc hd
theorem oi {bs:Fb}{i j:FC} :vO (jJ bs) (Fa (i:Int)) (Fa (j:Int))=jJ (part bs i j):=by
 unfold vO part;rw[HT.UJ,HT.UJ,fG];unfold jJ;rw[<-E9.map_drop,<-E9.map_take]
 congr 1
 by_cases hi:i<=bs.length
 .rw[XE hi]
  by_cases hj:j<=bs.length
  .rw[XE hj]
  .rw[WN (show bs.length<=j by lia),Js (by rw[LX];lia),Js (by rw[LX];lia)]
 .rw[WN (show bs.length<=i by lia),Ka (FF _),Ka (show bs.length<=i by lia)]
  simp
theorem aa3 (h:kb x=kb y):x=y:=QL.mp (Vy (XY h))
theorem Ei {x y:Fb}(h:x.map kb=y.map kb):x=y:=(Vm λ_ _ z=>aa3 z).mp h
theorem aa4 (w:Fb):(w.map kb).map kV=jJ w:=by unfold jJ;rw[JK];rfl
theorem xN (w:Fb): ∀L:E9 Fb,bO (L.map λs=>(s.map kb,V.str (dI s))) (w.map kb)=if w∈L then Fa (V.str (dI w)) else FB
 |[]=>by simp [bO]
 |s::L=>by
  rw[FQ];by_cases e:s=w
  .subst e
   rw[cg Gc,Fm Fq]
  .rw[b4 (λz=>e (Ei z)),xN w L]
   by_cases m:w∈L
   .rw[Fm m,Fm (Fp _ m)]
   .rw[Fj m,Fj λz=>(Fy.mp z).elim (λy=>e y.symm) m]
theorem ua (w:Fb):bO dO (w.map kb)=if w∈GI then Fa (V.str (dI w)) else FB:=xN w GI
theorem je (w:Fb):(bO dO (w.map kb)).isSome=decide (w∈GI):=by
 rw[ua];by_cases m:w∈GI
 .rw[Fm m,GJ m];rfl
 .rw[Fj m,Gb m];rfl
def eV (bs:Fb) (i:FC) (c:Jc):FC:=if Kc c=FM then aY bR bs i else if HJ c=FM then aY HJ bs i else bv bs i
inductive sY (K:Fe) (vs:E9 V) (H:Hp) (Q:VK) (_E:XK):Prop
 |mk (l:Fi) (bs:Fb) (i:FC) (c:Jc) (_:vs=[.ref l, .int i]) (_:cB K H l (jJ bs)) (_:bs[i]?=Fa c) (_: ∀H',aS H H'->Q (.int (eV bs i c:FC)) H'):sY K vs H Q _E
theorem a9 {H:Hp}(h:H p=Tq):aS H (aF H p o):=λb u e=>by rw[ac (ai e h)];exact e
theorem alM (T:aW K mg a) (kS:zM P w K a.J4 dO):T.d_K.U P w base 3 (sY K):=by
 have G_h:=aa2 (P:=P) (w:=w) (base:=base) T
 have G_e:=DY (P:=P) (w:=w) (base:=base) T
 have G_I:=alK (P:=P) (w:=w) (base:=base) T
 have G_J:=alL (P:=P) (w:=w) (base:=base) T;refine T.d_K.F.ok agT [03] [02];obtain⟨l,bs,i,c,rfl,hS,hc,q⟩:=h
 have hi:i<=bs.length:=KD (Gh.mp hc).1;refine#[_,(ax (cv (cZ (aG G_h [07] (by rfl) T.d_h.c aQ (aa (cM bC (pv 0) (pv 1) [002]) ag))) (aj (aJ (aG G_I [07] (by rfl) T.d_I.c aQ (aa (pv 0) (aa (pv 1) ag))))) bo)
   (ax (cv (cZ (aG G_e [07] (by rfl) T.d_e.c aQ (aa (cM bC (pv 0) (pv 1) [002]) ag))) (aj (aJ (aG G_J [07] (by rfl) T.d_J.c aQ (aa (pv 0) (aa (pv 1) ag))))) bo)
   (ax (cC (i:=2) agT.nd Gc (G9 Gc) (iX gz (by rfl) T.RY MJ (aa (oF qT (pv 0) (ja (pv 1)) (ja (bW dX (pv 1) ak))) ag)))
   (aj (aJ (df (fB (vZ (dn hr) (pv 2) (ig (by rfl) T.RV))) (bW dX (pv 1) (bw bJ (by rfl) T.Kj HN (aa (pv 2) ag))) (bW dX (pv 1) ak))))))),?_]
 refine#[_,_,_,_,Gc,Gc,hS,br (fC hc),c,Gc,_,Gc,aO (λe=>?_) λe=>?_]
 .refine#[l,bs,i,Gc,hS,hi,?_]
  have z:=q H (aS.refl H);unfold eV at z;rw[Fm e] at z;exact z
 .refine#[_,_,_,_,Gc,Gc,hS,br (fC hc),c,Gc,_,Gc,aO (λe2=>?_) λe2=>?_]
  .refine#[l,bs,i,Gc,hS,hi,?_]
   have z:=q H (aS.refl H);unfold eV at z;rw[Fj (by rw[e];exact Fd),Fm e2] at z;exact z
  .refine#[_,Gc,_,_,Gc,Gc,_,Gc,_,_,Gc,hS,λp hp=>?_]
   refine#[p,_,Gc, .inl #[cB.of ae,λt ht=>?_]];have cut:vO (jJ bs) (Fa (i:Int)) (Fa ((i:Int)+2))=jJ (part bs i (i+2)):=oi (j:=i+2);rw[cut] at ht ⊢;have sm:aS H (aF (aF H p (.lst (jJ (part bs i (i+2))))) t (.tup (jJ (part bs i (i+2))))):=(a9 hp).trans (a9 ht);have z:=q _ sm;unfold eV at z;rw[Fj (by rw[e];exact Fd),Fj (by rw[e2];exact Fd)] at z;unfold bv at z;refine#[a.J4,t,(part bs i (i+2)).map kb,dO,Gc,kS,Gc,by rw[ae,aa4],_,Gc,aO (λe3=>?_) λe3=>?_]
   .rw[je] at e3
    rw[Fm (F4 e3)] at z;refine#[_,_,Gc, .inr (pH.of ae),_,_,Gc,Gc,?_];rw[fG];exact z
   .rw[je] at e3
    rw[Fj (F6 e3)] at z;exact#[_,_,Gc,Gc,z]
def i6 (bs:Fb) (i e:FC) (c:Jc):Int:=if Kc c=FM then(if e-i<=24 then 0 else 4) else if HJ c=FM then(if 18<e-i\/qj bs e=FM then 4 else 1) else if part bs i e∈GI then 2 else 4
inductive pW (K:Fe) (vs:E9 V) (H:Hp) (Q:VK) (_E:XK):Prop
 |mk (l:Fi) (bs:Fb) (i e:FC) (c:Jc) (_:vs=[.ref l, .int i, .int e]) (_:cB K H l (jJ bs)) (_:bs[i]?=Fa c) (_:i<=e) (_:e<=bs.length) (_: ∀H',aS H H'->Q (.int (i6 bs i e c)) H'):pW K vs H Q _E
theorem alN (T:aW K mg a) (kS:zM P w K a.J4 dO):T.d_L.U P w base 2 (pW K):=by
 have G_h:=aa2 (P:=P) (w:=w) (base:=base) T
 have G_e:=DY (P:=P) (w:=w) (base:=base) T;refine T.d_L.F.ok agU [03] [02];obtain⟨l,bs,i,e,c,rfl,hS,hc,hie,he,q⟩:=h;refine#[_,(ax (cv (cZ (aG G_h [07] (by rfl) T.d_h.c aQ (aa (cM bC (pv 0) (pv 1) [002]) ag))) (aj (aJ (df (a0 eP (bW cX (pv 2) (pv 1)) (aT (by rfl) T.QU) (aL _)) (aT (by rfl) T.T1) (aT (by rfl) T.Py)))) bo)
   (ax (cv (cZ (aG G_e [07] (by rfl) T.d_e.c aQ (aa (cM bC (pv 0) (pv 1) [002]) ag))) (ax (cC (i:=3) agU.nd Gc (G9 Gc) (lC (ca j8 (pv 2) (bw bJ (by rfl) T.Kj HN (aa (pv 0) ag)) (aL _)) (jw (aG G_h [07] (by rfl) T.d_h.c aQ (aa (cM bC (pv 0) (pv 2) [002]) ag)))))
   (aj (aJ (df (wS (cZ (pv 3)) (rD (a0 gb (bW cX (pv 2) (pv 1)) (aT (by rfl) T.P1) (aL _)))).pt (aT (by rfl) T.Py) (aT (by rfl) T.Px))))) bo)
   (aj (aJ (df (fB (vZ (dn hr) (iX gz (by rfl) T.RY MJ (aa (oF qT (pv 0) (ja (pv 1)) (ja (pv 2))) ag)) (ig (by rfl) T.RV))) (aT (by rfl) T.Wc) (aT (by rfl) T.Py)))))),?_]
 refine#[_,_,_,_,Gc,Gc,hS,br (fC hc),c,Gc,_,Gc,aO (λe1=>?_) λe1=>?_]
 .refine#[_,_,Gc,Gc,_,_,Gc,Gc,_,Gc,?_]
  have z:=q H (aS.refl H);unfold i6 at z;rw[Fm e1] at z;refine aO (λe2=>?_) λe2=>?_
  .have:=F4 e2
   rw[Fm (by lia)] at z;exact z
  .have:=F6 e2
   rw[Fj (by lia)] at z;exact z
 .refine#[_,_,_,_,Gc,Gc,hS,br (fC hc),c,Gc,_,Gc,aO (λe2=>?_) λe2=>?_]
  .have z:=q H (aS.refl H)
   unfold i6 at z;rw[Fj (by rw[e1];exact Fd),Fm e2] at z;have rest: ∀b:Gu,qj bs e=b->afx (tIf (tOr (tB (lr 3)) (Aa (tOp (zm λi j=> .bl (decide (j<i))) (tOp (zm λi j=> .int (i-j)) (lr 2) (lr 1)) (tC (.int 18))))) (tC (.int 4)) (tC (.int 1))) { nx:=λ_ H'=>Q .IJ H',rt:=Q } [Fa (.ref l),Fa (.int i),Fa (.int e),Fa (.bl b)] H:=λb hb=>by
    refine#[_,Gc,aO (λe3=>?_) λe3=>?_]
    .rw[Fm (.inr (hb.trans e3))] at z
     exact cc z
    .refine#[_,_,Gc,Gc,_,_,Gc,Gc,_,Gc,aO (λe4=>?_) λe4=>?_]
     .have:=F4 e4
      rw[Fm (.inl (by lia))] at z;exact z
     .have:=F6 e4
      rw[Fj (λy=>y.elim (λy=>by lia) λy=>by rw[hb,e3] at y;cases y)] at z;exact z
   refine#[_,_,Gc, .inl hS,_,_,Gc,Gc,_,Gc,?_];rw[fG];refine aO (λe3=>?_) λe3=>?_
   .have lt:e<bs.length:=by have:=F4 e3;lia
    obtain⟨g,hg⟩: ∃g,bs[e]?=Fa g:=#[_,Hx lt];refine#[_,_,_,_,Gc,Gc,hS,br (fC hg),g,Gc,?_];exact rest (Kc g) (by unfold qj;rw[hg];rfl)
   .have ge:bs.length<=e:=by have:=F6 e3;lia
    exact rest FS (by unfold qj;rw[IX ge];rfl)
  .refine#[_,Gc,_,Gc,_,_,Gc,hS,λp hp=>?_]
   refine#[p,_,Gc, .inl #[cB.of ae,λt ht=>?_]];rw[oi] at ht ⊢;have sm:aS H (aF (aF H p (.lst (jJ (part bs i e)))) t (.tup (jJ (part bs i e)))):=(a9 hp).trans (a9 ht);have z:=q _ sm;unfold i6 at z;rw[Fj (by rw[e1];exact Fd),Fj (by rw[e2];exact Fd)] at z;refine#[a.J4,t,(part bs i e).map kb,dO,Gc,kS,Gc,by rw[ae,aa4],_,Gc,aO (λe3=>?_) λe3=>?_]
   .rw[je] at e3
    rw[Fm (F4 e3)] at z;exact z
   .rw[je] at e3
    rw[Fj (F6 e3)] at z;exact z
section
open Vbemac (valueOf)
theorem rh (l:Fb) (c:Jc):valueOf (l++[c])=10*valueOf l+(c.toNat-48):=by unfold valueOf;rw[E9.foldl_append];rfl
theorem CZ (h:HJ c=FM):48<=nb c:=by
 rw[tH,GR] at h;exact F4 h.1
inductive xE (K:Fe) (vs:E9 V) (H:Hp) (Q:VK) (_E:XK):Prop
 |mk (l:Fi) (u:Fb) (_:vs=[.ref l]) (_:cB K H l (jJ u)) (_:(∀c∈u,HJ c=FM)) (_:Q (.int (valueOf u:FC)) H):xE K vs H Q _E
def one (c:Jc):FR:=#[[c.toNat].toArray]
theorem pC: ∀w:Fb,TL.SW [] (w.map λc=>[c.toNat])=w.map Nk
 |[]=>rfl
 |[c]=>rfl
 |c::d::r=>by
  show [c.toNat]++([]++TL.SW [] ((d::r).map λc=>[c.toNat]))=_
  rw[pC (d::r)]
  rfl
theorem AH (w:Fb):U4 ("":FR) (w.map one)=sb w:=by
 rw[TL.join_eq];refine TL.aaP ?_;rw[TL.UK,JK];exact pC w
def BD:FR:="0123456789:;<=>?@ABCDEFGHIJKLMNOPQRSTUVWXYZ[\\]^_`abcdefghijklmnopqrstuvwxyz"
theorem yz:BD.length<=F8:=by decide+kernel
theorem BG (h:bR c=FM):zK BD.cps.toList (nb c-48)=Fa c.toNat:=by
 revert h;exact nQ (p:=λc=>bR c=FM->zK BD.cps.toList (nb c-48)=Fa c.toNat) [00] c
inductive CW (K:Fe) (vs:E9 V) (H:Hp) (Q:VK) (_E:XK):Prop
 |mk (k:Int) (l:Fi) (u:Fb) (_:vs=[.int k, .ref l]) (_:cB K H l (jJ u)) (_:u.length<=3000) (_:((k=0/\(∀c∈u,bR c=FM)/\ ∀H',aS H H'->Q (.str (sb u)) H')\/(k=1/\(∀c∈u,HJ c=FM)/\ ∀H',aS H H'->Q (.int (valueOf u:FC)) H')\/
   (k=2/\u∈GI/\ ∀H',aS H H'->Q (.str (dI u)) H')\/(k=4/\ ∀H',aS H H'->Q (.str (sb [])) H'))):CW K vs H Q _E
theorem alO (T:aW K mg a):T.d_r.U P w base 1 (xE K):=by
 refine T.d_r.F.ok DN [03] [02];obtain⟨l,u,rfl,hS,hd,q⟩:=h;refine#[_,(ax (cC (i:=1) DN.nd Gc (G9 Gc) ak)
   (ax (vo LO Gc (j3 (pv 0)) (jc (i:=2) DN.nd Gc (G9 Gc)) (aj (cC (i:=1) DN.nd Gc (G9 Gc) (bW cX (bW dX (bW BP (pv 1) ak) (pv 2)) ak))))
   (aj (aJ (pv 1))))),?_]
 refine#[l,Gc,#[_,hS],sI (K:=K) (a:=l) (xs:=jJ u) (λi σ H'=> ∃v:Ft V,σ=[Fa (.ref l),Fa (.int (valueOf (u.take i):FC)),v]/\H'=H) #[FB,Gc,Gc] (λi σ H' _ ⟨_,_,e⟩=>by rw[e];exact hS) ?_ ?_]
 .rintro i y σ H' hi ⟨v,rfl,rfl⟩
  obtain⟨c,hc,rfl⟩: ∃c,u[i]?=Fa c/\y=V.int (nb c):=by
   unfold jJ at hi;rw[Gw] at hi;cases e:u[i]? with
   |none=>rw[e] at hi;cases hi
   |some c=>rw[e] at hi;exact#[c,Gc,(FG hi).symm]
  refine#[_,_,Gc,Gc, .inr #[by decide,by decide],_,_,Gc,Gc,_,_,Gc,Gc,Fa (.int (nb c)),?_,Gc];have g:=CZ (hd c (G8 hc));have e:((valueOf (u.take (i+1)):FC):Int)=(valueOf (u.take i):FC)*10+nb c-48:=by
   rw[Lo,hc];show((valueOf (u.take i++[c]):FC):Int)=_;rw[rh];have g':48<=c.toNat:=Int.ofNat_le.mp g;show((10*valueOf (u.take i)+(c.toNat-48):FC):Int)=(valueOf (u.take i):FC)*10+(c.toNat:Int)-48;lia
  rw[e]
  rfl
 .rintro σ H' ⟨v,rfl,rfl⟩
  rw[fG,LY];exact q
theorem alP (T:aW K mg a) (kS:zM P w K a.J4 dO):T.d_s.U P w base 2 (CW K):=by
 have G_r:=alO (P:=P) (w:=w) (base:=base) T;refine T.d_s.F.ok aaX [03] [02];obtain⟨k,l,u,rfl,hS,NF,h⟩:=h;refine#[_,(ax (cv (a0 b9 (pv 0) (aT (by rfl) T.T1) (aL _)) (aj (aJ (ED dH (Bu Gc aaX.nd (j3 (pv 1)) (own:=[("byte",2)]) (n6 (by show Cd ["kind","part","byte"] (af s_s) _ [("byte",2)]=FM;decide+kernel)) (λ_ _ _ _ _=>jc (i:=2) aaX.nd Gc (G9 Gc)) (λ_ _ _ _ _=>rJ) (λ_ _ _ _ _=>(cM aaD (afZ (by rfl) T.T3) (bW cX (pv 2) ak) [002])))))) bo)
   (ax (cv (a0 b9 (pv 0) (aT (by rfl) T.Px) (aL _)) (aj (aJ (aG G_r [07] (by rfl) T.d_r.c aQ (aa (pv 1) ag)))) bo)
   (ax (cv (a0 b9 (pv 0) (aT (by rfl) T.Wc) (aL _)) (aj (aJ (zT (dn hr) (ig (by rfl) T.RV) (iX gz (by rfl) T.RY MJ (aa (pv 1) ag)) [002]))) bo)
   (aj (aJ dH))))),?_]
 refine#[Gc,_,Gc,?_];rw[cj];rcases h with⟨rfl,hw,q⟩|⟨rfl,hd,q⟩|⟨rfl,hs,q⟩|⟨rfl,q⟩
 .refine cc ?_
  refine#[#[_,Gc],l,Gc,#[_,hS],λD hD=>?_];have sm:aS H (aF H D (.lst [])):=a9 hD;refine qS (K:=K) (a:=l) (xs:=jJ u) (λi H'=>aS H H'/\H' D=Fa (.lst (((u.take i).map one).map V.str))) #[sm,ae] (λi H' _ z=>z.1.seq hS) ?_ ?_
  .rintro i y H' hi ⟨s1,SY⟩
   obtain⟨c,hc,rfl⟩: ∃c,u[i]?=Fa c/\y=V.int (nb c):=by
    unfold jJ at hi;rw[Gw] at hi;cases e:u[i]? with
    |none=>rw[e] at hi;cases hi
    |some c=>rw[e] at hi;exact#[c,Gc,(FG hi).symm]
   refine#[Gc,?_];unfold Em;dsimp only;rw[Fm Gc];refine#[_,_,Gc,Gc,_,_,_,Gc,Gc,yz,BG (hw c (G8 hc)),_,SY,?_,?_,?_]
   .have z:=(E9.length_take_le i u)
    rw[Fx,Fx];refine Gp (Ug i u) ?_;exact Gp NF [01]
   .exact λb o e=>by rw[ac (ai e hD)];exact s1 b o e
   .rw[ae,Lo,hc]
    show Fa (HO.lst (((u.take i).map one).map V.str++[V.str #[[c.toNat].toArray]]))=Fa (HO.lst (((u.take i++[c]).map one).map V.str))
    rw[Hk,Hk]
    rfl
  .rintro H' ⟨s1,SY⟩
   rw[fG,LY] at SY;refine#[_,D,u.map one,Gc,Gc, .inl (cB.of SY),?_,?_]
   .have e:((u.map one).map (·.length)).sum=u.length:=by
     rw[JK];clear hS NF hw q SY s1 sm
     induction u with
     |nil=>rfl
     |cons c r ih=>rw[FQ,Zc,ih,FA];show 1+r.length=_;lia
    rw[e];show u.length+(u.map one).length*0<=16777216;lia
   .rw[AH]
    exact q H' s1
 .refine bN #[Gc,_,Gc,?_]
  rw[cj];exact cc #[l,u,Gc,hS,hd,q H (aS.refl H)]
 .refine bN #[Gc,_,Gc,?_]
  rw[cj];refine bN #[Gc,_,Gc,?_];rw[cj];refine cc #[l,_,Gc, .inl #[hS,λt ht=>?_]];refine#[a.J4,t,u.map kb,dO,_,Gc,kS,Gc,by rw[ae,aa4],(by rw[ua,Fm hs]),q _ (a9 ht)]
 .refine bN #[Gc,_,Gc,?_]
  rw[cj];refine bN #[Gc,_,Gc,?_];rw[cj];exact bN (q H (aS.refl H))
end
section
open Vbemac (valueOf)
def CN (k v l c:V):E9 (FR×V):=Ib "column" c (Ib "line" l (Ib "value" v (Ib "kind" k [])))
def h9:GH->Int
 | .word _=>0
 | .num _=>1
 | .sign _=>2
 | .eof=>3
 | .bad=>4
def io:GH->V
 | .word u=> .str (sb u)
 | .num n=> .int (n:FC)
 | .sign u=> .str (dI u)
 | .eof=> .str (sb [])
 | .bad=> .str (sb [])
inductive fQ (C:Fi) (H:Hp) (p:Fi) (x:GH×Gx):Prop
 |mk (dx:Fi) (_:H p=Fa (.ins C dx (CN (.int (h9 x.1)) (io x.1) (.int (x.2.1:FC)) (.int (x.2.2:FC))))):fQ C H p x
inductive Yu (C:Fi) (vs:E9 V) (H:Hp) (Q:VK) (_E:XK):Prop
 |mk (p dx:Fi) (k v l c:V) (_:vs=[.ref p,k,v,l,c]) (_:H p=Fa (.ins C dx [])) (_: ∀H':Hp,H' p=Fa (.ins C dx (CN k v l c))->(∀b o,H b=Fa o->b≠p->H' b=Fa o)->Q .IJ H'):Yu C vs H Q _E
theorem Bc (c:Jc):uq (.int (nb c)) [.int 9, .int 10, .int 13, .int 32]=Si c:=nQ (p:=λc=>uq (.int (nb c)) [.int 9, .int 10, .int 13, .int 32]=Si c) [00] c
inductive Ay (K:Fe) (C:Fi) (vs:E9 V) (H:Hp) (Q:VK) (_E:XK):Prop
 |mk (l:Fi) (bs:Fb) (_:vs=[.ref l]) (_:cB K H l (jJ bs)) (_:bs.length<=3000) (_: ∀(H':Hp) (q:Fi) (as:E9 Fi),aS H H'->H q=Tq->H' q=Fa (.lst (as.map V.ref))->Paired (fQ C H') as (GZ bs)->Q (.ref q) H'):Ay K C vs H Q _E
theorem fQ.keep {H H':Hp}(h:fQ C H p x) (k: ∀b o,H b=Fa o->(∀xs,o≠ .lst xs)->H' b=Fa o):fQ C H' p x:=by
 obtain⟨dx,e⟩:=h;exact#[dx,k _ _ e λxs z=>nomatch z]
theorem gn {α β:Type}{F:α->β->Prop} : ∀ {l:E9 α}{m:E9 β}{x:α}{y:β},Paired F l m->F x y->Paired F (l++[x]) (m++[y])
 |_,_,_,_, .nil,h=> .cons h .nil
 |_,_,_,_, .cons r t,h=> .cons r (gn t h)
def Yv (k:Int) (u:Fb) (v:V):Prop:=(k=0/\(∀c∈u,bR c=FM)/\v= .str (sb u))\/(k=1/\(∀c∈u,HJ c=FM)/\v= .int (valueOf u:FC))\/(k=2/\u∈GI/\v= .str (dI u))\/(k=4/\v= .str (sb []))
theorem qK (h:Kc c=FM):bR c=FM:=by unfold bR;rw[h];rfl
theorem Cm {p:Jc->Gu} :i<=aY p bs i:=by unfold aY;lia
theorem m9 {p:Jc->Gu}(h:bs[i]?=Fa c) (hp:p c=FM):i<aY p bs i:=by
 rw[kC h hp];exact Cm
theorem sJ {p:Jc->Gu} : ∀c∈part bs i (aY p bs i),p c=FM:=by
 rw[<-kt];exact qP _
theorem lV:(part bs i j).length<=bs.length-i:=by
 unfold part;rw[NV,LX];lia
theorem nM (h:bs[i]?=Fa c):i<bv bs i/\bv bs i<=bs.length:=by
 obtain⟨hi,_⟩:=Gh.mp h;have l1:0<(part bs i (i+2)).length:=by unfold part;rw[HW,eY h];exact FC.succ_pos _
 have l2:=lV (bs:=bs) (i:=i) (j:=i+2);unfold bv;split<;>lia
theorem Be (h:bs[i]?=Fa c) (hb:Si c=FS) (PL: ¬c=35):i<eV bs i c/\eV bs i c<=bs.length/\ ∃y:GH,i6 bs i (eV bs i c) c=h9 y/\Yv (h9 y) (part bs i (eV bs i c)) (io y)/\
  ∀k q,O6 (k+1) q (bs.drop i)=if h9 y=4 then [(y,q)] else(y,q)::O6 k (q.1,q.2+(eV bs i c-i)) (bs.drop (eV bs i c)):=by
 obtain⟨hi,_⟩:=Gh.mp h;unfold eV i6;cases hl:Kc c with
 |true=>
  rw[Fm Gc,Fm Gc];refine#[m9 h (qK hl),nO (KD hi),?_];by_cases g:aY bR bs i-i<=24
  .refine#[.word (part bs i (aY bR bs i)),Fm g, .inl #[Gc,sJ,Gc],λk q=>?_]
   rw[kc h hb PL hl,Fj (by lia)];exact(Fj (by show¬(0:Int)=4;decide)).symm
  .refine#[.bad,Fj g, .inr (.inr (.inr #[Gc,Gc])),λk q=>?_]
   rw[kc h hb PL hl,Fm (by lia)];exact(Fm Gc).symm
 |false=>
  rw[Fj Fd,Fj Fd];cases hd:HJ c with
  |true=>
   rw[Fm Gc,Fm Gc];refine#[m9 h hd,nO (KD hi),?_];by_cases g:18<aY HJ bs i-i\/qj bs (aY HJ bs i)=FM
   .refine#[.bad,Fm g, .inr (.inr (.inr #[Gc,Gc])),λk q=>?_]
    rw[mv h hb PL hl hd,Fm g];exact(Fm Gc).symm
   .refine#[.num (valueOf (part bs i (aY HJ bs i))),Fj g, .inr (.inl #[Gc,sJ,Gc]),λk q=>?_]
    rw[mv h hb PL hl hd,Fj g];exact(Fj (by show¬(1:Int)=4;decide)).symm
  |false=>
   rw[Fj Fd,Fj Fd];refine#[(nM h).1,(nM h).2,?_];by_cases g:part bs i (bv bs i)∈GI
   .refine#[.sign (part bs i (bv bs i)),Fm g, .inr (.inr (.inl #[Gc,g,Gc])),λk q=>?_]
    rw[jX h hb PL hl hd,Fm g];exact(Fj (by show¬(2:Int)=4;decide)).symm
   .refine#[.bad,Fj g, .inr (.inr (.inr #[Gc,Gc])),λk q=>?_]
    rw[jX h hb PL hl hd,Fj g];exact(Fm Gc).symm
theorem Yw (h:nb c=nb d):c=d:=QL.mp (Vy h)
theorem su:(as++[x]).map V.ref=as.map V.ref++[V.ref x]:=by rw[Hk];rfl
theorem CO {K:Fe}{H:Hp}{Q:VK}{E:XK}(ok:Yv k u v) (hS:cB K H l (jJ u)) (hl:u.length<=3000) (q: ∀H',aS H H'->Q v H'):CW K [.int k, .ref l] H Q E:=by
 refine#[k,l,u,Gc,hS,hl,?_];rcases ok with⟨h,g,rfl⟩|⟨h,g,rfl⟩|⟨h,g,rfl⟩|⟨h,rfl⟩
 .exact .inl #[h,g,q]
 .exact .inr (.inl #[h,g,q])
 .exact .inr (.inr (.inl #[h,g,q]))
 .exact .inr (.inr (.inr #[h,q]))
theorem oY (T:aW K mg a):T.d_G.U P w mg base 1 (Yu a.Jm):=by
 refine T.d_G.F.ok alr [03] [02];obtain⟨p,dx,k,v,l,c,rfl,hp,q⟩:=h;refine#[_,(ax (b5 (pv 0) (pv 1) Gc)
   (ax (b5 (pv 0) (pv 2) Gc)
   (ax (b5 (pv 0) (pv 3) Gc)
   (aj (b5 (pv 0) (pv 4) Gc))))),?_]
 have l1:(Ib "kind" k []).length<1000:=Gp (cS "kind" k []) [01]
 have l2:(Ib "value" v (Ib "kind" k [])).length<1000:=Gp (FP (cS "value" v _) (Hi (cS "kind" k []))) [01]
 have l3:(Ib "line" l (Ib "value" v (Ib "kind" k []))).length<1000:=Gp (FP (cS "line" l _) (Hi (FP (cS "value" v _) (Hi (cS "kind" k []))))) [01];refine#[p,_,dx,_,Gc,hp,T.II,T.Kb,(by show 0<1000;decide),?_];refine#[p,_,dx,_,Gc,ae,T.II,T.Jv,l1,?_];refine#[p,_,dx,_,Gc,ae,T.II,T.Nj,l2,?_];refine#[p,_,dx,_,Gc,ae,T.II,T.L8,l3,?_];refine q _ ae λb o e hb=>?_
 rw[ac hb,ac hb,ac hb,ac hb];exact e
structure aht (C:Fi) (bs:Fb) (q:Fi) (H H':Hp) (i ln ls:FC) (as:E9 Fi):Prop where
 sm:aS H H'
 lst:H' q=Fa (.lst (as.map V.ref))
 ahu:i<=bs.length
 ahv:ls<=i
 rest: ∃(ts:Ff) (k:FC),Paired (fQ C H') as ts/\bs.length<i+k/\GZ bs=ts++O6 k (ln,i-ls+1) (bs.drop i)/\as.length<=i
theorem wL {H5 H6:Hp}(hx:H6 x=Fa (.ins C dx (CN (.int (h9 y.1)) (io y.1) (.int (y.2.1:FC)) (.int (y.2.2:FC)))))
  (k: ∀b o,H5 b=Fa o->H6 b=Fa o) (p:Paired (fQ C H5) as ts) (nq:x≠q) (hq:H6 q=Fa (.lst (as.map V.ref))):
  Paired (fQ C (aF H6 q (.lst ((as++[x]).map V.ref)))) (as++[x]) (ts++[y]):=by
 refine gn (Paired.MU p λb z h=>?_) #[dx,by rw[ac nq];exact hx];refine fQ.keep h λb' o e no=>?_;have ne:b'≠q:=λz=>by
  have w1:=k _ _ e;rw[z,hq] at w1;exact no _ (FG w1).symm
 rw[ac ne];exact k _ _ e
theorem alQ (T:aW K mg a) (kS:zM P w K a.J4 dO):T.d_i.U P w base 4 (Ay K a.Jm):=by
 have G_H:=alJ (P:=P) (w:=w) (base:=base) T
 have G_K:=alM (P:=P) (w:=w) (base:=base) T kS
 have G_L:=alN (P:=P) (w:=w) (base:=base) T kS
 have G_s:=alP (P:=P) (w:=w) (base:=base) T kS
 have G_G:=oY (P:=P) (w:=w) (base:=base) T;refine T.d_i.F.ok l8 [03] [02];obtain⟨l,bs,rfl,hS,NF,hQ⟩:=h;refine#[_,(ax (cC (i:=1) l8.nd Gc (G9 Gc) (fR ag))
   (ax (cC (i:=2) l8.nd Gc (G9 Gc) ak)
   (ax (cC (i:=3) l8.nd Gc (G9 Gc) ak)
   (ax (cC (i:=4) l8.nd Gc (G9 Gc) ak)
   (ax (iD LO (a0 j8 (pv 4) (bw bJ (by rfl) T.Kj HN (aa (pv 0) ag)) (aL _)) (aj (cv (a0 lA (cM bC (pv 0) (pv 4) [002]) (ig (by rfl) T.Wd) Gc) (ax (kY (i:=4) l8.nd Gc (G9 Gc) ak lq)
   (aj (cv (a0 b9 (cM bC (pv 0) (bW cX (pv 4) ak) [002]) (aT (by rfl) T.Qt) (aL _)) (ax (kY (i:=2) l8.nd Gc (G9 Gc) ak lq)
   (aj (cC (i:=3) l8.nd Gc (G9 Gc) (pv 4)))) bo))) (aj (cv (a0 b9 (cM bC (pv 0) (pv 4) [002]) (aT (by rfl) T.Ve) (aL _)) (aj (cC (i:=4) l8.nd Gc (G9 Gc) (aG G_H [07] (by rfl) T.d_H.c aQ (aa (pv 0) (aa (pv 4) ag))))) (ax (cC (i:=5) l8.nd Gc (G9 Gc) (aG G_K [07] (by rfl) T.d_K.c aQ (aa (pv 0) (aa (pv 4) ag))))
   (ax (cC (i:=6) l8.nd Gc (G9 Gc) (aG G_L [07] (by rfl) T.d_L.c aQ (aa (pv 0) (aa (pv 4) (aa (pv 5) ag)))))
   (ax (bj (xi Jj KA KC i9 (pv 1) (aa (gT T.SK G_G [07] (by rfl) T.SH T.d_G.c.b .nil aQ (aa (pv 6) (aa (aG G_s [07] (by rfl) T.d_s.c aQ (aa (pv 6) (aa (oF qT (pv 0) (ja (pv 4)) (ja (pv 5))) ag))) (aa (pv 2) (aa (bW dX (bW cX (pv 4) (pv 3)) ak) ag))))) ag)))
   (ax (cv (a0 b9 (pv 6) (aT (by rfl) T.Py) (aL _)) (aj (aJ (pv 1))) bo)
   (aj (cC (i:=4) l8.nd Gc (G9 Gc) (pv 5))))))))))))
   (ax (bj (xi Jj KA KC i9 (pv 1) (aa (gT T.SK G_G [07] (by rfl) T.SH T.d_G.c.b .nil aQ (aa (aT (by rfl) T.X9) (aa dH (aa (pv 2) (aa (bW dX (bW cX (pv 4) (pv 3)) ak) ag))))) ag)))
   (aj (aJ (pv 1))))))))),?_]
 refine#[F3 _,λq hq=>#[λm σ H'=> ∃(i ln ls:FC) (as:E9 Fi) (v5 v6:Ft V),m=bs.length-i/\σ=[Fa (.ref l),Fa (.ref q),Fa (.int ln),Fa (.int ls),Fa (.int i),v5,v6]/\aht a.Jm bs q H H' i ln ls as,#[_,0,1,0,[],FB,FB,Gc,Gc,#[a9 hq,ae,F3 _,FF _,[],bs.length+1, .nil,by lia,Gc,FF _]],?_]];rintro m σ H1 ⟨i,ln,ls,as,v5,v6,rfl,rfl,M⟩;have Yx:=M.sm.seq hS;obtain⟨ts,k,pr,hk,tk,asl⟩:=M.rest;have ile:=M.ahu;have alR:=M.ahv;obtain⟨k,rfl⟩: ∃k',k=k'+1:=#[k-1,by lia];have ec:(i:Int)-(ls:Int)+1=((i-ls+1:FC):Int):=by lia
 refine#[_,_,Gc, .inl Yx,_,_,Gc,Gc,_,Gc,?_];rw[fG];refine aO (λe=>?_) λe=>?_
 .have lt:i<bs.length:=by have:=F4 e;lia
  obtain⟨c,hc⟩: ∃c,bs[i]?=Fa c:=#[_,Hx lt];refine#[λσ' Sk=> ∃(i' ln' ls':FC) (as':E9 Fi) (v5' v6':Ft V),i<i'/\σ'=[Fa (.ref l),Fa (.ref q),Fa (.int ln'),Fa (.int ls'),Fa (.int i'),v5',v6']/\aht a.Jm bs q H Sk i' ln' ls' as',?_,?_]
  .rintro σ' Sk ⟨i',ln',ls',as',v5',v6',lt',rfl,M'⟩
   have:=M'.ahu;exact#[_,by lia,i',ln',ls',as',v5',v6',Gc,Gc,M']
  refine#[_,_,_,_,Gc,Gc,Yx,br (fC hc),_,_,Gc, .inr T.We.sq,Gc,Gc,_,Gc,?_];show if uq (.int (nb c)) [.int 9, .int 10, .int 13, .int 32]=FM then _ else _
  rw[Bc];refine aO (λhb=>?_) λhb=>?_
  .refine#[_,Gc,_,_,Gc,Gc,?_]
   refine#[_,_,Gc,Gc,_,_,_,V.int (nb c),Gc,Gc,Yx,(by rw[Int.add_sub_cancel];exact br (fC hc)),Gc,_,Gc,?_];rw[cj];have lx:=k6 (k:=k) (q:=(ln,i-ls+1)) hc hb;refine aO (λh10=>?_) λh10=>?_
   .have c10:c=10:=Yw (F4 h10)
    refine#[_,Gc,_,_,Gc,Gc,i+1,ln+1,i+1,as,v5,v6,HG i,Gc,#[M.sm,M.lst,lt,FF _,ts,k,pr,by lia,?_,by lia]];rw[tk,lx,c10,Qx]
    rfl
   .have c10: ¬c=10:=λz=>FH (by rw[z];rfl) (F6 h10)
    refine#[i+1,ln,ls,as,v5,v6,HG i,Gc,#[M.sm,M.lst,lt,NH alR,ts,k,pr,by lia,?_,by lia]];rw[tk,lx,show i+1-ls+1=i-ls+1+1 by lia];unfold Vbemac.advance;rw[Fj c10]
  .refine#[_,_,_,_,Gc,Gc,Yx,br (fC hc),Gc,_,Gc,?_]
   rw[cj];refine aO (λPL=>?_) λPL=>?_
   .have c35:c=35:=Yw (F4 PL)
    have g:i<aY eO bs i:=m9 hc (by rw[c35];rfl)
    have g2:aY eO bs i<=bs.length:=nO ile;refine#[l,bs,i,Gc,Yx,ile,aY eO bs i,ln,ls,as,v5,v6,g,Gc,#[M.sm,M.lst,g2,by lia,ts,k,pr,by lia,?_,by lia]];rw[tk,iL hc hb c35]
    show ts++O6 k (ln,i-ls+1+(aY eO bs i-i)) _=_
    rw[show i-ls+1+(aY eO bs i-i)=aY eO bs i-ls+1 by lia]
   .have c35: ¬c=35:=λz=>FH (by rw[z];rfl) (F6 PL)
    obtain⟨g,g2,y,ky,vy,lx⟩:=Be hc hb c35;have lx:=lx k (ln,i-ls+1);refine#[l,bs,i,c,Gc,Yx,hc,λH2 s2=>?_];refine#[l,bs,i,eV bs i c,c,Gc,s2.seq Yx,hc,KD g,g2,λH3 s3=>?_];rw[ky];generalize eV bs i c=en at g g2 vy lx ky ⊢;have s13:aS H1 H3:=s2.trans s3;have hS3:=s13.seq Yx;refine#[.inl #[Gc,_,cB.of (s13 _ _ M.lst)],?_];refine#[_,Gc,_,Gc,_,_,Gc,hS3,λp hp=>?_];rw[oi];refine CO vy (cB.of ae) ?_ λH4 s4=>?_
    .have:=lV (bs:=bs) (i:=i) (j:=en)
     lia
    have s14:aS H1 H4:=s13.trans ((a9 hp).trans s4);refine#[_,_,Gc,Gc,_,_,Gc,Gc,λx dx hx Vf ne=>#[x,dx,_,_,_,_,Gc,ae,λH5 h5 k5=>#[Gc,?_]]]
    have h5:H5 x=Fa (.ins a.Jm dx (CN (.int (h9 y)) (io y) (.int (ln:FC)) (.int ((i-ls+1:FC):Int)))):=by rw[<-ec];exact h5
    have s15:aS H1 H5:=λb o e=>k5 b o (by rw[ac (ai (s14 b o e) hx),ac (ai (s14 b o e) Vf)];exact s14 b o e) (ai (s14 b o e) hx)
    have nq:x≠q:=(ai (s14 _ _ M.lst) hx).symm
    have q5:=s15 _ _ M.lst
    have pn:=wL (y:=(y,ln,i-ls+1)) h5 s15 pr nq q5
    have sm5:aS H (aF H5 q (.lst ((as++[x]).map V.ref))):=λb o e=>by rw[ac (ai e hq)];exact s15 b o (M.sm b o e)
    refine#[q,_,_,Gc,Gc,q5,by rw[Fx];exact Gp (FP asl (FP ile NF)) [01],?_];rw[<-su];refine#[Gc,_,Gc,?_];rw[cj];refine aO (λk4=>?_) λk4=>?_
    .rw[Fm (F4 k4)] at lx
     refine(hQ _ q (as++[x]) sm5 hq ae ?_);rw[tk,lx];exact pn
    .rw[Fj (F6 k4)] at lx
     refine#[en,ln,ls,as++[x],_,_,g,Gc,#[sm5,ae,g2,by lia,ts++[(y,ln,i-ls+1)],k,pn,by lia,?_,by rw[FL,Jy];lia]];rw[tk,lx,GG];show ts++(y,ln,i-ls+1)::O6 k (ln,i-ls+1+(en-i)) _=_;rw[show i-ls+1+(en-i)=en-ls+1 by lia]
     rfl
 .have lx:=EG (k:=k) (q:=(ln,i-ls+1)) (bs:=bs) (i:=i) (by have:=F6 e;lia)
  refine#[.inl #[Gc,_,cB.of M.lst],?_];refine#[_,_,Gc,Gc,_,_,Gc,Gc,λx dx hx Vf ne=>#[x,dx,_,_,_,_,Gc,ae,λH5 h5 k5=>#[Gc,?_]]];have h5:H5 x=Fa (.ins a.Jm dx (CN (.int (h9 .eof)) (io .eof) (.int (ln:FC)) (.int ((i-ls+1:FC):Int)))):=by rw[<-ec];exact h5
  have s15:aS H1 H5:=λb o e=>k5 b o (by rw[ac (ai e hx),ac (ai e Vf)];exact e) (ai e hx)
  have nq:x≠q:=(ai M.lst hx).symm
  have q5:=s15 _ _ M.lst
  have pn:=wL (y:=(.eof,ln,i-ls+1)) h5 s15 pr nq q5
  have sm5:aS H (aF H5 q (.lst ((as++[x]).map V.ref))):=λb o e=>by rw[ac (ai e hq)];exact s15 b o (M.sm b o e)
  refine#[q,_,_,Gc,Gc,q5,by rw[Fx];exact Gp (FP asl (FP ile NF)) [01],?_];rw[<-su];refine(hQ _ q (as++[x]) sm5 hq ae ?_);rw[tk,lx];exact pn
end
theorem E3 (K:Fe):Vv K (.type "Exception") (.type "type") "__init__"=Fa (.val (.builtin "Exception.__init__")):=by kernel_rfl
theorem aa5:typeOf (.type "Exception")=pure (.type "type"):=by kernel_rfl
theorem A6:Manifest.isStub "Exception"=FS:=by decide+kernel
theorem Cs:K4 "Exception"=Fa (.type "Exception"):=by decide+kernel
theorem aa6 {H:Hp}{a:Fi}(h:H a=Fa o):aF H a o=H:=by
 funext b
 by_cases e:b=a
 .rw[e,ae,h]
 .exact ac e
def Ba (C:Fi) (i:FC):TS:=λD σ H=> ∃p,σ[i]?=Fa (Fa (.ref p))/\H p=Fa (qV C p)/\D.nx σ H
theorem vi (XC:dD X.K R C fI) (hg:Gl X "Exception") (hm:X.mg "Exception"=FB) (hx:PE X (.Name x p2) (lr i))
  (Kq:FK [.Name x p2] X.env=[(FS,eval (.Name x p2) X.env)]:=by rfl) (hs:LL (.Call (.Attribute (.Name "Exception" p1) "__init__" La) [.Name x p2] [] LJ) FB pos.line X.env=pure FS:=by rfl)
  {pl:Sem Gu}(ht:eval (.Call (.Attribute (.Name "Exception" p1) "__init__" La) [.Name x p2] [] LJ) X.env=(do
   let ov<-eval (.Name "Exception" p1) X.env
   standAt La.atName
   let (f,first)<-holding [ov] (K7 ov "__init__" pl)
   NN LJ f first (IV LJ (FK [.Name x p2] X.env)) (KR LJ (Jq [] X.env))):=by rfl):
  PS X (.Expr (.Call (.Attribute (.Name "Exception" p1) "__init__" La) [.Name x p2] [] LJ) pos) (Ba C i):=by
 intro pins s σ H D I h;obtain⟨p,hp,hH,hD⟩:=h;refine wpAny_Expr_any ?_ I.quiet hs;refine Lm (pl:=pl) (lD I hg hm Cs ?_) ht;obtain⟨m,Fr⟩:=I.fr;refine PySem.W.method_type Fr I.mod.Vz aa5 A6 (E3 X.K) Gc ?_;have I0:aE X pins σ H { s with toks:=s.toks+1 } :=I.tok _;refine OD (e:= .Name x p2) (rest:=[]) ?_ (by rw[Kq];rfl) Gc;rw[Kq];refine K5 (b8 (hx pins _ σ H (λv H'=>v= .ref p/\H'=H) I0 (mM #[Gc,Gc] hp)) λu s1 z=>?_);obtain⟨v,H',I1,rv,e1,e2⟩:=z;subst e1 e2;cases rv;refine Ll ?_;obtain⟨h1,g1,d1,t1,Wm⟩:=s1;obtain⟨⟨T,hT⟩,_⟩:=I1.Iu _ _ hH;obtain⟨Nn,mN,oI,NR,mR,⟨nm,q,bs,sn,sub,ab,col,dd,k0,k1,k2,k3,k5,hC⟩,_⟩:=XC.at_ h1 I1.ND;refine QK (yr Q2 afY hC hT ?_);have gx:((h1.push (ee [])).update p (Iq (·.setIfInBounds 0 (.ref h1.objs.size)))).get? p=Fa (dj C h1.objs.size):=
  Jz _ (Fz _ hT) Gc
 have J:aE X pins σ (aF H' p (qV C p)) ⟨(h1.push (ee [])).update p (Iq (·.setIfInBounds 0 (.ref h1.objs.size))),g1,d1,t1,Wm⟩:=
  I1.write (x:=p) (e:=p) (t':=t1) (by rw[hH];exact Hl) (.inl Gc) (λb u hb z=>by rw[Hf _ _ (IG hb)];exact Fz _ z) #[_,gx]
   #[#[_,gx],#[_,gx],λ_ _ ⟨T,z⟩ y=>#[T,y _ z]]
 rw[aa6 hH] at J;exact#[σ,H',J,hD]
section
variable {CX:pP}{sp:Sp}{E:XK}
theorem fi (hg:Gl X x) (hm:X.mg x=Fa (.ref R)) (c:Ah X.K R m f) (F:bU X.prog X.w X.K X.mg X.base CX k f fd ps sp) (hr:bZ k X.A) (hb:fZ X.K fd ps ds) (hd:aX Rt ds) (hx:dh CX X E) (ha:PA X (e::es) t)
  (R8:(x == [003])=FS:=by decide) (Kq:FK (e::es) X.env=[001]::FK es X.env:=by rfl) (MT:(IV pos (FK es X.env)).any (·.1)=FS:=by rfl)
  (ht:eval (.Call (.Attribute (.Name x p1) m La) (e::es) [] pos) X.env=(do
   let ov<-eval (.Name x p1) X.env
   standAt La.atName
   let (f,first)<-holding [ov] (K7 ov m pl)
   NN pos f first (IV pos (FK (e::es) X.env)) (KR pos (Jq [] X.env))):=by rfl):
  PE X (.Call (.Attribute (.Name x p1) m La) (e::es) [] pos) (z6 sp Rt E t):=by
 rw[01];refine Lm (pl:=pl) (ga I hg hm ?_ R8) ht;obtain⟨mm,Fr⟩:=I.fr;refine PySem.W.method_of_cls Fr I.mod.Vz c.sp (PySem.W.cls_val Fr I.mod.Vz c.ty c.rd c.fc Gc ?_);have I0:aE X pins σ H { s with toks:=s.toks+1 } :=I.tok _;refine KQ (first:=[]) (h₀:=X.base) I.ok.mod.Vz c.kp (b8 (ha pos pins _ σ H _ I0 h) λus s1 ⟨vs,H1,I1,r,q⟩=>#[I1.ND,?_]) Kq MT
 exact rk F hr hb hd hx I1 r q
end
theorem iZ:("__setattr__":FR)∈cY:=by decide+kernel
theorem pN:("__getattribute__":FR)∈cY:=by decide+kernel
theorem mO:("__getattr__":FR)∈cY:=by decide+kernel
theorem XAt.la {R C fI:Fi}{B:String}{y:Ft Fh}(X:XAt h R C fI) (m:mroOf (.type B)=pure c7) (q:n∈cY) (l:HR (.type B) n=pure y):LA h (.ref R::c7) n y:=by
 obtain⟨_,_,_,_,_,_,_,_,_,_,_,⟨_,_,_,_,_,_,_,_,_,_,_,_,_,hR⟩,nR,qR⟩:=X;exact LA.own hR nR (qR n q) (LA.of m l)
section
variable {X:Cx}{pins:E9 (Fi×IW)}{σ:St}{H:Hp}{s:Fn}{R C fI p d:Fi}{f:FR}{y:V}{u:Fh}{A:GV}{E:Fh->Fn->Prop}{Q:Nc->Fn->Prop}{fs:E9 (FR×V)}{sa owner B:String}
theorem kX {mA:FR->Ft Fh}(n:h.Ns1 d mA) (r: ∀g,fU (fs.lookup g) (mA g)) (wi:N3 mA (fs.map (·.1))):cx X.prog X.w H h d (ci d fs):=by
 obtain⟨o,es,ep,e,z⟩:=id n;exact#[#[mA,n,r,wi],#[o,e],λh1 h2 ⟨m,n1,q1⟩ k=>#[m,n1.at k,q1]]
theorem Bf (XC:dD X.K R C fI) (SF:Mx B c7 sa owner) (hf:f∈cY) (hB:HR (.type B) f=pure FB) (I:aE X pins σ H s) (e:H p=Fa (qV C p)) (ry:bh y u)
  (h: ∀d s',H d=FB->aE X pins σ (aF (aF H d (ci d [(f,y)])) p (kg C d p)) s'->Q () s'):FV (model X.prog X.w) A (Te (.ref p) f u) Q E s:=by
 have XA:=XC.at_ _ I.ND;obtain⟨⟨T,hT⟩,_⟩:=I.Iu _ _ e;obtain⟨h1,g1,d1,t1,Wm⟩:=s;obtain⟨Nn,mN,oI,NR,mR,⟨nm,q,bs,sn,sub,ab,col,dd,k0,k1,k2,k3,k5,hC⟩,VA,Xu,WK,_⟩:=id XA;refine wG SF hC VA (WK _ iZ) (XA.la SF.mro iZ SF.slot.lookup) hT Gc λtk t=>Dj SF hC VA (WK _ hf) (XA.la SF.mro hf hB) hT Gc Gc Gc λh' T8 k kx kn=>#[Gc,?_]
 have fr:H h1.objs.size=FB:=I.Iu.fresh (FF _)
 have np:h1.objs.size≠p:=λz=>by rw[z,e] at fr;cases fr
 refine h h1.objs.size _ fr ?_;have gd:(h1.push { cls:= .type "dict",data:= .dict [].toArray }).get? h1.objs.size=Fa { cls:= .type "dict",data:= .dict [].toArray } :=G6 _ Gc;have n0:(h1.push { cls:= .type "dict",data:= .dict [].toArray }).Ns h1.objs.size (λ_=>FB):=#[_, [].toArray,_,gd,Gc,(λe he=>FH he (by simp)),λ_=>rfl]
 have I1:aE X pins σ (aF H h1.objs.size (ci h1.objs.size [])) ⟨h1.push { cls:= .type "dict",data:= .dict [].toArray },g1,d1,T8,Wm⟩:=
  I.laid (t':=T8) (λb u z=>Fz _ z) (FF _) (kX (O3 n0) (λ_=>Hl) λg hg=>FH Gc hg)
 have Wn:(h1.push { cls:= .type "dict",data:= .dict [].toArray }).get? p=Fa (dj C T):=Fz _ hT
 have gp:((h1.push { cls:= .type "dict",data:= .dict [].toArray }).update p λo=> { o with dict:=Fa h1.objs.size }).get? p=Fa { dj C T with dict:=Fa h1.objs.size } :=Jz _ Wn Gc
 have I2:aE X pins σ (aF (aF H h1.objs.size (ci h1.objs.size [])) p (kg C h1.objs.size p)) ⟨(h1.push { cls:= .type "dict",data:= .dict [].toArray }).update p λo=> { o with dict:=Fa h1.objs.size },g1,d1,T8,Wm⟩:=
  I1.write (x:=p) (e:=p) (t':=T8) (by rw[ac np.symm,e];exact Hl) (.inl Gc) (λb u hb z=>by rw[Hf _ _ (IG hb)];exact z) #[_,gp]
   #[#[_,_,gp,Gc,Gc,Gc,Gc],#[_,gp],λ_ _ ⟨o,vs,z,r⟩ k=>#[o,vs,k _ z,r]]
 obtain⟨od,_,_,hod,_⟩:=id kn;have I3:aE X pins σ (aF (aF (aF H h1.objs.size (ci h1.objs.size [])) p (kg C h1.objs.size p)) h1.objs.size (ci h1.objs.size [(f,y)])) ⟨h',g1,d1,T8,Wm⟩:=by
  refine I2.write (x:=h1.objs.size) (e:=h1.objs.size) (t':=T8) (by rw[ac np,ae];exact Hl) (.inl Gc) (λb v hb z=>?_) #[_,hod] (kX kn (λg=>?_) λg hg=>?_)
  .by_cases bp:b=p
   .rw[bp] at z ⊢
    rw[gp] at z;rw[kx,<-z]
   .rw[Hf _ _ (IG bp)] at z
    refine k b v bp ?_;rcases GY.get?_push_cases z with⟨z1,_⟩|z1
    .exact FH z1 hb
    .exact z1
  .show fU (Ju g [(f,y)]) (if g=f then Fa u else FB)
   by_cases gf:g=f
   .rw[gf,Fm Gc]
    simp only[Ju,G7];exact ry
   .rw[Fj gf,Ju,show(g == f)=FS from beq_eq_false_iff_ne.mpr gf]
    exact Hl
  .by_cases gf:g=f
   .rw[gf];exact Fq
   .exact FH (Fj gf) hg
 have eH:aF (aF (aF H h1.objs.size (ci h1.objs.size [])) p (kg C h1.objs.size p)) h1.objs.size (ci h1.objs.size [(f,y)])=aF (aF H h1.objs.size (ci h1.objs.size [(f,y)])) p (kg C h1.objs.size p):=by
  funext b
  by_cases b1:b=h1.objs.size
  .rw[b1,ae,ac np,ae]
  .by_cases b2:b=p
   .rw[b2,ac np.symm,ae,ae]
   .rw[ac b1,ac b2,ac b1,ac b2,ac b1]
 rw[eH] at I3;exact I3
theorem AL (XC:dD X.K R C fI) (SF:Mx B c7 sa owner) (hf:f∈cY) (hB:HR (.type B) f=pure FB) (I:aE X pins σ H s) (e:H p=Fa (kg C d p)) (ed:H d=Fa (ci d fs)) (hl:fs.length<1000) (ry:bh y u)
  (h: ∀s',aE X pins σ (aF H d (ci d (Ib f y fs))) s'->Q () s'):FV (model X.prog X.w) A (Te (.ref p) f u) Q E s:=by
 have XA:=XC.at_ _ I.ND;obtain⟨⟨o,vs,x1,x2,x3,x4,x5⟩,_⟩:=I.Iu _ _ e;obtain⟨⟨mA,n,r,wi⟩,_⟩:=I.Iu _ _ ed;obtain⟨h1,g1,d1,t1,Wm⟩:=s;obtain⟨Nn,mN,oI,NR,mR,⟨nm,q,bs,sn,sub,ab,col,dd,k0,k1,k2,k3,k5,hC⟩,VA,Xu,WK,_⟩:=id XA
 have dp:d≠p:=λz=>by
  obtain⟨o',es,ep,z1,z2,_⟩:=n;rw[z,x1] at z1;have y:=FG z1;rw[<-y,x4] at z2;cases z2
 have hz:(fs.map (·.1)).length<=1000:=by rw[Fx];lia
 refine wG SF hC VA (WK _ iZ) (XA.la SF.mro iZ SF.slot.lookup) x1 x2 λtk t=>AE SF hC VA (WK _ hf) (XA.la SF.mro hf hB) x1 x2 x3 n wi hz λh' T8 k kn=>#[Gc,?_];obtain⟨od,_,_,hod,_⟩:=id kn;refine h _ (I.write (x:=d) (e:=d) (t':=T8) (by rw[ed];exact Hl) (.inl Gc) k #[_,hod] (kX kn (λg=>?_) λg hg=>?_))
 .rw[iE]
  by_cases gf:g=f
  .rw[Fm gf,Fm gf];exact ry
  .rw[Fj gf,Fj gf];exact r g
 .by_cases gf:g=f
  .rw[gf];exact(gA f y fs).1
  .refine(gA f y fs).2 g (wi g λz=>hg ?_)
   show(if g=f then Fa u else mA g)=FB
   rw[Fj gf];exact z
theorem DX {Q:Fh->Fn->Prop}{φ:GY->Prop}(XC:dD X.K R C fI) (hf:f∈cY) (hB:HR (.type "Exception") f=pure FB) (I:aE X pins σ H s)
  (e: ∃o vs,s.heap.get? p=Fa o/\o.cls= .ref C/\o.dict=Fa d/\o.data= .fields vs) (ed:H d=Fa (ci d fs)) (l:fs.lookup f=Fa v)
  (h: ∀u s',aE X pins σ H s'->bh v u->Q u s'):FV (model X.prog X.w) A (Td (.ref p) f b) Q E s:=by
 have XA:=XC.at_ _ I.ND;obtain⟨o,vs,x1,x2,x3,x4⟩:=e;obtain⟨⟨mA,n,r,wi⟩,_⟩:=I.Iu _ _ ed;obtain⟨h1,g1,d1,t1,Wm⟩:=s;obtain⟨Nn,mN,oI,NR,mR,⟨nm,q,bs,sn,sub,ab,col,dd,k0,k1,k2,k3,k5,hC⟩,VA,Xu,WK,_⟩:=id XA
 have dp:d≠p:=λz=>by
  obtain⟨o',es,ep,z1,z2,_⟩:=n;rw[z,x1] at z1;have y:=FG z1;rw[<-y,x4] at z2;cases z2
 have nc: ∀c,o.data≠ .cls c:=λc z=>by rw[x4] at z;cases z
 have I0:h1.Inst p C mA:=#[o,x1,x2,nc, .inr #[d,x3,dp,n]];obtain⟨u,hu,ru⟩:=fU.some_of (v:=v) (o:=mA f) (by rw[<-l];exact r f);exact DL AA (XA.la Iv.mro pN afV) (XA.la Iv.mro mO afW) (hC) VA (WK _ pN) (WK _ mO) (WK _ hf) (XA.la Iv.mro hf hB) I0 hu (PySem.W.handedOut_of (pJ ru)) (h u _ (I.tok _) ru)
end
section
variable {ta tv:TE}
def sX0 (C:Fi) (ta tv:TE) (f:FR):TS:=λD σ H=>tv σ H λy H1=>ta σ H1 λx H2=> ∃p,x= .ref p/\H2 p=Fa (qV C p)/\ ∀d,H2 d=FB->D.nx σ (aF (aF H2 d (ci d [(f,y)])) p (kg C d p))
def sX1 (C:Fi) (ta tv:TE) (f:FR):TS:=λD σ H=>tv σ H λy H1=>ta σ H1 λx H2=> ∃p d fs,x= .ref p/\H2 p=Fa (kg C d p)/\H2 d=Fa (ci d fs)/\fs.length<1000/\D.nx σ (aF H2 d (ci d (Ib f y fs)))
theorem ahw (XC:dD X.K R C fI) (SF:Mx "Exception" c7 sa owner) (hf:f∈cY) (hB:HR (.type "Exception") f=pure FB) (ha:PE X o ta) (hv:PE X Kk tv)
  (hs:LL Kk (Fa (.Attribute o f NG)) pos.line X.env=pure FS):PS X (.Assign [.Attribute o f NG] Kk pos) (sX0 C ta tv f):=by
 intro pins s σ H D I h;refine Mq (b8 (hv pins s σ H _ I h) λu s1 ⟨y,H1,I1,ry,q⟩=>b8 (ha pins s1 σ H1 _ I1 q) λov s2 ⟨x,H2,I2,rx,p,ex,ea,q2⟩=>?_) hs;subst ex;obtain rfl:ov=FZ p:=rx;exact Bf XC SF hf hB I2 ea ry λd s3 hd I3=>#[σ,_,I3,q2 d hd]
theorem BZ (XC:dD X.K R C fI) (SF:Mx "Exception" c7 sa owner) (hf:f∈cY) (hB:HR (.type "Exception") f=pure FB) (ha:PE X o ta) (hv:PE X Kk tv)
  (hs:LL Kk (Fa (.Attribute o f NG)) pos.line X.env=pure FS):PS X (.Assign [.Attribute o f NG] Kk pos) (sX1 C ta tv f):=by
 intro pins s σ H D I h;refine Mq (b8 (hv pins s σ H _ I h) λu s1 ⟨y,H1,I1,ry,q⟩=>b8 (ha pins s1 σ H1 _ I1 q) λov s2 ⟨x,H2,I2,rx,p,d,fs,ex,ea,ed,l,q2⟩=>?_) hs;subst ex;obtain rfl:ov=FZ p:=rx;exact AL XC SF hf hB I2 ea ed l ry λs3 I3=>#[σ,_,I3,q2]
end
abbrev yA (X:Cx) (pins:E9 (Fi×IW)) (Ew:Fh->Fn->Prop):Cx:= { X with pn:=X.pn++pins,xe:=Ew }
abbrev Du (X:Cx) (a:Fi):Cx:= { X with A:=X.A.mark (Fa (.ref a)),calm:=FS,xe:=λ_ _=>False }
section
variable {H:Hp}{Ew:Fh->Fn->Prop}{a:Fi}
theorem AY (I:aE X pins σ H s):aE (yA X pins Ew) [] σ H s:=
 #[#[I.ok.mod,I.ok.kind,I.ok.glob,I.ok.blt,I.ok.above,I.ok.inj,I.ok.has,I.ok.Yc,I.ok.hd,I.ok.frames,I.ok.Yd,I.ok.exf,I.ok.bs,I.ok.U5,I.ok.SS,I.ok.SU,I.ok.funs,I.ok.WC],I.os,I.bare,I.base,I.loc,I.cell,I.free,I.Mp,
  λp hp=>I.pin p (by rw[Hc] at hp;exact hp),I.Iu,I.len]
theorem eT (I:aE (yA X pins Ew) UD σ H s):aE X pins σ H s:=
 #[#[I.ok.mod,I.ok.kind,I.ok.glob,I.ok.blt,I.ok.above,I.ok.inj,I.ok.has,I.ok.Yc,I.ok.hd,I.ok.frames,I.ok.Yd,I.ok.exf,I.ok.bs,I.ok.U5,I.ok.SS,I.ok.SU,I.ok.funs,I.ok.WC],I.os,I.bare,I.base,I.loc,I.cell,I.free,I.Mp,
  λp hp=>I.pin p (Md _ hp),I.Iu,I.len]
theorem wQ (I:aE X pins σ H s):aE (Du X a) pins σ H s:=
 #[#[I.ok.mod,I.ok.kind,I.ok.glob,I.ok.blt,I.ok.above,I.ok.inj,I.ok.has,I.ok.Yc,λz=>Ht z,I.ok.frames,I.ok.Yd,I.ok.exf,I.ok.bs,I.ok.U5,I.ok.SS,I.ok.SU,I.ok.funs,I.ok.WC],I.os,I.bare,I.base,I.loc,I.cell,I.free,I.Mp,
  I.pin,I.Iu,I.len]
theorem yj (ok:X.Ok) (I:aE (Du X a) pins σ H s):aE X pins σ H s:=#[ok,I.os,I.bare,I.base,I.loc,I.cell,I.free,I.Mp,I.pin,I.Iu,I.len]
theorem jV (h:SP (yA X pins Ew) UD D f s'):SP X pins D f s':=by
 cases f with
 |next=>obtain⟨σ',H',I,q⟩:=h;exact#[σ',H',eT I,q]
 |brk=>obtain⟨σ',H',I,q⟩:=h;exact#[σ',H',eT I,q]
 |cont=>obtain⟨σ',H',I,q⟩:=h;exact#[σ',H',eT I,q]
 |ret u=>obtain⟨v,σ',H',I,r,q⟩:=h;exact#[v,σ',H',eT I,r,q]
theorem yI (I:aE X pins σ H s) (hn:H a=FB) (z:X.PV.heap.objs.size<=a) (nl:a≠X.env.locals) (nc: ∀x c,X.env.cells.lookup x=Fa c->c≠a) (np: ∀p∈X.pn++pins,p.1≠a)
  (new:cx X.prog X.w (aF H a o) s.heap a o):aE X pins σ (aF H a o) s:=by
 have ne: ∀b u,H b=Fa u->b≠a:=λb u e y=>by rw[y,hn] at e;cases e
 refine I.step (h':=s.heap) (g':=s.gens) (t':=s.toks) (d':=s.drawn) (ch:=[a]) (λb hb=>?_) (λb o _ _ _ e _=>e) (λb o _ _ _ e _=>#[o.slots,e]) (λb o hb e y=>?_) (λb o _ e=>#[o,e]) (λb xs e=>?_) (λb o u e=>?_) (λb ps e=>#[[].toArray,?_]) (λm y=>y) (λb u e=>?_) I.bare
 .rw[FN.mp hb];exact#[.inr z,nl,nc,np]
 .rw[ac (λy=>hb (by rw[y];exact Fq))];exact y
 .rw[ac (ne b _ e)];exact e
 .rw[ac (ne b _ e)];exact e
 .rw[ac (ne b _ e),e];simp
 .by_cases hb:b=a
  .rw[hb,ae] at e
   rw[hb,<-FG e];exact new
  .rw[ac hb] at e
   exact(I.Iu b u e).RZ (λc v _ q=>q) (λc q=>by rw[ac (ne c _ q)];exact q) λc xs q=>by rw[ac (ne c _ q)];exact q
theorem B4 {m:FR->Ft Fh}(I:aE X pins σ H s) (hn:h'.Ns X.env.locals m) (hs:MK X.env.locals s.heap h'):aE X pins (Jl X.N.length FB) H { s with heap:=h',toks:=t } :=by
 have W:aE X pins (Jl X.N.length FB) H s:=I.weak (by rw[Oo];exact I.len.symm) λi v e=>by
  rw[Lb] at e;split at e<;>cases e
 have nL: ∀b u,H b=Fa u->b≠X.env.locals:=λb u e y=>by rw[y,I.free] at e;cases e
 obtain⟨ol,_,_,hol,_⟩:=id hn;refine#[W.ok,W.os,W.bare,#[λb o e n hb hx=>?_,λb o e n hb hx=>?_,W.base.free,λb o e hx=>?_,W.base.Ra,W.base.QO,W.base.Rc],#[m,hn,λi x v _ e _=>?_],λx c e=>?_,W.free,W.Mp,λp hp=>?_,λb u e=>?_,W.len]
 .exact(hs.2 b (Ha (F5 (FX e) I.ok.above))).trans (W.base.keep b o e n hb hx)
 .obtain⟨sl,y⟩:=W.base.slot b o e n hb hx
  exact#[sl,(hs.2 b (Ha (F5 (FX e) I.ok.above))).trans y]
 .obtain⟨o',y⟩:=W.base.there b o e hx
  exact#[o',(hs.2 b (Ha (F5 (FX e) I.ok.above))).trans y]
 .rw[Lb] at e
  split at e<;>cases e
 .obtain⟨v,o,y,yd⟩:=I.cell x c e
  exact#[v,o,(hs.2 c (I.Ye x c e)).trans y,yd]
 .obtain⟨e1,e2,e3,e4⟩:=I.pin p hp
  exact#[(hs.2 p.1 e3).trans e1,e2,e3,e4]
 .refine(I.Iu b u e).RZ (λc v hc q=>(hs.2 c ?_).trans q) [05] λ_ _ q=>q
  rcases hc with y|y
  .rw[y];exact nL b u e
  .exact nL c _ y
end
structure Own (X:Cx) (pins:E9 (Fi×IW)) (b:Fi):Prop where
 z:X.PV.heap.objs.size<=b
 nl:b≠X.env.locals
 nc: ∀x c,X.env.cells.lookup x=Fa c->c≠b
 np: ∀p∈X.pn++pins,p.1≠b
theorem vU {X:Cx}{pins:E9 (Fi×IW)}{σ:St}{H:Hp}{s:Fn}(I:aE X pins σ H s) (hb:s.heap.objs.size<=b):Own X pins b:=by
 refine#[FP I.sz hb,Ly (F5 I.lt hb),λx c e z=>?_,λp hp z=>?_]
 .obtain⟨v,q⟩:=I.cell x c e
  exact FH (F5 q.lt (by rw[z];exact hb)) (HZ _)
 .exact FH (F5 (FX (I.pin p hp).1) (by rw[z];exact hb)) (HZ _)
def jT (C d a:Fi):HO:= .ext λh=> ∃o vs,h.get? a=Fa o/\o.cls= .ref C/\o.dict=Fa d/\o.data= .fields vs
structure Eu (X:Cx) (pins:E9 (Fi×IW)) (H:Hp) (h:GY) (C d a:Fi):Prop where
 own:Own X pins a
 no:H a=FB
 ex: ∃oe vs T oT ts,h.get? a=Fa oe/\oe.cls= .ref C/\oe.dict=Fa d/\oe.data= .fields vs/\vs[1]?=Fa (.ref T)/\T≠a/\H T=FB/\Own X pins T/\h.get? T=Fa oT/\oT.data= .fields ts/\ts[3]?=Fa .none
abbrev alS (X:Cx) (hs:E9 ExceptHandler) (Q:Flow->Fn->Prop):Fh->Fn->Prop:=λe s1=>FV (model X.prog X.w) X.A (P9 e X.env) (λ_ s2=>FV (model X.prog X.w) X.A (RF e FB) (λ_ s3=>FV (model X.prog X.w) X.A (handleBy e X.env hs) Q X.xe s3) X.xe s2) X.xe s1
section
variable {Q:Flow->Fn->Prop}{Ek:XK}
theorem D0 (Kq:X.stack=X.env::X.outer) (Sj:X.env.frame=Fa X.env.locals)
  (hh: ∀(C a d:Fi) (σ:St) (H:Hp) (s:Fn),aE X pins σ H s->Eu X pins H s.heap C d a->Ek (.ref C) (Fa d) H->FV (model X.prog X.w) X.A (handleBy (.ref a) X.env hs) Q X.xe s):
  dh (fY X.prog X.w) (yA X pins (alS X hs Q)) Ek:=by
 intro UD σ H s e s' I h;obtain⟨C,a,d,H',rfl,os,bare,un,Iu,za,ha,⟨oe,vs,T,oT,ts,x1,x2,x3,x4,x5,x6,x7,x8,x9,x10,x11⟩,hE⟩:=h;have J0:=I.Wg (ch:=[]) os un Iu bare (λb z=>nomatch z)
 have J:aE X pins σ H' s':=eT J0
 have oa:Own X pins a:=vU (eT I) za
 have oT':Own X pins T:=vU (eT I) x6
 have fr:X.A.frames=Fa (X.env::X.outer):=by rw[J.ok.frames,Kq]
 have st:s'.heap.FunFrames X.base (X.env::X.outer):=by rw[<-Kq];exact J.stack
 show FV (model X.prog X.w) X.A (P9 (.ref a) X.env) _ _ s'
 refine xf (base:=X.base) fr st Sj x1 x4 x5 x7 x9 x10 x11 λh' L=>?_;have ck: ∀b∈[a,T],H' b=FB:=λb hb=>by
  rcases Fy.mp hb with z|z
  .rw[z];exact ha
  .rw[FN.mp z];exact x8
 have fq:(X.env::X.outer).filterMap (·.frame)=rK X.stack:=by rw[Kq];rfl
 rw[fq] at L;have hk:ib X.prog X.w H' h':=λb u e=>by
  refine(J.Iu b u e).RZ (λc v hc q=>L.keep c v (λz=>?_) (λz=>?_) q) [05] λ_ _ q=>q
  .have y:=J.QH c z
   rcases hc with w1|w1
   .rw[w1,e] at y;cases y
   .rw[w1] at y;cases y
  .have y:=ck c z
   rcases hc with w1|w1
   .rw[w1,e] at y;cases y
   .rw[w1] at y;cases y
 have K1:aE X pins σ H' { s' with heap:=h' } :=by
  refine J.call (g':=s'.gens) (t':=s'.toks) (d':=s'.drawn) (ch:=[a,T]) #[λb o e n hb hx=>L.keep b o hb hx e,λb o e n hb hx=>L.slot b o hb hx e,λb o e n hx=>n,λb o e hx=>L.there b o e,λ_ _ e=>e,λ_ _ _ e=>e,λb ps e=>#[[].toArray,by rw[e];simp]] hk J.bare λb hb=>?_;rcases Fy.mp hb with z|z
  .rw[z];exact#[.inr oa.z,oa.nl,oa.nc,oa.np]
  .rw[FN.mp z];exact#[.inr oT'.z,oT'.nl,oT'.nc,oT'.np]
 obtain⟨ws,T2,oT2,ts2,y1,y2,y3,y4,y5,y6,y7⟩:=L.fly;exact hh C a d σ H' _ K1 #[oa,ha,_,ws,T2,oT2,ts2,y1,x2,x3,Gc,y2,y4,J.Iu.fresh y3,vU J y3,y5,y6,y7] hE
end
section
variable {a:Fi}{H:Hp}{th:TS}
def C8 (R G C:Fi):Prop:=G=C\/G=R
theorem CG (XC:dD X.K R C fI) (hG:C8 R G C) {E:Fh->Fn->Prop}{Q:Gu->Fn->Prop}(I:aE X pins σ H s) (cm:Eu X pins H s.heap C d a) (q:Q FM s):FV M A (excMatches (.ref a) (.ref G)) Q E s:=by
 obtain⟨Nn,mN,oI,NR,mR,⟨nm,qq,bs,sn,sub,ab,col,dd,k0,k1,k2,k3,k5,hC⟩,_,_,_,_,_,⟨nm',qq',bs',sn',amG,ab',amH,WJ,k0',k1',k2',k3',k5',hR⟩,_⟩:=XC.at_ _ I.ND;obtain⟨oe,vs,T,oT,ts,y1,y2,_⟩:=cm.ex;obtain⟨h1,g1,d1,t1,Wm⟩:=s;rcases hG with rfl|rfl
 .exact wpAny_excMatches_sub_self hC y1 y2 (by rw[GB];rfl) q
 .have u1:(FZ G::c7).contains (.type "BaseException")=FM:=by rw[GB];rfl
  have u2:(FZ C:: .ref G::c7).contains (.ref G)=FM:=by simp
  have f:=tc_notTuple;unfold excMatches
  repeat (first|(with_reducible refine Gz y1 ?_;rw[y2])|with_reducible refine Gz hR ?_|(with_reducible refine wpAny_isSubtype_exc hR ?_;rw[u1])|(with_reducible refine wpAny_isSubtype_exc hC ?_;rw[u2])|wp_step)
  exact q
theorem vg {E:Fh->Fn->Prop}{Q:Nc->Fn->Prop}(I:aE X pins σ H s) (cm:Eu X pins H s.heap C d a)
  (h: ∀s',aE X pins σ H s'->(∃o vs,s'.heap.get? a=Fa o/\o.cls= .ref C/\o.dict=Fa d/\o.data= .fields vs)->Q () s'):FV M A (RF (.ref a) FB) Q E s:=by
 obtain⟨oe,vs,T,oT,ts,y1,y2,y3,y4,y5,y6,y7,y8,y9,y10,y11⟩:=cm.ex;refine wpAny_setFlight_none y1 y4 y5 y9 y10 (Kr.mp y11).1 (h _ (I.turned (it:=T) (t':=s.toks) (λb o hb e=>by rw[Hf _ _ (IG hb)];exact e) y7 y8.nl (.inr y8.z) y8.nc y8.np) ?_);exact#[oe,vs,by show(s.heap.update T _).get? a=_;rw[Hf _ _ y6];exact y1,y2,y3,y4]
theorem aa7 (XC:dD X.K R C fI) (hG:C8 R G C) (hg:Gl X x) (hm:X.mg x=Fa (.ref G)) (hN:X.N.Nodup) (hi:X.N[i]?=Fa n) (hl:X.env.scope.names.lookup n=Fa .local) (hs:uo (Du X a) (b0::UM) th)
  (I:aE X pins σ H s) (cm:Eu X pins H s.heap C d a) (hr:th #[λ_ _=>False,D.rt,λ_ _=>False,λ_ _=>False] ((Jl X.N.length FB).set i (Fa (.ref a))) (aF H a (jT C d a)))
  (R8:(x == [003])=FS:=by decide):
  FV (model X.prog X.w) X.A (handleBy (.ref a) X.env [.ExceptHandler (Fa (.Name x np)) (Fa n) (b0::UM) ahx]) (SP X pins D) X.xe s:=by
 refine wpAny_handleBy_cons (codeAny_handlers_test ?_) (by intro q;cases q);refine ga (X:=Du X a) (wQ I) hg hm ?_ R8;refine CG XC hG I cm ?_;show Lq _ _ _ _ _;refine codeAny_handlers_suite_as (vg I cm λs1 I1 e1=>?_);have I2:aE X pins (Jl X.N.length FB) H s1:=I1.weak (by rw[Oo];exact I1.len.symm) λi v e=>by
  rw[Lb] at e;split at e<;>cases e
 have I3:aE X pins (Jl X.N.length FB) (aF H a (jT C d a)) s1:=
  yI I2 cm.no cm.own.z cm.own.nl cm.own.nc cm.own.np #[e1,#[_,e1.choose_spec.choose_spec.1],λ_ _ ⟨o,vs,z,r⟩ k=>#[o,vs,k _ z,r]]
 refine jN (X:=Du X a) (v:= .ref a) (wQ I3) hN hi (.inl hl) Gc (λs4 I4=>?_) (.inr hl);refine ID (hs pins s4 _ _ _ I4 hr) (λf s5 z=>?_) λ_ _ z=>z.elim;cases f with
 |next=>obtain⟨_,_,_,z⟩:=z;exact z.elim
 |brk=>obtain⟨_,_,_,z⟩:=z;exact z.elim
 |cont=>obtain⟨_,_,_,z⟩:=z;exact z.elim
 |ret u=>
  obtain⟨v,σ5,H5,I5,r5,q5⟩:=z;obtain⟨m,hn,_⟩:=id I5.loc;refine wpAny_nameGoes hl hn (by rw[I.ok.kind];rfl) λh' m' n' sb=>#[v,_,H5,B4 (yj I.ok I5) n' sb,r5,q5]
end
section
variable {tb th:TS}{Ek:XK}
def aa8 (Ek:XK) (m i:FC) (tb th:TS):TS:=λD σ H=>tb D σ H/\ ∀C d H' a,Ek (.ref C) (Fa d) H'->H' a=FB->
 th #[λ_ _=>False,D.rt,λ_ _=>False,λ_ _=>False] ((Jl m FB).set i (Fa (.ref a))) (aF H' a (jT C d a))
theorem C9 (Ek:XK) (Kq:X.stack=X.env::X.outer) (Sj:X.env.frame=Fa X.env.locals) (hE: ∀C d H,Ek (.ref C) (Fa d) H-> ∃fI,dD X.K R C fI/\C8 R G C) (hg:Gl X x) (hm:X.mg x=Fa (.ref G)) (hN:X.N.Nodup) (hi:X.N[i]?=Fa n) (hl:X.env.scope.names.lookup n=Fa .local)
  (hb: ∀pins Ew,dh (fY X.prog X.w) (yA X pins Ew) Ek->uo (yA X pins Ew) body tb) (hs: ∀a,uo (Du X a) (b0::UM) th) (R8:(x == [003])=FS:=by decide):
  PS X (.Try body [.ExceptHandler (Fa (.Name x np)) (Fa n) (b0::UM) ahx] [] [] pos) (aa8 Ek X.N.length i tb th):=by
 intro pins s σ H D I h;refine wpAny_Try_except ?_;have P:=D0 (hs:=[.ExceptHandler (Fa (.Name x np)) (Fa n) (b0::UM) ahx]) (Q:=SP X pins D) (Ek:=Ek) Kq Sj λC a d σ1 H1 s1 I1 cm hE1=>(hE C d H1 hE1).elim λfI ⟨XC,hG⟩=>aa7 (D:=D) XC hG hg hm hN hi hl (hs a) I1 cm (h.2 C d H1 a hE1 cm.no) R8
 refine ID (hb pins _ P [] s σ H D (AY I) h.1) (λf s1 z=>?_) λe s1 z=>z;cases f with
 |next=>exact M8 (jV z)
 |brk=>exact jV z
 |cont=>exact jV z
 |ret u=>exact jV z
def ahy (K:Fe) (te:TE) (f:FR):TE:=λσ H Q=>te σ H λx H1=> ∃R C fI a d fs v,dD K R C fI/\x= .ref a/\H1 a=Fa (jT C d a)/\H1 d=Fa (ci d fs)/\fs.lookup f=Fa v/\Q v H1
theorem E2 {te:TE}{K:Fe}(hK:X.K=K) (hf:f∈cY) (hB:HR (.type "Exception") f=pure FB) (he:PE X e te) (hb:IA e f X.env (eval e X.env)=eval e X.env):PE X (.Attribute e f pos) (ahy K te f):=by
 rw[01];subst hK;refine v9 hb (b8 (he pins s σ H _ I h) λu s1 ⟨x,H1,I1,rx,R,C,fI,a,d,fs,v,XC,ex,ea,ed,l,q⟩=>?_);subst ex;obtain rfl:u=FZ a:=rx;obtain⟨z,_⟩:=I1.Iu _ _ ea;exact DX (φ:=λ_=>True) XC hf hB I1 z ed l λu' s2 I2 ru=>#[v,H1,I2,ru,q]
end
theorem oO:HR (.type "Exception") "number"=pure FB:=by rw[Kt,Ji];kernel_rfl
theorem AJ:HR (.type "Exception") "kind"=pure FB:=by rw[Kt,Ji];kernel_rfl
theorem zV:HR (.type "Exception") "line"=pure FB:=by rw[Kt,Ji];kernel_rfl
theorem ve:HR (.type "Exception") "column"=pure FB:=by rw[Kt,Ji];kernel_rfl
abbrev CK (n l c:Int):E9 (FR×V):=[("number", .int (-3)),("kind", .int n),("line", .int l),("column", .int c)]
abbrev EJ (n:Int):E9 (FR×V):=[("number", .int n)]
def ahz:E9 V->E9 (FR×V)->Prop:=λus fs=> ∃n:Int,us=[.int n]/\fs=EJ n
def aa9:E9 V->E9 (FR×V)->Prop:=λus fs=> ∃n l c:Int,us=[.int n, .int l, .int c]/\fs=CK n l c
theorem bP (T:aW K mg a) (XC:dD K a.Hg C fI):T.WE.U P w mg base 1 (dQ C ahz):=by
 refine T.WE.F.ok ala (λvs H Q E h=>?_) [02]
 .obtain⟨p,us,fs,rfl,⟨n,rfl,rfl⟩,_⟩:=h
  rfl
 .obtain⟨p,us,fs,rfl,⟨n,rfl,rfl⟩,hp,q⟩:=h
  refine#[_,(ax (vi (C:=C) (fI:=fI) XC (by rfl) T.SQ (pv 0))
   (aj (ahw XC Iv [00] oO (pv 0) (pv 1) Gc))),?_]
  exact#[p,Gc,hp,p,Gc,hp,λd hd=>q d hd]
theorem jo (T:aW K mg a) (XC:XT K a):T.d_5.U P w mg base 2 (dQ a.HM aa9):=by
 have G:=bP (P:=P) (w:=w) (base:=base) T XC.fc;refine T.d_5.F.ok alb (λvs H Q E h=>?_) [02]
 .obtain⟨p,us,fs,rfl,⟨n,l,c,rfl,rfl⟩,_⟩:=h
  rfl
 .obtain⟨p,us,fs,rfl,⟨n,l,c,rfl,rfl⟩,hp,q⟩:=h
  refine#[_,(ax (bj (fi (by rfl) T.HU XC.rm G [07] T.WE.c.b .nil aQ (aa (pv 0) (aa (dL cK ak) ag))))
   (ax (BZ XC.fc Iv [00] AJ (pv 0) (pv 1) Gc)
   (ax (BZ XC.fc Iv [00] zV (pv 0) (pv 2) Gc)
   (aj (BZ XC.fc Iv [00] ve (pv 0) (pv 3) Gc))))),?_]
  refine#[_,Gc,p,_,EJ (-3),Gc,#[-3,Gc,Gc],hp,λd hd=>?_];have np:d≠p:=(ai hp hd).symm;have z:=q d hd;refine#[p,d,_,Gc,ae,by rw[ac np,ae],by show 1<1000;decide,?_];refine#[p,d,_,Gc,by rw[ac np.symm,ae],ae,by show 2<1000;decide,?_];refine#[p,d,_,Gc,by rw[ac np.symm,ac np.symm,ae],ae,by show 3<1000;decide,?_];have eH: ∀f1 f2 f3 f4:E9 (FR×V),aF (aF (aF (aF (aF H d (ci d f1)) p (kg a.HM d p)) d (ci d f2)) d (ci d f3)) d (ci d f4)=aF (aF H d (ci d f4)) p (kg a.HM d p):=λf1 f2 f3 f4=>by
   funext b
   by_cases hb:b=d
   .rw[hb,ae,ac np,ae]
   .rw[ac hb,ac hb,ac hb]
    by_cases hb2:b=p
    .rw[hb2,ae,ae]
    .rw[ac hb2,ac hb,ac hb2,ac hb]
  show Q .IJ _
  rw[eH];exact z
inductive sG:E9 FR->E9 Stmt->Prop
 |nil:sG [] []
 |cons {f:FR}{fs:E9 FR}{ss:E9 Stmt}{p1 p2 p3 p4:Pos}(_:sG fs ss):sG (f::fs) (.Assign [.Attribute (.Name "self" p1) f p2] (.Name f p3) p4::ss)
inductive kJ (C:Fi) (fs:E9 FR) (vs:E9 V) (H:Hp) (Q:VK) (_E:XK):Prop
 |mk (p dx:Fi) (ws:E9 V) (_:vs= .ref p::ws) (_:ws.length=fs.length) (_:H p=Fa (.ins C dx [])) (_: ∀H':Hp,H' p=Fa (.ins C dx (fs.zip ws))->(∀b o,H b=Fa o->b≠p->H' b=Fa o)->Q .IJ H'):kJ C fs vs H Q _E
theorem rN {f:FR}{v:V} : ∀ {l:E9 (FR×V)},(∀x∈l,x.1≠f)->Ib f v l=l++[(f,v)]
 |[],_=>rfl
 | (g,x)::r,h=>by
  unfold Ib;rw[Fj (h _ Fq),rN λy hy=>h y (Fp _ hy)]
  rfl
theorem D4 {X:Cx}{D:eA}{p dx C:Fi}{σ:L2.St}(c:gM X.K C) (h0:X.N[0]?=Fa ("self":FR)) (v0:oU X.env.scope "self") (s0:σ[0]?=Fa (Fa (.ref p))):
  ∀ {fs:E9 FR}{ss:E9 Stmt},sG fs ss-> ∀ {k:FC}{ws:E9 V}{done:E9 (FR×V)}{H:Hp},(∀g∈fs,ao X.K C g/\oU X.env.scope g/\(g == [003])=FS/\(g == ("__classdict__":FR))=FS)->
   (∀i g,fs[i]?=Fa g->X.N[k+i]?=Fa g)->(∀i v,ws[i]?=Fa v->σ[k+i]?=Fa (Fa v))->ws.length=fs.length->(done.map (·.1)++fs).Nodup->done.length+fs.length<1000->H p=Fa (.ins C dx done)->
   (∀H':Hp,H' p=Fa (.ins C dx (done++fs.zip ws))->(∀b o,H b=Fa o->b≠p->H' b=Fa o)->D.nx σ H')->Bd X ss D σ H:=by
 intro fs ss hi
 induction hi with
 |nil=>
  intro k ws done H _ _ _ hl _ _ hp q;refine cf (q H ?_ λb o e _=>e);rw[NU.mp hl,E9.zip_nil_left,Hc];exact hp
 | @cons f fs ss p1 p2 p3 p4 _ ih=>
  intro k ws done H hg hN hw hl nd len hp q;cases ws with
  |nil=>cases hl
  |cons v ws=>
   obtain⟨no,vf,d1,d2⟩:=hg f Fq;refine aR (b5 (dR h0 v0) (dR (hN 0 f Gc) vf d1 d2) Gc) (mM (mM #[p,C,dx,done,Gc,hp,c,no,by lia,?_] s0) (hw 0 v Gc));have nf: ∀x∈done,x.1≠f:=λx hx e=>by
    have:=(Ln.mp nd).2.2 x.1 (KN hx) f Fq;exact this e
   rw[rN nf];refine ih (k:=k+1) (ws:=ws) (done:=done++[(f,v)]) (λg h=>hg g (Fp _ h)) (λi g e=>?_) (λi u e=>?_) (Rr hl) ?_ ?_ ae λH' h1 h2=>?_
   .rw[Ss,KG 1];exact hN (i+1) g e
   .rw[Ss,KG 1];exact hw (i+1) u e
   .rw[Hk,GG];exact nd
   .rw[FL]
    have:done.length+(fs.length+1)<1000:=len
    show done.length+1+fs.length<1000
    lia
   .refine q H' ?_ λb o e ne=>h2 b o (by rw[ac ne];exact e) ne
    rw[h1,GG]
    rfl
theorem cW {x He:FR}{st:Stmt}{f:Fi}{fd:Gs}{C:Fi}{fs:E9 FR}(F:oX K x He st f fd) (S:az ("self"::fs) ("self"::fs) (af st)) (c:gM K C) (no: ∀g∈fs,ao K C g) (i:sG fs (be st))
  (hd:(fs.length<1000/\ ∀g∈fs,(g == [003])=FS/\(g == ("__classdict__":FR))=FS):=by decide):bU P w K mg base wX 1 f fd ("self"::fs) (kJ C fs):=by
 refine F.ok S (λvs H Q E h=>?_) [02]
 .obtain⟨p,dx,ws,rfl,h,_⟩:=h
  exact Gq RJ h
 .obtain⟨p,dx,ws,rfl,hl,hp,q⟩:=h
  have vis: ∀g∈("self":FR)::fs,oU (af st) g:=λg hg=>(S.par g hg).elim .inl λz=> .inr (.inl z)
  have e:L2.start ("self"::fs) (.ref p::ws)=Fa (.ref p)::ws.map Fa:=by
   unfold L2.start;rw[show(("self":FR)::fs).length-(V.ref p::ws).length=0 by rw[FA,FA,hl,Qx]];exact Hc _
  rw[e];refine D4 (C:=C) (p:=p) (dx:=dx) c Gc (vis _ Fq) Gc i (k:=1) (ws:=ws) (done:=[]) (λg hg=>#[no g hg,vis g (Fp _ hg),hd.2 g hg]) (λi g e=>by rw[KG];exact e) (λi v e=>?_) hl (Gk.mp S.nd).2 (by rw[Kh,KH];exact hd.1) hp λH' h1 h2=>q H' h1 h2;rw[KG,E9.getElem?_cons_succ,Gw,e]
  rfl
def qY (q kd fn ds bl:Fi) (n:FC):E9 (FR×V):=[("tokens", .ref q),("at", .int n),("known", .ref kd),("functions", .ref fn),("desks", .ref ds),("blocks", .ref bl)]
inductive Yy (a:bf) (H:Hp) (q:Fi) (n:FC) (t:Ff):Prop
 |mk (as:E9 Fi) (all:Ff) (_:H q=Fa (.lst (as.map V.ref))) (_:Paired (fQ a.Jm H) as all) (_:all.drop n=t):Yy a H q n t
structure n9 (a:bf) (H:Hp) (r q kd fn ds bl:Fi) (n:FC) (t:Ff):Prop where
 ins: ∃dr,H r=Fa (.ins a.GA dr (qY q kd fn ds bl n))
 toks:Yy a H q n t
def nJ (C:Fi) (E:XK) (H:Hp) (n:FC) (x:Gx):Prop:= ∀d,H d=FB->E (.ref C) (Fa d) (aF H d (ci d (CK n x.1 x.2)))
theorem iW {α β:Type}{F:α->β->Prop} : ∀ {l:E9 α}{m:E9 β}{i:FC}{y:β},Paired F l m->m[i]?=Fa y-> ∃x,l[i]?=Fa x/\F x y
 |_,_,_,_, .nil,h=>by cases h
 |_,_,0,_, .cons r t,h=>#[_,Gc,by obtain rfl:=FG h;exact r]
 |_,_,i+1,_, .cons r t,h=>iW (i:=i) t h
theorem yF {α:Type}{l t:E9 α}{x:α}(h:l.drop n=x::t):l[n]?=Fa x:=by
 have:=Gq (λz:E9 α=>z[0]?) h
 simpa using this
theorem n9.cur {a:bf}{H:Hp}{r q kd fn ds bl:Fi}{n:FC}{x:GH×Gx}{t:Ff}(R:n9 a H r q kd fn ds bl n (x::t)):
  ∃(as:E9 Fi) (p:Fi),H q=Fa (.lst (as.map V.ref))/\(as.map V.ref)[n]?=Fa (.ref p)/\fQ a.Jm H p x:=by
 obtain⟨as,all,h1,h2,h3⟩:=R.toks;obtain⟨p,e,k⟩:=iW h2 (yF h3);exact#[as,p,h1,by rw[Gw,e];rfl,k]
inductive Yz (a:bf) (vs:E9 V) (H:Hp) (Q:VK) (E:XK):Prop
 |mk (r q kd fn ds bl:Fi) (n:FC) (x:GH×Gx) (t:Ff) (_:vs=[.ref r]) (_:n9 a H r q kd fn ds bl n (x::t)) (_:(x.1= .bad->nJ a.HM E H 1 x.2)) (_:(x.1≠ .bad-> ∀p,fQ a.Jm H p x->Q (.ref p) H)):Yz a vs H Q E
inductive BS (a:bf) (vs:E9 V) (H:Hp) (_Q:VK) (E:XK):Prop
 |mk (r q kd fn ds bl:Fi) (n:FC) (x:GH×Gx) (t:Ff) (m:FC) (_:vs=[.ref r, .int m]) (_:n9 a H r q kd fn ds bl n (x::t)) (_:nJ a.HM E H (if x.1= .bad then 1 else m) x.2):BS a vs H _Q E
theorem qm:h9 x=4 ↔ x= .bad:=by cases x<;>simp [h9]
theorem c8 (T:aW K mg a) (XC:XT K a):T.V5.O P w mg base 4 (Yz a):=by
 have G:=jo (P:=P) (w:=w) (base:=base) T XC;refine fP T.V5.F agW [03] [02];obtain⟨r,q,kd,fn,ds,bl,n,x,t,rfl,R,hb,hg⟩:=h;obtain⟨dr,er⟩:=R.ins;obtain⟨as,p,eq,ep,tp⟩:=R.cur
 have tp':=tp;obtain⟨dx,et⟩:=tp';refine#[_,(ax (cC (i:=1) agW.nd Gc (G9 Gc) (cM bC [08] [08] [002]))
   (ax (cv (a0 b9 (ah (pv 1) Gc) (aT (by rfl) T.Py) (aL _)) (aj (rM eF XC.fc G [07] (by rfl) T.QP T.d_5.c.b (aa (aT (by rfl) T.Rj) (aa (ah (pv 1) Gc) (aa (ah (pv 1) Gc) ag))))) bo)
   (aj (aJ (pv 1))))),?_]
 refine#[r,_,dr,_,_,Gc,er,T.F9,T.LI,Gc,r,_,dr,_,_,Gc,er,T.F9,T.Kw,Gc,q,_,n, .ref p,Gc,Gc,cB.of eq,br ep,?_];refine#[p,_,dx,_,_,Gc,et,T.II,T.Kb,Gc,Gc,_,Gc,?_];rw[cj];refine aO (λe=>?_) λe=>?_
 .have xb:=qm.mp (F4 e)
  exact#[p,_,dx,_,_,Gc,et,T.II,T.Nj,Gc,p,_,dx,_,_,Gc,et,T.II,T.L8,Gc,(by show 3<=9;decide),_,#[_,_,_,Gc,Gc],hb xb]
 .have xb:x.1≠ .bad:=λz=>F6 e (qm.mpr z)
  exact(hg xb p tp)
inductive si (a:bf) (b:GH->Gu) (vs:E9 V) (H:Hp) (Q:VK) (E:XK):Prop
 |mk (r q kd fn ds bl:Fi) (n:FC) (x:GH×Gx) (t:Ff) (_:vs=[.ref r]) (_:n9 a H r q kd fn ds bl n (x::t)) (_:(x.1= .bad->nJ a.HM E H 1 x.2)) (_:(x.1≠ .bad->Q (.bl (b x.1)) H)):si a b vs H Q E
def lY (v:FR) (k:GH):Gu:=decide (io k= .str v)
inductive By (a:bf) (vs:E9 V) (H:Hp) (Q:VK) (E:XK):Prop
 |mk (r q kd fn ds bl:Fi) (n:FC) (x:GH×Gx) (t:Ff) (v:FR) (_:vs=[.ref r, .str v]) (_:n9 a H r q kd fn ds bl n (x::t)) (_:(x.1= .bad->nJ a.HM E H 1 x.2)) (_:(x.1≠ .bad->Q (.bl (lY v x.1)) H)):By a vs H Q E
def past (a:bf) (H:Hp) (r q kd fn ds bl:Fi) (n:FC) (H':Hp):Prop:= ∃dr,H r=Fa (.ins a.GA dr (qY q kd fn ds bl n))/\H'=aF H r (.ins a.GA dr (qY q kd fn ds bl (n+1)))
inductive AT (a:bf) (vs:E9 V) (H:Hp) (Q:VK) (E:XK):Prop
 |mk (r q kd fn ds bl:Fi) (n:FC) (x:GH×Gx) (t:Ff) (_:vs=[.ref r]) (_:n9 a H r q kd fn ds bl n (x::t)) (_:(x.1= .bad->nJ a.HM E H 1 x.2)) (_:(x.1≠ .bad-> ∀H',past a H r q kd fn ds bl n H'->Q (io x.1) H')):AT a vs H Q E
inductive rQ (a:bf) (vs:E9 V) (H:Hp) (Q:VK) (E:XK):Prop
 |mk (r q kd fn ds bl:Fi) (n:FC) (x:GH×Gx) (t:Ff) (v:FR) (_:vs=[.ref r, .str v]) (_:n9 a H r q kd fn ds bl n (x::t)) (_:(x.1= .bad->nJ a.HM E H 1 x.2)) (_:(x.1≠ .bad->lY v x.1=FS->nJ a.HM E H 2 x.2)) (_:(x.1≠ .bad->lY v x.1=FM-> ∀H',past a H r q kd fn ds bl n H'->Q .IJ H')):rQ a vs H Q E
inductive wO (a:bf) (vs:E9 V) (H:Hp) (Q:VK) (E:XK):Prop
 |mk (r q kd fn ds bl:Fi) (n:FC) (x:GH×Gx) (t:Ff) (v:FR) (_:vs=[.ref r, .str v]) (_:n9 a H r q kd fn ds bl n (x::t)) (_:(x.1= .bad->nJ a.HM E H 1 x.2)) (_:(x.1≠ .bad->lY v x.1=FS->Q (.bl FS) H)) (_:(x.1≠ .bad->lY v x.1=FM-> ∀H',past a H r q kd fn ds bl n H'->Q (.bl FM) H')):wO a vs H Q E
theorem n9.step {a:bf}{H H':Hp}(R:n9 a H r q kd fn ds bl n (x::t)) (h:past a H r q kd fn ds bl n H'):n9 a H' r q kd fn ds bl (n+1) t:=by
 obtain⟨dr,e,rfl⟩:=h;obtain⟨as,all,h1,h2,h3⟩:=R.toks;refine#[#[dr,ae],as,all,?_,Paired.MU h2 λb z k=>?_,?_]
 .have ne:q≠r:=λz=>by rw[z,e] at h1;cases h1
  rw[ac ne];exact h1
 .obtain⟨dx,ez⟩:=k
  have ne:b≠r:=λz=>by
   rw[z,e] at ez;have:=Gq OG (HO.ins.inj (FG ez)).2.2;cases this
  exact#[dx,by rw[ac ne];exact ez]
 .have:=Gq (E9.drop 1) h3
  rw[OF] at this;exact this
theorem CC:aay (io x) (.str v)=FM:=by cases x<;>rfl
def lH:GH->Gu
 | .num _=>FM
 |_=>FS
def AU:GH->Gu
 | .eof=>FM
 |_=>FS
theorem fE (T:aW K mg a) (XC:XT K a):T.V6.O P w mg base 5 (BS a):=by
 have G:=jo (P:=P) (w:=w) (base:=base) T XC
 have Ua:=c8 (P:=P) (w:=w) (base:=base) T XC;refine fP T.V6.F agX [03] [02];obtain⟨r,q,kd,fn,ds,bl,n,x,t,m,rfl,R,hf⟩:=h;obtain⟨dr,er⟩:=R.ins;refine#[_,(ax (cC (i:=2) agX.nd Gc (G9 Gc) (bS (pv 0) T.F9 T.V5.c Ua [07] aA))
   (aj (rM eF XC.fc G [07] (by rfl) T.QP T.d_5.c.b (aa (pv 1) (aa (ah (pv 2) Gc) (aa (ah (pv 2) Gc) ag)))))),?_]
 refine#[r,dr,_,Gc,er,Gc,r,q,kd,fn,ds,bl,n,x,t,Gc,R,λb=>by rw[Fm b] at hf;exact hf,λnb p tp=>?_];rw[Fj nb] at hf;obtain⟨dx,et⟩:=tp;exact#[p,_,dx,_,_,Gc,et,T.II,T.Nj,Gc,p,_,dx,_,_,Gc,et,T.II,T.L8,Gc,(by show 3<=9;decide),_,#[_,_,_,Gc,Gc],hf]
theorem mt (T:aW K mg a) (XC:XT K a):T.d_p.O P w mg base 5 (By a):=by
 have Ua:=c8 (P:=P) (w:=w) (base:=base) T XC;refine fP T.d_p.F alv [03] [02];obtain⟨r,q,kd,fn,ds,bl,n,x,t,v,rfl,R,hb,hg⟩:=h;obtain⟨dr,er⟩:=R.ins;refine#[_,(aj (aJ (ca b9 (ah (bS (pv 0) T.F9 T.V5.c Ua [07] aA) Gc) (pv 1) (aL _)))),?_];refine#[r,dr,_,Gc,er,Gc,r,q,kd,fn,ds,bl,n,x,t,Gc,R,hb,λnb p tp=>?_]
 obtain⟨dx,et⟩:=tp;exact#[p,_,dx,_,_,Gc,et,T.II,T.Jv,Gc,CC,hg nb]
theorem yU (T:aW K mg a) (XC:XT K a):T.ZY.O P w mg base 5 (si a AU):=by
 have Ua:=c8 (P:=P) (w:=w) (base:=base) T XC;refine fP T.ZY.F agY [03] [02];obtain⟨r,q,kd,fn,ds,bl,n,x,t,rfl,R,hb,hg⟩:=h;obtain⟨dr,er⟩:=R.ins;refine#[_,(aj (aJ (ca b9 (ah (bS (pv 0) T.F9 T.V5.c Ua [07] aA) Gc) (aT (by rfl) T.X9) (aL _)))),?_];refine#[r,dr,_,Gc,er,Gc,r,q,kd,fn,ds,bl,n,x,t,Gc,R,hb,λnb p tp=>?_]
 obtain⟨dx,et⟩:=tp;refine#[p,_,dx,_,_,Gc,et,T.II,T.Kb,Gc,Gc,?_];have z:=hg nb;rw[cj];have e:decide (h9 x.1=3)=AU x.1:=by cases x.1<;>rfl
 rw[e];exact z
theorem qX (T:aW K mg a) (XC:XT K a):T.ZZ.O P w mg base 5 (si a lH):=by
 have Ua:=c8 (P:=P) (w:=w) (base:=base) T XC;refine fP T.ZZ.F agZ [03] [02];obtain⟨r,q,kd,fn,ds,bl,n,x,t,rfl,R,hb,hg⟩:=h;obtain⟨dr,er⟩:=R.ins;refine#[_,(aj (aJ (ca b9 (ah (bS (pv 0) T.F9 T.V5.c Ua [07] aA) Gc) (aT (by rfl) T.Px) (aL _)))),?_];refine#[r,dr,_,Gc,er,Gc,r,q,kd,fn,ds,bl,n,x,t,Gc,R,hb,λnb p tp=>?_]
 obtain⟨dx,et⟩:=tp;refine#[p,_,dx,_,_,Gc,et,T.II,T.Kb,Gc,Gc,?_];have z:=hg nb;rw[cj];have e:decide (h9 x.1=1)=lH x.1:=by cases x.1<;>rfl
 rw[e];exact z
theorem qU (T:aW K mg a) (XC:XT K a):T.d_t.O P w mg base 5 (AT a):=by
 have Ua:=c8 (P:=P) (w:=w) (base:=base) T XC;refine fP T.d_t.F ag2 [03] [02];obtain⟨r,q,kd,fn,ds,bl,n,x,t,rfl,R,hb,hg⟩:=h;obtain⟨dr,er⟩:=R.ins;refine#[_,(ax (cC (i:=1) ag2.nd Gc (G9 Gc) (bS (pv 0) T.F9 T.V5.c Ua [07] aA))
   (ax (gO (pv 0) ak nN)
   (aj (aJ (ah (pv 1) Gc))))),?_]
 refine#[r,dr,_,Gc,er,Gc,r,q,kd,fn,ds,bl,n,x,t,Gc,R,hb,λnb p tp=>?_];obtain⟨dx,et⟩:=tp;have ne:p≠r:=λz=>by
  rw[z,er] at et;have:=Gq OG (HO.ins.inj (FG et)).2.2;cases this
 refine#[r,_,dr,_,_,Gc,er,T.F9,T.Kw,Gc,_,_,Gc,Gc,dr,_,er,(by show 6<1000;decide),?_];exact#[p,_,dx,_,_,Gc,(by rw[ac ne];exact et),T.II,T.Jv,Gc,hg nb _ #[dr,er,Gc]]
def aba:E9 V:=[.str "const", .str "fun", .str "desk", .str "let", .str "for", .str "in", .str "if", .str "then", .str "else", .str "sell", .str "buy", .str "zone", .str "quarter", .str "price", .str "to", .str "amount", .str "block", .str "under", .str "group", .str "sum"]
def cQ:GH->Gu
 | .word u=>!uq (.str (sb u)) aba
 |_=>FS
inductive CV (a:bf) (vs:E9 V) (H:Hp) (Q:VK) (E:XK):Prop
 |mk (r q kd fn ds bl:Fi) (n:FC) (x:GH×Gx) (t:Ff) (_:vs=[.ref r]) (_:n9 a H r q kd fn ds bl n (x::t)) (_:(x.1= .bad->nJ a.HM E H 1 x.2)) (_:(x.1≠ .bad->cQ x.1=FS->nJ a.HM E H 2 x.2)) (_:(x.1≠ .bad->cQ x.1=FM->Q .IJ H)):CV a vs H Q E
inductive wp (a:bf) (vs:E9 V) (H:Hp) (Q:VK) (E:XK):Prop
 |mk (r q kd fn ds bl:Fi) (n:FC) (x y:GH×Gx) (t:Ff) (_:vs=[.ref r]) (_:n9 a H r q kd fn ds bl n (x::y::t)) (_:Q (.bl (lH y.1)) H):wp a vs H Q E
theorem yc (T:aW K mg a) (XC:XT K a):T.Z1.O P w mg base 6 (rQ a):=by
 have G_p:=mt (P:=P) (w:=w) (base:=base) T XC
 have Vg:=fE (P:=P) (w:=w) (base:=base) T XC;refine fP T.Z1.F ag3 [03] [02];obtain⟨r,q,kd,fn,ds,bl,n,x,t,v,rfl,R,hb,hf,hg⟩:=h;obtain⟨dr,er⟩:=R.ins;refine#[_,(ax (cv (ld (cZ (cy (pv 0) T.F9 T.d_p.c G_p [07] aA (aa (pv 1) ag)))) (aj (bj (cy (pv 0) T.F9 T.V6.c Vg [07] aA (aa (aT (by rfl) T.OW) ag)))) bo)
   (aj (gO (pv 0) ak nN))),?_]
 refine#[r,dr,_,Gc,er,Gc,r,q,kd,fn,ds,bl,n,x,t,v,Gc,R,hb,λnb=>#[_,Gc,?_]];cases e:lY v x.1 with
 |false=>
  refine cc ?_;exact#[r,dr,_,Gc,er,Gc,r,q,kd,fn,ds,bl,n,x,t,2,Gc,R,by rw[Fj nb];exact hf nb e]
 |true=>
  refine bN ?_;exact#[r,_,dr,_,_,Gc,er,T.F9,T.Kw,Gc,_,_,Gc,Gc,dr,_,er,(by show 6<1000;decide),hg nb e _ #[dr,er,Gc]]
theorem mL (T:aW K mg a) (XC:XT K a):T.d_X.O P w mg base 5 (si a cQ):=by
 have Ua:=c8 (P:=P) (w:=w) (base:=base) T XC;refine fP T.d_X.F ag0 [03] [02];obtain⟨r,q,kd,fn,ds,bl,n,x,t,rfl,R,hb,hg⟩:=h;obtain⟨dr,er⟩:=R.ins;refine#[_,(ax (cC (i:=1) ag0.nd Gc (G9 Gc) (bS (pv 0) T.F9 T.V5.c Ua [07] aA))
   (aj (aJ (lC (ca b9 (ah (pv 1) Gc) (aT (by rfl) T.T1) (aL _)) (jw (ca ke (ah (pv 1) Gc) (ig (by rfl) T.SN) Gc)))))),?_]
 refine#[r,dr,_,Gc,er,Gc,r,q,kd,fn,ds,bl,n,x,t,Gc,R,hb,λnb p tp=>?_];obtain⟨dx,et⟩:=tp;have z:=hg nb;refine#[p,_,dx,_,_,Gc,et,T.II,T.Kb,Gc,Gc,_,Gc,?_];rw[cj];cases e:x.1 with
 |word u=>
  rw[e] at z et;refine cc ?_;refine#[p,_,dx,_,_,Gc,et,T.II,T.Jv,Gc,_,_,Gc, .inr T.SO.sq,Gc,Gc,z]
 |num m=>rw[e] at z;exact bN z
 |sign u=>rw[e] at z;exact bN z
 |eof=>rw[e] at z;exact bN z
 |bad=>exact FH e nb
theorem g7 (T:aW K mg a) (XC:XT K a):T.d_B.O P w mg base 6 (CV a):=by
 have G_X:=mL (P:=P) (w:=w) (base:=base) T XC
 have Vg:=fE (P:=P) (w:=w) (base:=base) T XC;refine fP T.d_B.F alw [03] [02];obtain⟨r,q,kd,fn,ds,bl,n,x,t,rfl,R,hb,hf,hg⟩:=h;obtain⟨dr,er⟩:=R.ins;refine#[_,(aj (cv (ld (cZ (bS (pv 0) T.F9 T.d_X.c G_X [07] aA))) (aj (bj (cy (pv 0) T.F9 T.V6.c Vg [07] aA (aa (aT (by rfl) T.OW) ag)))) bo)),?_];refine#[r,dr,_,Gc,er,Gc,r,q,kd,fn,ds,bl,n,x,t,Gc,R,hb,λnb=>#[_,Gc,?_]]
 cases e:cQ x.1 with
 |false=>
  refine cc ?_;exact#[r,dr,_,Gc,er,Gc,r,q,kd,fn,ds,bl,n,x,t,2,Gc,R,by rw[Fj nb];exact hf nb e]
 |true=>exact bN (hg nb e)
theorem kr (T:aW K mg a):T.Z0.U P w mg base 1 (wp a):=by
 refine T.Z0.F.ok ag1 [03] [02];obtain⟨r,q,kd,fn,ds,bl,n,x,y,t,rfl,R,z⟩:=h;obtain⟨dr,er⟩:=R.ins;obtain⟨as,all,h1,h2,h3⟩:=R.toks;have h4:all[n+1]?=Fa y:=by
  have:=Gq (λz:Ff=>z[1]?) h3
  simpa [KG] using this
 obtain⟨p,e,dx,et⟩:=iW h2 h4;have ep:(as.map V.ref)[n+1]?=Fa (.ref p):=by rw[Gw,e];rfl
 refine#[_,(aj (aJ (ca b9 (ah (cM bC [08] (bW dX [08] ak) [002]) Gc) (aT (by rfl) T.Px) (aL _)))),?_];refine#[r,_,dr,_,_,Gc,er,T.F9,T.LI,Gc,r,_,dr,_,_,Gc,er,T.F9,T.Kw,Gc,_,_,Gc,Gc,q,_,((n+1:FC):Int), .ref p,Gc,Gc,cB.of h1,br ep,p,_,dx,_,_,Gc,et,T.II,T.Kb,Gc,Gc,?_];rw[cj];have e:decide (h9 y.1=1)=lH y.1:=by cases y.1<;>rfl
 rw[e];exact z
abbrev nk (u:Fb):a8:=Ie (sb u)
def has (aD:E9 (a8×V)) (u:Fb):Gu:=(bO aD (nk u)).isSome
inductive Bj (a:bf) (vs:E9 V) (H:Hp) (Q:VK) (E:XK):Prop
 |mk (r q kd fn ds bl:Fi) (n:FC) (x:GH×Gx) (t:Ff) (kk ff:E9 (a8×V)) (_:vs=[.ref r]) (_:n9 a H r q kd fn ds bl n (x::t)) (_:H kd=Fa (.dK kk)) (_:H fn=Fa (.dK ff)) (_:(x.1= .bad->nJ a.HM E H 1 x.2)) (_:(x.1≠ .bad->cQ x.1=FS->nJ a.HM E H 2 x.2)) (_:(∀u,x.1= .word u->cQ x.1=FM->(has kk u||has ff u)=FM->nJ a.HM E H 4 x.2)) (_:(∀u,x.1= .word u->cQ x.1=FM->(has kk u||has ff u)=FS-> ∀H',past a H r q kd fn ds bl n H'->Q (.str (sb u)) H')):Bj a vs H Q E
inductive xr (a:bf) (vs:E9 V) (H:Hp) (Q:VK) (E:XK):Prop
 |mk (r q kd fn ds bl g:Fi) (n:FC) (x:GH×Gx) (t:Ff) (gg:E9 (a8×V)) (_:vs=[.ref r, .ref g]) (_:n9 a H r q kd fn ds bl n (x::t)) (_:H g=Fa (.dK gg)) (_:(x.1= .bad->nJ a.HM E H 1 x.2)) (_:(x.1≠ .bad->cQ x.1=FS->nJ a.HM E H 2 x.2)) (_:(∀u,x.1= .word u->cQ x.1=FM->has gg u=FM->nJ a.HM E H 4 x.2)) (_:(∀u,x.1= .word u->cQ x.1=FM->has gg u=FS-> ∀H',past a H r q kd fn ds bl n H'->Q (.str (sb u)) H')):xr a vs H Q E
inductive xI (a:bf) (vs:E9 V) (H:Hp) (Q:VK) (_E:XK):Prop
 |mk (r dr q kd fn ds bl:Fi) (n:FC) (u:Fb) (kk:E9 (a8×V)) (_:vs=[.ref r, .str (sb u)]) (_:H r=Fa (.ins a.GA dr (qY q kd fn ds bl n))) (_:H kd=Fa (.dK kk)) (_:kk.length<F8) (_:Q .IJ (aF H kd (.dK (dz kk (nk u) (.bl FM))))):xI a vs H Q _E
inductive r8 (a:bf) (vs:E9 V) (H:Hp) (Q:VK) (_E:XK):Prop
 |mk (r dr q kd fn ds bl:Fi) (n:FC) (u:Fb) (kk:E9 (a8×V)) (_:vs=[.ref r, .str (sb u)]) (_:H r=Fa (.ins a.GA dr (qY q kd fn ds bl n))) (_:H kd=Fa (.dK kk)) (_:has kk u=FM) (_:Q .IJ (aF H kd (.dK (fD kk (nk u))))):r8 a vs H Q _E
theorem Cz (T:aW K mg a):T.Z6.U P w mg base 1 (xI a):=by
 refine T.Z6.F.ok ag6 [03] [02];obtain⟨r,dr,q,kd,fn,ds,bl,n,u,kk,rfl,er,ek,lk,hq⟩:=h;refine#[_,(aj (g9 (dn hr) [08] (pv 1) sr Gc)),?_];exact#[r,_,dr,_,_,Gc,er,T.F9,T.J8,Gc,kd,_,Gc,sH.k (k:=nk u) ek lk,hq]
theorem pO (T:aW K mg a):T.W6.U P w mg base 1 (r8 a):=by
 refine T.W6.F.ok ag7 [03] [02];obtain⟨r,dr,q,kd,fn,ds,bl,n,u,kk,rfl,er,ek,hk,hq⟩:=h;obtain⟨v,ev⟩:=KJ.mp hk;refine#[_,(aj (bj (Bb [08] (pv 1) #[Gc,Gc,Gc,Gc]))),?_];exact#[r,_,dr,_,_,Gc,er,T.F9,T.J8,Gc,kd,Gc, .inl #[kk, .inl ek],kk,nk u,v,ek,Gc,ev,hq]
theorem jY (T:aW K mg a) (XC:XT K a):T.Z4.O P w mg base 7 (Bj a):=by
 have G_B:=g7 (P:=P) (w:=w) (base:=base) T XC
 have Ua:=c8 (P:=P) (w:=w) (base:=base) T XC
 have Vg:=fE (P:=P) (w:=w) (base:=base) T XC
 have G_t:=qU (P:=P) (w:=w) (base:=base) T XC;refine fP T.Z4.F Ys [03] [02];obtain⟨r,q,kd,fn,ds,bl,n,⟨x,xp⟩,t,kk,ff,rfl,R,ek,ef,hb,hn,h4,hg⟩:=h;obtain⟨dr,er⟩:=R.ins;refine#[_,(ax (bj (bS (pv 0) T.F9 T.d_B.c G_B [07] aA))
   (ax (cC (i:=1) Ys.nd Gc (G9 Gc) (ah (bS (pv 0) T.F9 T.V5.c Ua [07] aA) Gc))
   (ax (cv (wS (fB (oR (dn hr) (pv 1) [08])) (rD (fB (oR (dn hr) (pv 1) [08])))).pt (aj (bj (cy (pv 0) T.F9 T.V6.c Vg [07] aA (aa (aT (by rfl) T.OX) ag)))) bo)
   (aj (aJ (bS (pv 0) T.F9 T.d_t.c G_t [07] aA)))))),?_]
 refine#[r,dr,_,Gc,er,Gc,r,q,kd,fn,ds,bl,n,(x,xp),t,Gc,R,hb,hn,λnb e=>?_];cases x with
 |word u=>
  refine#[r,dr,_,Gc,er,Gc,r,q,kd,fn,ds,bl,n,(.word u,xp),t,Gc,R,hb,λ_ p ⟨dx,et⟩=>#[p,_,dx,_,_,Gc,et,T.II,T.Jv,Gc,?_]];have ahA:(has kk u||has ff u)=FM->nJ a.HM E H 4 xp:=h4 u Gc e
  have good:(has kk u||has ff u)=FS-> ∀H',past a H r q kd fn ds bl n H'->Q (.str (sb u)) H':=hg u Gc e
  refine#[r,_,dr,_,_,Gc,er,T.F9,T.J8,Gc,kd,_,Gc,gw.k (k:=nk u) ek,_,Gc,aO (λe1=>?_) λe1=>?_]
  .refine cc ?_
   refine#[r,dr,_,Gc,er,Gc,r,q,kd,fn,ds,bl,n,(.word u,xp),t,4,Gc,R,?_];rw[Fj nb];exact ahA (by unfold has;rw[e1];rfl)
  .refine#[r,_,dr,_,_,Gc,er,T.F9,T.IK,Gc,fn,_,Gc,gw.k (k:=nk u) ef,_,Gc,aO (λe2=>?_) λe2=>?_]
   .refine#[r,dr,_,Gc,er,Gc,r,q,kd,fn,ds,bl,n,(.word u,xp),t,4,Gc,R,?_]
    rw[Fj nb];exact ahA (by unfold has;rw[e1,e2];rfl)
   .exact#[r,dr,_,Gc,er,Gc,r,q,kd,fn,ds,bl,n,(.word u,xp),t,Gc,R,hb,λ_=>good (by unfold has;rw[e1,e2];rfl)]
 |num m=>cases e
 |sign u=>cases e
 |eof=>cases e
 |bad=>exact FH Gc nb
theorem vh:gI X (.type "dict") (λxs H Q=> ∃a aD,xs=[.ref a]/\Dt X.prog X.w X.K a aD/\ ∀p,H p=FB->Q (.ref p) (aF H p (.dK aD))):=by
 intro pins s σ H xs us Q I rv h;obtain⟨a,aD,rfl,kd,q⟩:=h;obtain⟨u,rfl,ru⟩:=rv.one;obtain rfl:u=FZ a:=ru;obtain⟨vs,dd,rel⟩:=kd.at_;refine kt_call_dict kd.no (dd _ I.ND) (by rw[<-rel.length];exact kd.len) λh' WJ hs=>?_;refine#[.ref s.heap.objs.size,_,I.laid (a:=s.heap.objs.size) (o:= .dK aD) (t':=s.toks) (λb q hq=>?_) (FF _) (vE kd.len (beq_eq_false_iff_ne.mpr (IG (Ha I.big))) rel WJ),Gc,q _ (I.Iu.fresh (FF _))];exact(hs.2 b (Ha (FX hq))).trans (Fz _ hq)
structure abb (a:bf) (H H':Hp) (r dr q kd fn ds bl:Fi):Prop where
 ins:H' r=Fa (.ins a.GA dr (qY q kd fn ds bl 0))
 kd0:H kd=FB
 fn0:H fn=FB
 ds0:H ds=FB
 bl0:H bl=FB
 kd1:H' kd=Fa (.dK [])
 fn1:H' fn=Fa (.dK dv)
 ds1:H' ds=Fa (.dK [])
 bl1:H' bl=Fa (.dK [])
 P4:kd≠fn/\kd≠ds/\kd≠bl/\fn≠ds/\fn≠bl/\ds≠bl
 kept: ∀b o,H b=Fa o->b≠r->H' b=Fa o
inductive tY (a:bf) (vs:E9 V) (H:Hp) (Q:VK) (_E:XK):Prop
 |mk (r dr q:Fi) (_:vs=[.ref r, .ref q]) (_:H r=Fa (.ins a.GA dr [])) (_: ∀(H':Hp) (kd fn ds bl:Fi),abb a H H' r dr q kd fn ds bl->Q .IJ H'):tY a vs H Q _E
theorem bM {H:Hp}{a p:Fi}(h:aF H a o p=FB):p≠a/\H p=FB:=by
 by_cases e:p=a
 .rw[e,ae] at h;cases h
 .rw[ac e] at h;exact#[e,h]
theorem m7 (T:aW K mg a) (kF:Dt P w K a.Hh dv):T.ZX.U P w mg base 1 (tY a):=by
 refine T.ZX.F.ok agV [03] [02];obtain⟨r,dr,q,rfl,er,hq⟩:=h;refine#[_,(ax (b5 (pv 0) (pv 1) Gc)
   (ax (b5 (pv 0) ak Gc)
   (ax (b5 (pv 0) e9 Gc)
   (ax (b5 (pv 0) (iX vh (by rfl) T.Wf boot_dict (aa (ig (by rfl) T.M6) ag)) Gc)
   (ax (b5 (pv 0) e9 Gc)
   (aj (b5 (pv 0) e9 Gc))))))),?_]
 refine#[r,_,dr,_,Gc,er,T.F9,T.LI,(by show 0<1000;decide),?_];refine#[r,_,dr,_,Gc,ae,T.F9,T.Kw,(by show 1<1000;decide),?_];intro kd hkd;obtain⟨n1,hkd⟩:=bM hkd;obtain⟨_,hkd⟩:=bM hkd;refine#[r,_,dr,_,Gc,(by rw[ac n1.symm,ae]),T.F9,T.J8,(by show 2<1000;decide),?_];refine#[a.Hh,dv,Gc,kF,λfn UE=>?_];obtain⟨n2,UE⟩:=bM UE;obtain⟨n2k,UE⟩:=bM UE;obtain⟨_,UE⟩:=bM UE;obtain⟨_,UE⟩:=bM UE;refine#[r,_,dr,_,Gc,(by rw[ac n2.symm,ae]),T.F9,T.IK,(by show 3<1000;decide),?_];intro ds UO;obtain⟨n3,UO⟩:=bM UO;obtain⟨n3f,UO⟩:=bM UO;obtain⟨_,UO⟩:=bM UO;obtain⟨n3k,UO⟩:=bM UO;obtain⟨_,UO⟩:=bM UO;obtain⟨_,UO⟩:=bM UO;refine#[r,_,dr,_,Gc,(by rw[ac n3.symm,ae]),T.F9,T.L9,(by show 4<1000;decide),?_];intro bl Sn;obtain⟨n4,Sn⟩:=bM Sn;obtain⟨n4d,Sn⟩:=bM Sn;obtain⟨_,Sn⟩:=bM Sn;obtain⟨n4f,Sn⟩:=bM Sn;obtain⟨_,Sn⟩:=bM Sn;obtain⟨n4k,Sn⟩:=bM Sn;obtain⟨_,Sn⟩:=bM Sn;obtain⟨_,Sn⟩:=bM Sn;refine#[r,_,dr,_,Gc,(by rw[ac n4.symm,ae]),T.F9,T.JR,(by show 5<1000;decide),?_];refine hq _ kd fn ds bl #[ae,hkd,UE,UO,Sn,?_,?_,?_,?_,#[n2k.symm,n3k.symm,n4k.symm,n3f.symm,n4f.symm,n4d.symm],λb o e nb=>?_]
 .rw[ac n1,ac n4k.symm,ac n1,ac n3k.symm,ac n1,ac n2k.symm,ac n1,ae]
 .rw[ac n2,ac n4f.symm,ac n2,ac n3f.symm,ac n2,ae]
 .rw[ac n3,ac n4d.symm,ac n3,ae]
 .rw[ac n4,ae]
 .rw[ac nb,ac (ai e Sn),ac nb,ac (ai e UO),ac nb,ac (ai e UE),ac nb,ac (ai e hkd),ac nb,ac nb]
  exact e
theorem c9 {A:Type}{p:A->Prop} : ∀g∈([]:E9 A),p g:=λ_ z=>nomatch z
theorem ay {A:Type}{p:A->Prop}{f:A}{fs:E9 A}(h:p f) (r: ∀g∈fs,p g): ∀g∈f::fs,p g:=E9.forall_mem_cons.mpr #[h,r]
inductive NB (X:Cx) (c:FR) (C:Fi) (fs:E9 FR):Prop
 |mk {f:Fi}{fd:Gs}(M:Mk X.K C f) (F:bU X.prog X.w X.K X.mg X.base wX 1 f fd ("self"::fs) (kJ C fs)) (b:fZ X.K fd ("self"::fs) []) (hm:X.mg c=Fa (.ref C)):NB X c C fs
theorem xT (T:aW X.K X.mg a):NB X "Number" a.LP ["worth"]:=#[T.U9,cW T.aeW.F af3 T.PX (ay T.NX c9) (.cons .nil),T.aeW.c.b,T.Ru]
theorem EN (T:aW X.K X.mg a):NB X "Name" a.Ob ["name"]:=#[T.Xk,cW T.aeX.F af4 T.RL (ay T.Ph c9) (.cons .nil),T.aeX.c.b,T.Uv]
theorem EO (T:aW X.K X.mg a):NB X "Call" a.NO ["name","arguments"]:=#[T.Xl,cW T.aeY.F af5 T.QG (ay T.Pj (ay T.MW c9)) (.cons (.cons .nil)),T.aeY.c.b,T.Uw]
theorem CJ (T:aW X.K X.mg a):NB X "Unary" a.KP ["sign","operand"]:=#[T.V7,cW T.aeZ.F af6 T.Pk (ay T.OL (ay T.Nv c9)) (.cons (.cons .nil)),T.aeZ.c.b,T.SD]
theorem CQ (T:aW X.K X.mg a):NB X "Chain" a.JO ["strength","operands","signs"]:=#[T.V8,cW T.ae0.F af7 T.Nw (ay T.Ld (ay T.MX (ay T.Od c9))) (.cons (.cons (.cons .nil))),T.ae0.c.b,T.SE]
theorem yW (T:aW X.K X.mg a):NB X "Choice" a.Km ["condition","chosen","otherwise"]:=#[T.Va,cW T.ae1.F af8 T.PY (ay T.Mh (ay T.Ny (ay T.Mi c9))) (.cons (.cons (.cons .nil))),T.ae1.c.b,T.Rv]
theorem abc (T:aW X.K X.mg a):NB X "Sum" a.Oc ["name","first","last","body"]:=#[T.aae,cW T.ae2.F af9 T.PZ (ay T.Ql (ay T.Pl (ay T.Qm (ay T.Qn c9)))) (.cons (.cons (.cons (.cons .nil)))),T.ae2.c.b,T.Zz]
theorem abd (T:aW X.K X.mg a):NB X "Let" a.LQ ["name","exp"]:=#[T.aaf,cW T.ae3.F aga T.RM (ay T.Oe (ay T.QQ c9)) (.cons (.cons .nil)),T.ae3.c.b,T.TU]
theorem abe (T:aW X.K X.mg a):NB X "For" a.Nr ["name","first","last","statements"]:=#[T.aag,cW T.ae4.F agb T.P0 (ay T.Qp (ay T.Pn (ay T.Qq (ay T.MY c9)))) (.cons (.cons (.cons (.cons .nil)))),T.ae4.c.b,T.V1]
theorem ahB (T:aW X.K X.mg a):NB X "If" a.QA ["condition","statements","else_statements"]:=#[T.afk,cW T.ae5.F agc T.SJ (ay T.NY (ay T.Nz (ay T.Lu c9))) (.cons (.cons (.cons .nil))),T.ae5.c.b,T.X6]
theorem DS (T:aW X.K X.mg a):NB X "Step" a.KY ["side","zone","quarter","price","to_price","amount"]:=#[T.Xm,cW T.ae6.F agd T.Ms (ay T.Pp (ay T.Pq (ay T.NZ (ay T.OM (ay T.LG (ay T.Of c9)))))) (.cons (.cons (.cons (.cons (.cons (.cons .nil)))))),T.ae6.c.b,T.Ux]
theorem u9 (T:aW X.K X.mg a):NB X "Amounts" a.K3 ["name","exp"]:=#[T.TX,cW T.ae7.F age T.OV (ay T.N0 (ay T.Og c9)) (.cons (.cons .nil)),T.ae7.c.b,T.TV]
theorem AR (T:aW X.K X.mg a):NB X "Block" a.JF ["name","side","zone","price","amounts","under","group"]:=#[T.V9,cW T.ae8.F agf T.KI (ay T.ON (ay T.OO (ay T.OP (ay T.Oh (ay T.NA (ay T.Oi (ay T.Mz c9))))))) (.cons (.cons (.cons (.cons (.cons (.cons (.cons .nil))))))),T.ae8.c.b,T.V2]
theorem BI (T:aW X.K X.mg a):NB X "Const" a.Mr ["name","exp"]:=#[T.Wa,cW T.ae9.F agg T.QR (ay T.OQ (ay T.Pu c9)) (.cons (.cons .nil)),T.ae9.c.b,T.SG]
theorem ym (T:aW X.K X.mg a):NB X "Market" a.J7 ["zones","quarters","low","high"]:=#[T.Vc,cW T.afj.F agH T.Rw (ay T.L7 (ay T.K0 (ay T.Ni (ay T.Lf c9)))) (.cons (.cons (.cons (.cons .nil)))),T.afj.c.b,T.U7]
theorem qz (T:aW X.K X.mg a):NB X "StepOrder" a.Hz ["desk","zone","quarter","side","low","high","amount"]:=#[T.RP,cW T.afc.F agj T.NQ (ay T.M0 (ay T.M3 (ay T.LS (ay T.M4 (ay T.NC (ay T.M5 (ay T.Mj c9))))))) (.cons (.cons (.cons (.cons (.cons (.cons (.cons .nil))))))),T.afc.c.b,T.Pf]
theorem oZ (T:aW X.K X.mg a):NB X "BlockOrder" a.HB ["desk","zone","side","price","group","parent","amounts"]:=#[T.Rg,cW T.afd.F agk T.Ng (ay T.MB (ay T.MC (ay T.ME (ay T.Ml (ay T.Mm (ay T.LU (ay T.Lw c9))))))) (.cons (.cons (.cons (.cons (.cons (.cons (.cons .nil))))))),T.afd.c.b,T.Rf]
theorem abf (T:aW X.K X.mg a):NB X "Fun" a.OI ["name","parameters","exp"]:=#[T.aah,cW T.afa.F agh T.QS (ay T.Qr (ay T.MZ (ay T.QT c9))) (.cons (.cons (.cons .nil))),T.afa.c.b,T.V3]
theorem DQ (T:aW X.K X.mg a):NB X "Desk" a.NP ["name","statements"]:=#[T.Xn,cW T.afb.F agi T.RN (ay T.RO (ay T.MA c9)) (.cons (.cons .nil)),T.afb.c.b,T.Uy]
inductive bF (M:Fi->Prop) (H:Hp) (C:Fi) (fs:E9 (FR×V)) (v:V):Prop
 |mk (p dx:Fi) (_:v= .ref p) (_: ¬M p) (_:H p=Fa (.ins C dx fs)):bF M H C fs v
inductive b3 (M:Fi->Prop) (H:Hp) (xs:E9 V) (v:V):Prop
 |mk (p:Fi) (_:v= .ref p) (_: ¬M p) (_:H p=Fa (.lst xs)):b3 M H xs v
def db (M:Fi->Prop) (H H':Hp):Prop:= ∀b o,H b=Fa o-> ¬M b->H' b=Fa o
def fA (M M':Fi->Prop) (H H':Hp):Prop:= ∀b o,H b=Fa o-> ¬M b-> ¬M' b/\H' b=Fa o
theorem db.two {M:Fi->Prop}{H H':Hp}(k:db M H H'):fA M M H H':=λb o e m=>#[m,k b o e m]
def Nd (o:HO):Prop:=(∃xs,o= .lst xs)\/ ∃C d fs,o= .ins C d fs/\fs.length≠5
def lh (M M':Fi->Prop) (H H':Hp):Prop:= ∀b o,H b=Fa o-> ¬M b->Nd o-> ¬M' b/\H' b=Fa o
theorem fA.three {M M':Fi->Prop}{H H':Hp}(k:fA M M' H H'):lh M M' H H':=λb o e m _=>k b o e m
theorem bF.HL {M M':Fi->Prop}{H H':Hp}(k:lh M M' H H') (h:bF M H C fs v) (hl:fs.length≠5:=by intro z;cases z):bF M' H' C fs v:=by
 obtain⟨p,dx,e,m,z⟩:=h;have:=k _ _ z m (.inr #[_,_,_,Gc,hl]);exact#[p,dx,e,this.1,this.2]
theorem b3.HL {M M':Fi->Prop}{H H':Hp}(k:lh M M' H H') (h:b3 M H xs v):b3 M' H' xs v:=by
 obtain⟨p,e,m,z⟩:=h;have:=k _ _ z m (.inl #[_,Gc]);exact#[p,e,this.1,this.2]
theorem bF.keep {M M':Fi->Prop}{H H':Hp}(k:fA M M' H H') (h:bF M H C fs v):bF M' H' C fs v:=by
 obtain⟨p,dx,e,m,z⟩:=h;exact#[p,dx,e,(k _ _ z m).1,(k _ _ z m).2]
theorem b3.keep {M M':Fi->Prop}{H H':Hp}(k:fA M M' H H') (h:b3 M H xs v):b3 M' H' xs v:=by
 obtain⟨p,e,m,z⟩:=h;exact#[p,e,(k _ _ z m).1,(k _ _ z m).2]
mutual
def au (a:bf) (M:Fi->Prop) (H:Hp):Fs->V->Prop
 | .num n,v=>bF M H a.LP [("worth", .int (n:FC))] v
 | .name x,v=>bF M H a.Ob [("name", .str (sb x))] v
 | .call f l,v=> ∃q us,bF M H a.NO [("name", .str (sb f)),("arguments",q)] v/\b3 M H us q/\cu a M H l us
 | .neg e,v=> ∃u,bF M H a.KP [("sign", .str "-"),("operand",u)] v/\au a M H e u
 | .not e,v=> ∃u,bF M H a.KP [("sign", .str "!"),("operand",u)] v/\au a M H e u
 | .sums e r,v=> ∃q g u us ss,bF M H a.JO [("strength", .int 3),("operands",q),("signs",g)] v/\b3 M H (u::us) q/\b3 M H ss g/\au a M H e u/\dE a M H r us ss
 | .prods e r,v=> ∃q g u us ss,bF M H a.JO [("strength", .int 4),("operands",q),("signs",g)] v/\b3 M H (u::us) q/\b3 M H ss g/\au a M H e u/\dE a M H r us ss
 | .cmp op x y,v=> ∃q g u1 u2,bF M H a.JO [("strength", .int 2),("operands",q),("signs",g)] v/\b3 M H [u1,u2] q/\b3 M H [.str (dI op)] g/\au a M H x u1/\au a M H y u2
 | .both e l,v=> ∃q g u us,bF M H a.JO [("strength", .int 1),("operands",q),("signs",g)] v/\b3 M H (u::us) q/\b3 M H (us.map λ_=> .str "&&") g/\au a M H e u/\cu a M H l us
 | .either e l,v=> ∃q g u us,bF M H a.JO [("strength", .int 0),("operands",q),("signs",g)] v/\b3 M H (u::us) q/\b3 M H (us.map λ_=> .str "||") g/\au a M H e u/\cu a M H l us
 | .pick c x y,v=> ∃u1 u2 u3,bF M H a.Km [("condition",u1),("chosen",u2),("otherwise",u3)] v/\au a M H c u1/\au a M H x u2/\au a M H y u3
 | .sum x lo hi e,v=> ∃u1 u2 u3,bF M H a.Oc [("name", .str (sb x)),("first",u1),("last",u2),("body",u3)] v/\au a M H lo u1/\au a M H hi u2/\au a M H e u3
def cu (a:bf) (M:Fi->Prop) (H:Hp):J2->E9 V->Prop
 | .nil,us=>us=[]
 | .cons e l,us=> ∃u vs,us=u::vs/\au a M H e u/\cu a M H l vs
def dE (a:bf) (M:Fi->Prop) (H:Hp):Qz->E9 V->E9 V->Prop
 | .nil,us,ss=>us=[]/\ss=[]
 | .cons op e r,us,ss=> ∃u vs ts,us=u::vs/\ss= .str (dI op)::ts/\au a M H e u/\dE a M H r vs ts
end
section
variable {M M':Fi->Prop}{H H':Hp}
mutual
theorem au.HL (k:lh M M' H H'): ∀(e:Fs) {v:V},au a M H e v->au a M' H' e v
 | .num n,v,h=>by unfold au at h ⊢; exact h.HL k
 | .name x,v,h=>by unfold au at h ⊢; exact h.HL k
 | .call f l,v,h=>by
  unfold au at h ⊢;obtain⟨q,us,h1,h2,h3⟩:=h;exact#[q,us,h1.HL k,h2.HL k,cu.HL k l h3]
 | .neg e,v,h=>by
  unfold au at h ⊢;obtain⟨u,h1,h2⟩:=h;exact#[u,h1.HL k,au.HL k e h2]
 | .not e,v,h=>by
  unfold au at h ⊢;obtain⟨u,h1,h2⟩:=h;exact#[u,h1.HL k,au.HL k e h2]
 | .sums e r,v,h=>by
  unfold au at h ⊢;obtain⟨q,g,u,us,ss,h1,h2,h3,h4,h5⟩:=h;exact#[q,g,u,us,ss,h1.HL k,h2.HL k,h3.HL k,au.HL k e h4,dE.HL k r h5]
 | .prods e r,v,h=>by
  unfold au at h ⊢;obtain⟨q,g,u,us,ss,h1,h2,h3,h4,h5⟩:=h;exact#[q,g,u,us,ss,h1.HL k,h2.HL k,h3.HL k,au.HL k e h4,dE.HL k r h5]
 | .cmp op x y,v,h=>by
  unfold au at h ⊢;obtain⟨q,g,u1,u2,h1,h2,h3,h4,h5⟩:=h;exact#[q,g,u1,u2,h1.HL k,h2.HL k,h3.HL k,au.HL k x h4,au.HL k y h5]
 | .both e l,v,h=>by
  unfold au at h ⊢;obtain⟨q,g,u,us,h1,h2,h3,h4,h5⟩:=h;exact#[q,g,u,us,h1.HL k,h2.HL k,h3.HL k,au.HL k e h4,cu.HL k l h5]
 | .either e l,v,h=>by
  unfold au at h ⊢;obtain⟨q,g,u,us,h1,h2,h3,h4,h5⟩:=h;exact#[q,g,u,us,h1.HL k,h2.HL k,h3.HL k,au.HL k e h4,cu.HL k l h5]
 | .pick c x y,v,h=>by
  unfold au at h ⊢;obtain⟨u1,u2,u3,h1,h2,h3,h4⟩:=h;exact#[u1,u2,u3,h1.HL k,au.HL k c h2,au.HL k x h3,au.HL k y h4]
 | .sum x lo hi e,v,h=>by
  unfold au at h ⊢;obtain⟨u1,u2,u3,h1,h2,h3,h4⟩:=h;exact#[u1,u2,u3,h1.HL k,au.HL k lo h2,au.HL k hi h3,au.HL k e h4]
theorem cu.HL (k:lh M M' H H'): ∀(l:J2) {us:E9 V},cu a M H l us->cu a M' H' l us
 | .nil,us,h=>by unfold cu at h ⊢; exact h
 | .cons e l,us,h=>by
  unfold cu at h ⊢;obtain⟨u,vs,h1,h2,h3⟩:=h;exact#[u,vs,h1,au.HL k e h2,cu.HL k l h3]
theorem dE.HL (k:lh M M' H H'): ∀(r:Qz) {us ss:E9 V},dE a M H r us ss->dE a M' H' r us ss
 | .nil,us,ss,h=>by unfold dE at h ⊢; exact h
 | .cons op e r,us,ss,h=>by
  unfold dE at h ⊢;obtain⟨u,vs,ts,h1,h2,h3,h4⟩:=h;exact#[u,vs,ts,h1,h2,au.HL k e h3,dE.HL k r h4]
end
theorem au.HV (k:fA M M' H H') (e:Fs) (h:au a M H e v):au a M' H' e v:=au.HL k.three e h
end
inductive tZ (a:bf) (vs:E9 V) (H:Hp) (Q:VK) (E:XK):Prop
 |mk (r q kd fn ds bl:Fi) (n:FC) (x:GH×Gx) (t:Ff) (d:FC) (_:vs=[.ref r, .int d]) (_:n9 a H r q kd fn ds bl n (x::t)) (_:(d=12->nJ a.HM E H (if x.1= .bad then 1 else 6) x.2)) (_:(d≠12->Q (.int ((d+1:FC):Int)) H)):tZ a vs H Q E
inductive sN (a:bf) (vs:E9 V) (H:Hp) (Q:VK) (E:XK):Prop
 |mk (r q kd fn ds bl:Fi) (n:FC) (x:GH×Gx) (t:Ff) (v:FR) (_:vs=[.ref r, .str v]) (_:n9 a H r q kd fn ds bl n (x::t)) (_:(x.1= .bad->nJ a.HM E H 1 x.2)) (_:(x.1≠ .bad->lY v x.1=FM->nJ a.HM E H 5 x.2)) (_:(x.1≠ .bad->lY v x.1=FS->Q .IJ H)):sN a vs H Q E
theorem alT (T:aW K mg a) (XC:XT K a):T.d_f.O P w base 6 (tZ a):=by
 have Vg:=fE (P:=P) (w:=w) (base:=base) T XC;refine fP T.d_f.F alx [03] [02];obtain⟨r,q,kd,fn,ds,bl,n,x,t,d,rfl,R,hf,hg⟩:=h;obtain⟨dr,er⟩:=R.ins;refine#[_,(ax (cv (a0 b9 (pv 1) (aT (by rfl) T.Rk) (aL _)) (aj (bj (cy (pv 0) T.F9 T.V6.c Vg [07] aA (aa (aT (by rfl) T.QV) ag)))) bo)
   (aj (aJ (bW dX (pv 1) ak)))),?_]
 refine#[Gc,_,Gc,?_];rw[cj];refine aO (λe=>?_) λe=>?_
 .have:=F4 e
  exact#[r,dr,_,Gc,er,Gc,r,q,kd,fn,ds,bl,n,x,t,6,Gc,R,hf (by lia)]
 .have:=F6 e
  exact#[_,_,Gc,Gc,hg (by lia)]
theorem ahC (T:aW K mg a) (XC:XT K a):T.Z7.O P w base 6 (sN a):=by
 have G_p:=mt (P:=P) (w:=w) (base:=base) T XC
 have Vg:=fE (P:=P) (w:=w) (base:=base) T XC;refine fP T.Z7.F ahe [03] [02];obtain⟨r,q,kd,fn,ds,bl,n,x,t,v,rfl,R,hb,hf,hg⟩:=h;obtain⟨dr,er⟩:=R.ins;refine#[_,(aj (cv (cZ (cy (pv 0) T.F9 T.d_p.c G_p [07] aA (aa (pv 1) ag))) (aj (bj (cy (pv 0) T.F9 T.V6.c Vg [07] aA (aa (aT (by rfl) T.SM) ag)))) bo)),?_];refine#[r,dr,_,Gc,er,Gc,r,q,kd,fn,ds,bl,n,x,t,v,Gc,R,hb,λnb=>#[_,Gc,aO (λe=>?_) λe=>?_]]
 .exact#[r,dr,_,Gc,er,Gc,r,q,kd,fn,ds,bl,n,x,t,5,Gc,R,by rw[Fj nb];exact hf nb e]
 .exact hg nb e
def jl (a:bf) (M:Fi->Prop) (H:Hp):Ft Fs->V->Prop
 |none,v=>v= .IJ
 |some e,v=>au a M H e v
def jW (b:Gu):V:= .str (if b=FM then "buy" else "sell")
inductive sA (a:bf) (M:Fi->Prop) (H:Hp) (x:Fb×Fs) (v:V):Prop
 |mk (u:V) (_:bF M H a.K3 [("name", .str (sb x.1)),("exp",u)] v) (_:au a M H x.2 u):sA a M H x v
def ic:Ft Fb->V
 |none=> .IJ
 |some u=> .str (sb u)
mutual
def a7 (a:bf) (M:Fi->Prop) (H:Hp):Hb->V->Prop
 | .bind x e,v=> ∃u,bF M H a.LQ [("name", .str (sb x)),("exp",u)] v/\au a M H e u
 | .loop x lo hi l,v=> ∃u1 u2 q us,bF M H a.Nr [("name", .str (sb x)),("first",u1),("last",u2),("statements",q)] v/\au a M H lo u1/\au a M H hi u2/\b3 M H us q/\bE a M H l us
 | .cond c x y,v=> ∃u q us g ws,bF M H a.QA [("condition",u),("statements",q),("else_statements",g)] v/\au a M H c u/\b3 M H us q/\bE a M H x us/\b3 M H ws g/\bE a M H y ws
 | .step b z qu p top am,v=> ∃u1 u2 u3 u4 u5,bF M H a.KY [("side",jW b),("zone",u1),("quarter",u2),("price",u3),("to_price",u4),("amount",u5)] v/\au a M H z u1/\au a M H qu u2/\au a M H p u3/\jl a M H top u4/\au a M H am u5
 | .block nm b z p x am un g,v=> ∃u1 u2 u3 u4,bF M H a.JF [("name",ic nm),("side",jW b),("zone",u1),("price",u2),("amounts",u3),("under",ic un),("group",u4)] v/\au a M H z u1/\au a M H p u2/\sA a M H (x,am) u3/\jl a M H g u4
def bE (a:bf) (M:Fi->Prop) (H:Hp):Jd->E9 V->Prop
 | .nil,us=>us=[]
 | .cons s l,us=> ∃u vs,us=u::vs/\a7 a M H s u/\bE a M H l vs
end
section
variable {M M':Fi->Prop}{H H':Hp}
theorem jl.HV (k:fA M M' H H'): ∀(e:Ft Fs) {v:V},jl a M H e v->jl a M' H' e v
 |none,v,h=>h
 |some e,v,h=>au.HV k e h
theorem sA.HV (k:fA M M' H H') (h:sA a M H x v):sA a M' H' x v:=by
 obtain⟨u,h1,h2⟩:=h;exact#[u,h1.keep k,au.HV k _ h2]
mutual
theorem a7.HV (k:fA M M' H H'): ∀(s:Hb) {v:V},a7 a M H s v->a7 a M' H' s v
 | .bind x e,v,h=>by
  unfold a7 at h ⊢;obtain⟨u,h1,h2⟩:=h;exact#[u,h1.keep k,au.HV k e h2]
 | .loop x lo hi l,v,h=>by
  unfold a7 at h ⊢;obtain⟨u1,u2,q,us,h1,h2,h3,h4,h5⟩:=h;exact#[u1,u2,q,us,h1.keep k,au.HV k lo h2,au.HV k hi h3,h4.keep k,bE.HV k l h5]
 | .cond c x y,v,h=>by
  unfold a7 at h ⊢;obtain⟨u,q,us,g,ws,h1,h2,h3,h4,h5,h6⟩:=h;exact#[u,q,us,g,ws,h1.keep k,au.HV k c h2,h3.keep k,bE.HV k x h4,h5.keep k,bE.HV k y h6]
 | .step b z qu p top am,v,h=>by
  unfold a7 at h ⊢;obtain⟨u1,u2,u3,u4,u5,h1,h2,h3,h4,h5,h6⟩:=h;exact#[u1,u2,u3,u4,u5,h1.keep k,au.HV k z h2,au.HV k qu h3,au.HV k p h4,jl.HV k top h5,au.HV k am h6]
 | .block nm b z p x am un g,v,h=>by
  unfold a7 at h ⊢;obtain⟨u1,u2,u3,u4,h1,h2,h3,h4,h5⟩:=h;exact#[u1,u2,u3,u4,h1.keep k,au.HV k z h2,au.HV k p h3,h4.HV k,jl.HV k g h5]
theorem bE.HV (k:fA M M' H H'): ∀(l:Jd) {us:E9 V},bE a M H l us->bE a M' H' l us
 | .nil,us,h=>by unfold bE at h ⊢; exact h
 | .cons s l,us,h=>by
  unfold bE at h ⊢;obtain⟨u,vs,h1,h2,h3⟩:=h;exact#[u,vs,h1,a7.HV k s h2,bE.HV k l h3]
end
end
def gF (ps:E9 Fb):E9 V:=ps.map λp=>V.str (sb p)
def fj (a:bf) (M:Fi->Prop) (H:Hp):Ho->V->Prop
 | .const x e,v=> ∃u,bF M H a.Mr [("name", .str (sb x)),("exp",u)] v/\au a M H e u
 | .func x ps e,v=> ∃q u,bF M H a.OI [("name", .str (sb x)),("parameters",q),("exp",u)] v/\b3 M H (gF ps) q/\au a M H e u
 | .desk x l,v=> ∃q us,bF M H a.NP [("name", .str (sb x)),("statements",q)] v/\b3 M H us q/\bE a M H l us
theorem fj.HV {a:bf}{M M':Fi->Prop}{H H':Hp}(k:fA M M' H H'): ∀(x:Ho) {v:V},fj a M H x v->fj a M' H' x v
 | .const x e,v,⟨u,h1,h2⟩=>#[u,h1.keep k,au.HV k e h2]
 | .func x ps e,v,⟨q,u,h1,h2,h3⟩=>#[q,u,h1.keep k,h2.keep k,au.HV k e h3]
 | .desk x l,v,⟨q,us,h1,h2,h3⟩=>#[q,us,h1.keep k,h2.keep k,bE.HV k l h3]
inductive Fk where
 |e (x:Fs)
 |o (x:Ft Fs)
 |am (x:Fb×Fs)
 |st (x:Hb)
 |sts (x:Jd)
 |ps (x:E9 Fb)
 |top (x:Ho)
inductive on (a:bf) (M:Fi->Prop) (H:Hp) (l:Jd) (v:V):Prop
 |mk (us:E9 V) (_:b3 M H us v) (_:bE a M H l us):on a M H l v
def jh (a:bf) (M:Fi->Prop) (H:Hp) (x:Fk×V):Prop:=match x.1 with
 | .e e=>au a M H e x.2
 | .o e=>jl a M H e x.2
 | .am e=>sA a M H e x.2
 | .st e=>a7 a M H e x.2
 | .sts e=>on a M H e x.2
 | .ps e=>b3 M H (gF e) x.2
 | .top e=>fj a M H e x.2
theorem jh.HV {a:bf}{M M':Fi->Prop}{H H':Hp}(k:fA M M' H H'): ∀ {x:Fk×V},jh a M H x->jh a M' H' x
 | (.e e,v),h=>au.HV k e h
 | (.o e,v),h=>jl.HV k e h
 | (.am e,v),h=>sA.HV k h
 | (.st e,v),h=>a7.HV k e h
 | (.sts e,v),⟨us,h1,h2⟩=>#[us,h1.keep k,bE.HV k e h2]
 | (.ps e,v),h=>b3.keep k h
 | (.top e,v),h=>fj.HV k e h
end OS
namespace OS
open Vbemac
abbrev fm:=Gm->Ft Int
abbrev dP:=Exp×E9 Int
inductive Mc where
 |go (ts:E9 dP) (sc:E9 fm) (n:FC)
 |done (a:Int) (sc:E9 fm) (n:FC)
 |err (c:Int)
def eN (ts:E9 dP) (sc:E9 fm) (n:FC) (a:Int):Mc:=match ts with
 |[]=> .done a sc n
 | (e,ps)::r=> .go ((e,ps++[a])::r) sc n
def j6 (e:Exp) (ts:E9 dP) (sc:E9 fm):FC->Mc
 |0=> .err (-13)
 |n+1=> .go ((e,[])::ts) sc n
def k7:Exps->E9 Exp
 | .nil=>[]
 | .cons e l=>e::k7 l
def Dm:Rest->E9 Exp
 | .nil=>[]
 | .cons _ e r=>e::Dm r
def zL:Rest->E9 Gm
 | .nil=>[]
 | .cons op _ r=>op::zL r
def fM (sc:E9 fm):fm:=sc.getLastD λ_=>FB
def look (sc:E9 fm) (x:Gm):Ft Int:=match sc.headD (λ_=>FB) x with
 |some a=>Fa a
 |none=>fM sc x
def pj (sc:E9 fm) (y:Gm) (a:Int):E9 fm:=match sc with
 |[]=>[]
 |s::r=>(λx=>if x=y then Fa a else s x)::r
def uZ (ps:E9 Gm) (l:E9 Int):fm:=λx=>((ps.zip l).find? λa=>a.1 == x).map λa=>a.2
def fO (s:FC) (op:Gm) (a b:Int):Except Int Int:=if s=2 then .ok (truth (compare op a b)) else match arith op a b 0 with
 | .error c=> .error c
 | .ok (v,_)=> .ok v
def jg (s:FC) (a:Int):Gu:=if s=1 then a == 0 else a !=0
def mZ (s:FC):Int:=if s=1 then 0 else 1
def pc (s:FC) (ops:E9 Exp) (e:Exp) (ps:E9 Int) (r:E9 dP) (sc:E9 fm) (n:FC):Ft Mc:=
 if ps.getLast?.any (jg s)=FM then Fa (eN r sc n (mZ s)) else match ops[ps.length]? with
 |some o=>Fa (j6 o ((e,ps)::r) sc n)
 |none=>Fa (eN r sc n (1-mZ s))
def k9 (s:FC) (ops:E9 Exp) (sgs:E9 Gm) (e:Exp) (ps:E9 Int) (r:E9 dP) (sc:E9 fm) (n:FC):Ft Mc:=
 let k:=ps.length
 let ps':Ft (Except Int (E9 Int)):=if 1<k then(match sgs[k-2]?,ps[k-2]?,ps[k-1]? with
  |some op,some a,some b=>Fa (match fO s op a b with
   | .error c=> .error c
   | .ok v=> .ok (ps.take (k-1)++[v]))
  |_,_,_=>FB) else Fa (.ok ps)
 match ps' with
 |none=>FB
 |some (.error c)=>Fa (.err c)
 |some (.ok ps)=>match ops[ps.length]? with
  |some o=>Fa (j6 o ((e,ps)::r) sc n)
  |none=>ps.getLast?.map λa=>eN r sc n a
def gG (e:Exp) (y:Gm) (b:Exp) (p q:Int) (acc:E9 Int) (r:E9 dP) (sc:E9 fm) (n:FC):Ft Mc:=
 let t:=acc.length
 let alU:Except Int (E9 Int):=if 1<t then(match checked (acc.getD (t-2) 0+acc.getD (t-1) 0) 0 with
  | .error c=> .error c
  | .ok (v,_)=> .ok (acc.take (t-1)++[v])) else .ok acc
 match alU with
 | .error c=>Fa (.err c)
 | .ok acc=>if p+(t:Int)<=q then(match n with
   |0=>Fa (.err (-13))
   |n+1=>(match sc with
    |[]=>FB
    |h::tl=>Fa (j6 b ((e,p::q::acc)::r) (pj (h::tl) y (p+(t:Int))) n)))
  else Fa (eN r sc n (acc.getLast?.getD 0))
def eJ (F:Funs):Mc->Ft Mc
 | .go ((e,ps)::r) sc n=>(match e with
  | .num a=>Fa (eN r sc n (a:FC))
  | .name x=>(look sc x).map (eN r sc n)
  | .call f l=>(match (k7 l)[ps.length]? with
   |some o=>Fa (j6 o ((e,ps)::r) sc n)
   |none=>match F.find? λg=>g.1 == f with
    |none=>if ps.length=(k7 l).length then Fa (eN r sc n (builtIn f ps)) else FB
    |some g=>if ps.length=(k7 l).length then Fa (j6 g.2.2 ((e,ps)::r) (uZ g.2.1 ps::sc) n) else(match sc with
     |[]=>FB
     |_::tl=>(ps[(k7 l).length]?).map λa=>eN r tl n a))
  | .neg a=>(match ps with
   |[]=>Fa (j6 a ((e,ps)::r) sc n)
   |b::_=>Fa (eN r sc n (-b)))
  | .not a=>(match ps with
   |[]=>Fa (j6 a ((e,ps)::r) sc n)
   |b::_=>Fa (eN r sc n (truth (b == 0))))
  | .sums a l=>k9 3 (a::Dm l) (zL l) e ps r sc n
  | .prods a l=>k9 4 (a::Dm l) (zL l) e ps r sc n
  | .cmp op a b=>k9 2 [a,b] [op] e ps r sc n
  | .both a l=>pc 1 (a::k7 l) e ps r sc n
  | .either a l=>pc 0 (a::k7 l) e ps r sc n
  | .pick c a b=>(match ps with
   |[]=>Fa (j6 c ((e,ps)::r) sc n)
   |[p]=>Fa (j6 (if p≠0 then a else b) ((e,ps)::r) sc n)
   |[_,v]=>Fa (eN r sc n v)
   |_=>FB)
  | .sum y lo hi b=>(match ps with
   |[]=>Fa (j6 lo ((e,ps)::r) sc n)
   |[_]=>Fa (j6 hi ((e,ps)::r) sc n)
   |p::q::acc=>gG e y b p q acc r sc n))
 |_=>FB
inductive lN (F:Funs) (f:Mc->Prop):Mc->FC->Prop
 |here {m:Mc} :f m->lN F f m 0
 |step {m m':Mc}{j:FC} :eJ F m=Fa m'->lN F f m' j->lN F f m (j+1)
def HE (F:Funs) (f:Mc->Prop) (m:Mc):Prop:= ∃j,lN F f m j
theorem HE.step {f:Mc->Prop}(h:eJ F m=Fa m') (k:HE F f m'):HE F f m:=let ⟨j,k⟩:=k;#[j+1, .step h k]
mutual
def WS:E9 Gm->E9 (Gm×FC)->Exp->Prop
 |_,_, .num n=>n<1000000000000000000
 |V,_, .name x=>x∈V
 |V,F, .call f l=>(∃p,(F.find? λg=>g.1 == f)=Fa p/\(k7 l).length=p.2)/\ox V F l
 |V,F, .neg e=>WS V F e
 |V,F, .not e=>WS V F e
 |V,F, .sums e r=>WS V F e/\(∃op a s,r= .cons op a s)/\uB ["+","-"] V F r
 |V,F, .prods e r=>WS V F e/\(∃op a s,r= .cons op a s)/\uB ["*","/","%"] V F r
 |V,F, .cmp op a b=>op∈(["==","!=","<=",">=","<",">"].map text)/\WS V F a/\WS V F b
 |V,F, .both e l=>WS V F e/\(∃a s,l= .cons a s)/\ox V F l
 |V,F, .either e l=>WS V F e/\(∃a s,l= .cons a s)/\ox V F l
 |V,F, .pick c a b=>WS V F c/\WS V F a/\WS V F b
 |V,F, .sum y lo hi e=>y∉V/\WS V F lo/\WS V F hi/\WS (y::V) F e
def ox:E9 Gm->E9 (Gm×FC)->Exps->Prop
 |_,_, .nil=>True
 |V,F, .cons e l=>WS V F e/\ox V F l
def uB:E9 String->E9 Gm->E9 (Gm×FC)->Rest->Prop
 |_,_,_, .nil=>True
 |L,V,F, .cons op e r=>op∈L.map text/\WS V F e/\uB L V F r
end
abbrev dB (a:Int):Prop:= -BIG<=a/\a<=BIG
structure Ag (S:Scope) (V:E9 Gm) (v:Env) (sc:E9 fm):Prop where
 val: ∀x∈V,look sc x=Fa (valueIn v x)
 bot: ∀x∈S.consts.map (·.1),fM sc x=Fa (valueIn S.consts x)
 low:sc.length=1-> ∀x∈S.consts.map (·.1),x∈V
 big: ∀x,dB (valueIn v x)
structure ahD (S:Scope) (F:E9 (Gm×FC)) (g:Gm×E9 Gm×Exp):Prop where
 ws: ∃Kg Fg,WS (g.2.1++Kg) Fg g.2.2/\(∀x∈Kg,x∈S.consts.map (·.1))/\ ∀f p,(Fg.find? λh=>h.1 == f)=Fa p->(F.find? λh=>h.1 == f)=Fa p
 nd:g.2.1.Nodup
 le:g.2.1.length<=6
structure gy (S:Scope) (F:E9 (Gm×FC)):Prop where
 all: ∀f p,(F.find? λh=>h.1 == f)=Fa p->(∃g,(S.funs.find? λh=>h.1 == f)=Fa g/\g.2.1.length=p.2/\ahD S F g)\/((S.funs.find? λh=>h.1 == f)=FB/\(BUILT.find? λh=>h.1 == f)=Fa p)
 ahE: ∀x,dB (valueIn S.consts x)
def Sub (G F:E9 (Gm×FC)):Prop:= ∀f p,(G.find? λh=>h.1 == f)=Fa p->(F.find? λh=>h.1 == f)=Fa p
section
variable {h:fm}
theorem gY {a:Int} :valueIn ((y,a)::v) x=if x=y then a else valueIn v x:=by
 unfold valueIn;rw[Hj];by_cases e:x=y
 .rw[Fm e,e,show(y == y)=FM from G7 y]
  rfl
 .rw[Fj e,show(y == x)=FS from beq_eq_false_iff_ne.mpr λz=>e z.symm]
theorem oz {a:Int} :fM ((λz=>if z=y then Fa a else h z)::tl) x=if x=y/\tl=[] then Fa a else fM (h::tl) x:=by
 cases tl with
 |nil=>
  unfold fM;by_cases e:x=y
  .rw[Fm #[e,Gc]];exact Fm e
  .rw[Fj λz=>e z.1];exact Fj e
 |cons t r=>rw[Fj λz=>by cases z.2];rfl
theorem Ag.set (A:Ag S V v (h::tl)) {a:Int}(ny:y∉V) (ba:dB a):Ag S (y::V) ((y,a)::v) (pj (h::tl) y a):=by
 refine#[λx hx=>?_,λx hx=>?_,λl x hx=>Fp _ (A.low l x hx),λx=>?_]
 .rw[gY]
  unfold pj look;by_cases e:x=y
  .rw[Fm e]
   show(match (if x=y then Fa a else h x) with|some a=>Fa a|none=>_)=_
   rw[Fm e]
  .rw[Fj e]
   have hv:x∈V:=by
    rcases Fy.mp hx with z|z
    .exact FH z e
    .exact z
   have:=A.val x hv;unfold look at this
   show(match (if x=y then Fa a else h x) with|some a=>Fa a|none=>_)=_
   rw[Fj e,oz,Fj λz=>e z.1];exact this
 .unfold pj
  rw[oz];by_cases e:x=y/\tl=[]
  .exact FH (A.low (by rw[e.2];rfl) x hx) (by rw[e.1];exact ny)
  .rw[Fj e]
   exact A.bot x hx
 .rw[gY]
  split
  .exact ba
  .exact A.big x
theorem Ag.unset {a:Int}(A:Ag S (y::V) ((y,a)::v) (h::tl)) (ny:y∉V) (bg: ∀x,dB (valueIn v x)) (lo:tl=[]-> ∀x∈S.consts.map (·.1),x∈V):Ag S V v (h::tl):=by
 refine#[λx hx=>?_,A.bot,λl=>lo (QJ (Rr l)),bg];rw[A.val x (Fp _ hx),gY,Fj λz=>ny (by rw[<-z];exact hx)]
end
end OS
namespace OS
open Vbemac
theorem bQ {a:Int}(h:checked x n= .ok (a,m)):dB a/\m=n/\a=x:=by
 unfold checked at h;split at h
 .rename_i z
  cases h;exact#[z,Gc,Gc]
 .cases h
theorem gQ (b:Gu):dB (truth b):=by cases b<;>decide
theorem pX {x y a:Int}(h:arith op x y n= .ok (a,m)):dB a/\m=n:=by
 unfold arith at h;split at h
 .exact#[(bQ h).1,(bQ h).2.1]
 split at h
 .exact#[(bQ h).1,(bQ h).2.1]
 split at h
 .exact#[(bQ h).1,(bQ h).2.1]
 split at h
 .cases h
 split at h
 .exact#[(bQ h).1,(bQ h).2.1]
 .exact#[(bQ h).1,(bQ h).2.1]
theorem xl {a:Int}(h:dB a):dB (-a):=by unfold dB BIG at *; lia
theorem pA {f:Gm}(h: ∀a∈l,dB a):dB (builtIn f l):=by
 have z:dB 0:=by decide
 have g: ∀i,dB (l.getD i 0):=λi=>by
  rw[IP];cases e:l[i]? with
  |none=>exact z
  |some a=>exact h a (G8 e)
 have g0:=g 0
 have g1:=g 1;unfold builtIn;dsimp only;unfold dB BIG at*;split
 .lia
 split
 .lia
 split<;>lia
theorem lX {u v:Env} :valueIn (u++v) x=match u.find? (λa=>a.1 == x) with
  |some a=>a.2
  |none=>valueIn v x:=by
 unfold valueIn;rw[VL];cases u.find? (λa=>a.1 == x)<;>rfl
section
variable {f:Mc->Prop}
def abg (S:Scope) (f:Mc->Prop) (V:E9 Gm) (v:Env) (tl:E9 fm) (n:FC) (r:Res Int) (k:Int->E9 fm->FC->Mc):Prop:=match r with
 | .error c=>f (.err c)
 | .ok (a,m)=>dB a->m<n-> ∀h,Ag S V v (h::tl)->HE S.funs f (k a (h::tl) m)
def EvP (S:Scope) (F0:E9 (Gm×FC)) (f:Mc->Prop) (k:FC):Prop:= ∀V v G e ts h tl n,Ag S V v (h::tl)->WS V G e->Sub G F0->3*n+1<=k->abg S f V v tl n (ev k S v e n) (λa sc m=>eN ts sc m a)->HE S.funs f (j6 e ts (h::tl) n)
theorem qZ (h:f (.err c)):HE F f (.err c):=#[0, .here h]
variable {h:fm}
theorem jQ {α:Type}{l:E9 α}{x:α}{r:E9 α}(h:l.drop k=x::r):l[k]?=Fa x/\l.drop (k+1)=r:=by
 constructor
 .have:=Gq (λz:E9 α=>z[0]?) h
  simpa using this
 .have:=Gq (E9.drop 1) h
  simpa [OF,KG] using this
theorem qg {α:Type}{l:E9 α}(h:l.drop k=[]):l[k]?=FB:=IX (by simpa using h)
theorem wm (sb:Sub G F0): ∀(r:Exps) (k n:FC) (ps:E9 Int) (h:fm),(∀j,j<k->EvP S F0 f j)->Ag S V v (h::tl)->ox V G r->3*n+2<=k->(k7 l).drop ps.length=k7 r->(∀a∈ps,dB a)->
  (match evAll k S v r n with
   | .error c=>f (.err c)
   | .ok (as,m)=>(∀a∈ps++as,dB a)->as.length=(k7 r).length->m<=n-> ∀h,Ag S V v (h::tl)->HE S.funs f (.go ((.call g l,ps++as)::ts) (h::tl) m))->HE S.funs f (.go ((.call g l,ps)::ts) (h::tl) n)
 |r,0,n,ps,h,_,_,_,hk,_,_,_=>by lia
 | .nil,k+1,n,ps,h,IH,A,w,hk,hd,bp,q=>by
  unfold evAll at q;have:=q (by rw[Hc];exact bp) Gc (FF _) h A;rw[Hc] at this;exact this
 | .cons e r,k+1,n,ps,h,IH,A,w,hk,hd,bp,q=>by
  unfold ox at w;unfold evAll at q;dsimp only at q;obtain⟨d1,d2⟩:=jQ hd;refine HE.step (m':=j6 e ((.call g l,ps)::ts) (h::tl) n) (by unfold eJ;dsimp only;rw[d1]) (IH k (HG _) V v G e _ h tl n A w.1 sb (by lia) ?_);cases h1:ev k S v e n with
  |error c=>rw[h1] at q;exact q
  |ok z=>
   obtain⟨a,m1⟩:=z;rw[h1] at q;intro b1 l1 h' A';refine wm sb r k m1 (ps++[a]) h' (λj hj=>IH j (Jo hj)) A' w.2 (by lia) (by rw[FL];exact d2) (λx hx=>?_) ?_
   .rcases FY.mp hx with z|z
    .exact bp x z
    .rw[FN.mp z];exact b1
   .dsimp only at q
    cases h2:evAll k S v r m1 with
    |error c=>rw[h2] at q;exact q
    |ok z=>
     obtain⟨bs,m2⟩:=z;rw[h2] at q;dsimp only at q ⊢;intro b2 q2 l2 h2 A2;rw[GG] at b2 ⊢;exact q b2 (by show bs.length+1=(k7 r).length+1;rw[q2]) (by lia) h2 A2
def qM (ops:E9 Exp) (e:Exp) (ps:E9 Int) (r:E9 dP) (sc:E9 fm) (n:FC):Ft Mc:=match ops[ps.length]? with
 |some o=>Fa (j6 o ((e,ps)::r) sc n)
 |none=>ps.getLast?.map λa=>eN r sc n a
theorem oA (h:ps.length<=1):k9 s ops sgs e ps ts sc n=qM ops e ps ts sc n:=by
 unfold k9;dsimp only;rw[Fj (by lia)]
 rfl
theorem sU {a b:Int}(h:sgs[qs.length]?=Fa op):k9 s ops sgs e (qs++[a,b]) ts sc n=match fO s op a b with
  | .error c=>Fa (.err c)
  | .ok v=>qM ops e (qs++[a,v]) ts sc n:=by
 have l:(qs++[a,b]).length=qs.length+2:=by simp
 unfold k9;dsimp only;rw[l,Fm (by lia),M9,h,show(qs++[a,b])[qs.length]?=Fa a by simp,show qs.length+2-1=qs.length+1 from Gc,show(qs++[a,b])[qs.length+1]?=Fa b by simp];dsimp only;rw[show(qs++[a,b]).take (qs.length+1)=qs++[a] by rw[QD,Js (Li _)];simp];cases fO s op a b with
 |error c=>rfl
 |ok v=>dsimp only;rw[GG];rfl
theorem nU (hs:s≠2) {a b:Int} :arith op a b n=match fO s op a b with
  | .error c=> .error c
  | .ok d=> .ok (d,n):=by
 have ck: ∀x:Int,checked x n=match checked x 0 with
   | .error c=> .error c
   | .ok (d,_)=> .ok (d,n):=λx=>by unfold checked;split<;>rfl
 have go:arith op a b n=match arith op a b 0 with
   | .error c=> .error c
   | .ok (d,_)=> .ok (d,n):=by
  unfold arith;split
  .exact ck _
  split
  .exact ck _
  split
  .exact ck _
  split
  .rfl
  split
  .exact ck _
  .exact ck _
 rw[go];unfold fO;rw[Fj hs];cases arith op a b 0<;>rfl
theorem nI (hs:s≠2) (hm: ∀ps ts sc n,eJ S.funs (.go ((e,ps)::ts) sc n)=k9 s ops sgs e ps ts sc n) (sb:Sub G F0): ∀(r:Rest) (k n:FC) (qs:E9 Int) (x:Int) (h:fm),(∀j,j<k->EvP S F0 f j)->Ag S V v (h::tl)->uB L V G r->3*n+2<=k->dB x->
  ops.drop (qs.length+1)=Dm r->sgs.drop qs.length=zL r->(match VW k S v x r n with
   | .error c=>f (.err c)
   | .ok (a,m)=>dB a->m<=n-> ∀h,Ag S V v (h::tl)->HE S.funs f (eN ts (h::tl) m a))-> ∃m,qM ops e (qs++[x]) ts (h::tl) n=Fa m/\HE S.funs f m
 |r,0,n,qs,x,h,_,_,_,hk,_,_,_,_=>by lia
 | .nil,k+1,n,qs,x,h,IH,A,w,hk,bx,hd,hg,q=>by
  unfold VW at q;refine#[_,?_,q bx (FF _) h A];unfold qM;rw[FL,show qs.length+[x].length=qs.length+1 from Gc,qg hd];simp
 | .cons op o r,k+1,n,qs,x,h,IH,A,w,hk,bx,hd,hg,q=>by
  unfold uB at w;unfold VW at q;dsimp only at q;obtain⟨d1,d2⟩:=jQ hd;obtain⟨g1,g2⟩:=jQ hg;refine#[j6 o ((e,qs++[x])::ts) (h::tl) n,by unfold qM;rw[FL,show qs.length+[x].length=qs.length+1 from Gc,d1],IH k (HG _) V v G o _ h tl n A w.2.1 sb (by lia) ?_];cases h1:ev k S v o n with
  |error c=>rw[h1] at q;exact q
  |ok z=>
   obtain⟨b,m1⟩:=z;rw[h1] at q;intro b1 l1 h' A';dsimp only at q;rw[nU hs] at q;have st: ∀m,(match fO s op x b with
     | .error c=>Fa (.err c)
     | .ok d=>qM ops e (qs++[x,d]) ts (h'::tl) m1)=Fa m->HE S.funs f m->HE S.funs f (eN ((e,qs++[x])::ts) (h'::tl) m1 b):=λm P5 hq=>by
    refine HE.step (m':=m) ?_ hq;show eJ S.funs (.go ((e,(qs++[x])++[b])::ts) (h'::tl) m1)=Fa m;rw[hm,GG];exact(sU g1).trans P5
   cases h2:fO s op x b with
   |error c=>
    rw[h2] at q st;exact st _ Gc (qZ q)
   |ok d=>
    rw[h2] at q st;dsimp only at q st;have bd:dB d:=by
     have z:=nU hs (op:=op) (a:=x) (b:=b) (n:=0);rw[h2] at z;exact(pX z).1
    obtain⟨m,e1,e2⟩:=nI hs hm sb r k m1 (qs++[x]) d h' (λj hj=>IH j (Jo hj)) A' w.2.2 (by lia) bd (by rw[FL];exact d2) (by rw[FL];exact g2) (by
     cases h3:VW k S v d r m1 with
     |error c=>rw[h3] at q;exact q
     |ok z=>
      rw[h3] at q;intro y1 y2;exact q y1 (by lia))
    rw[GG] at e1;exact st m e1 e2
def evD (s:FC) (k:FC) (S:Scope) (v:Env) (l:Exps) (n:FC):Res Int:=if s=1 then Zd k S v l n else TM k S v l n
theorem Ea:evD s (k+1) S v .nil n= .ok (1-mZ s,n):=by
 unfold evD mZ;split
 .unfold Zd;rfl
 .unfold TM;rfl
theorem mE:evD s (k+1) S v (.cons e r) n=match ev k S v e n with
  | .error c=> .error c
  | .ok (a,m)=>if jg s a=FM then .ok (mZ s,m) else evD s k S v r m:=by
 unfold evD mZ jg;split
 .rw[Zd]
  cases ev k S v e n with
  |error c=>rfl
  |ok z=>dsimp only;simp only[beq_iff_eq]
 .rw[TM]
  cases ev k S v e n with
  |error c=>rfl
  |ok z=>dsimp only;simp only[bne_iff_ne]
theorem ml (s:FC):dB (mZ s)/\dB (1-mZ s):=by unfold mZ;split<;>decide
theorem qL (hm: ∀ps ts sc n,eJ S.funs (.go ((e,ps)::ts) sc n)=pc s ops e ps ts sc n) (sb:Sub G F0): ∀(l:Exps) (k n:FC) (ps:E9 Int) (h:fm),(∀j,j<k->EvP S F0 f j)->Ag S V v (h::tl)->ox V G l->3*n+2<=k->
  ops.drop ps.length=k7 l-> ¬ps.getLast?.any (jg s)=FM->(match evD s k S v l n with
   | .error c=>f (.err c)
   | .ok (a,m)=>dB a->m<=n-> ∀h,Ag S V v (h::tl)->HE S.funs f (eN ts (h::tl) m a))->HE S.funs f (.go ((e,ps)::ts) (h::tl) n)
 |l,0,n,ps,h,_,_,_,hk,_,_,_=>by lia
 | .nil,k+1,n,ps,h,IH,A,w,hk,hd,hp,q=>by
  rw[Ea] at q;exact HE.step (by rw[hm];unfold pc;rw[Fj hp,qg hd]) (q (ml s).2 (FF _) h A)
 | .cons o r,k+1,n,ps,h,IH,A,w,hk,hd,hp,q=>by
  unfold ox at w;rw[mE] at q;obtain⟨d1,d2⟩:=jQ hd;refine HE.step (by rw[hm];unfold pc;rw[Fj hp,d1]) (IH k (HG _) V v G o _ h tl n A w.1 sb (by lia) ?_);cases h1:ev k S v o n with
  |error c=>rw[h1] at q;exact q
  |ok z=>
   obtain⟨a,m1⟩:=z;rw[h1] at q;intro b1 l1 h' A';dsimp only at q;by_cases ha:jg s a=FM
   .rw[Fm ha] at q
    exact HE.step (by show eJ S.funs (.go ((e,ps++[a])::ts) _ _)=_;rw[hm];unfold pc;rw[Fm (by simp [ha])]) (q (ml s).1 (by lia) h' A')
   .rw[Fj ha] at q
    refine qL hm sb r k m1 (ps++[a]) h' (λj hj=>IH j (Jo hj)) A' w.2 (by lia) (by rw[FL];exact d2) (by simp [ha]) ?_;cases h3:evD s k S v r m1 with
    |error c=>rw[h3] at q;exact q
    |ok z=>
     rw[h3] at q;intro y1 y2;exact q y1 (by lia)
def Ee (e:Exp) (y:Gm) (b:Exp) (p q:Int) (acc:E9 Int) (r:E9 dP) (sc:E9 fm) (n:FC):Mc:=if p+(acc.length:Int)<=q then(match n with
   |0=> .err (-13)
   |n+1=>j6 b ((e,p::q::acc)::r) (pj sc y (p+(acc.length:Int))) n)
  else eN r sc n (acc.getLast?.getD 0)
theorem qb (h':acc.length<=1):gG e y b p q acc ts (h::tl) n=Fa (Ee e y b p q acc ts (h::tl) n):=by
 unfold gG Ee;dsimp only;rw[Fj (by lia)];dsimp only;split
 .cases n<;>rfl
 .rfl
theorem xW:gG e y b p q (acc++[x,z]) ts (h::tl) n=Fa (match checked (x+z) 0 with
  | .error c=> .err c
  | .ok (d,_)=>Ee e y b p q (acc++[x,d]) ts (h::tl) n):=by
 have l: ∀d,(acc++[x,d]).length=acc.length+2:=λd=>by simp
 unfold gG Ee;dsimp only;rw[l,Fm (by lia),M9,show(acc++[x,z]).getD acc.length 0=x by simp [IP],show acc.length+2-1=acc.length+1 from Gc,show(acc++[x,z]).getD (acc.length+1) 0=z by simp [IP],
  show(acc++[x,z]).take (acc.length+1)=acc++[x] by rw[QD,Js (Li _)];simp]
 cases checked (x+z) 0 with
 |error c=>rfl
 |ok d=>
  obtain⟨d,_⟩:=d;dsimp only;rw[l,GG];split
  .cases n<;>rfl
  .rfl
theorem uJ:checked x n=match checked x 0 with
  | .error c=> .error c
  | .ok (d,_)=> .ok (d,n):=by unfold checked;split<;>rfl
theorem we (sb:Sub G F0) (ny:y∉V) (bp:dB p) (bq:dB q) (w:WS (y::V) G b): ∀(k n:FC) (acc:E9 Int) (x:Int) (h:fm),(∀j,j<k->EvP S F0 f j)->Ag S V v (h::tl)->3*n+2<=k->dB x->(acc=[]/\x=0\/ ∃qs,acc=qs++[x])->
  (match evSum k S v y (p+(acc.length:Int)) q b x n with
   | .error c=>f (.err c)
   | .ok (a,m)=>dB a->m<=n-> ∀h,Ag S V v (h::tl)->HE S.funs f (eN ts (h::tl) m a))->HE S.funs f (Ee (.sum y lo hi b) y b p q acc ts (h::tl) n)
 |0,n,acc,x,h,_,_,hk,_,_,_=>by lia
 |k+1,n,acc,x,h,IH,A,hk,bx,ha,r=>by
  unfold evSum at r;unfold Ee;have lx:acc.getLast?.getD 0=x:=by
   rcases ha with⟨e1,e2⟩|⟨qs,e⟩
   .rw[e1,e2];rfl
   .rw[e];simp
  by_cases hq:p+(acc.length:Int)<=q
  .rw[Fm hq]
   rw[Fj (by lia)] at r;cases n with
   |zero=>exact qZ r
   |succ n=>
    dsimp only at r ⊢;have bpt:dB (p+(acc.length:Int)):=by unfold dB at *; lia
    refine IH k (HG _) (y::V) _ G b _ _ tl n (A.set ny bpt) w sb (by lia) ?_;cases h1:ev k S ((y,p+(acc.length:Int))::v) b n with
    |error c=>rw[h1] at r;exact r
    |ok z=>
     obtain⟨z,m1⟩:=z;rw[h1] at r;intro b1 l1 h' A0;have A':Ag S V v (h'::tl):=A0.unset ny A.big λe=>A.low (by rw[e];rfl);dsimp only at r;rw[uJ] at r;have go: ∀(as:E9 Int) (d:Int) (hd:dB d) (hl: ∃qs,as=qs++[d]) (hn:as.length=acc.length+1),(match evSum k S v y (p+(acc.length:Int)+1) q b d m1 with
       | .error c=>f (.err c)
       | .ok (a,m)=>dB a->m<=n+1-> ∀h,Ag S V v (h::tl)->HE S.funs f (eN ts (h::tl) m a))->HE S.funs f (Ee (.sum y lo hi b) y b p q as ts (h'::tl) m1):=λas d hd hl hn r=>by
      refine we sb ny bp bq w k m1 as d h' (λj hj=>IH j (Jo hj)) A' (by lia) hd (.inr hl) ?_;rw[show p+(as.length:Int)=p+(acc.length:Int)+1 by rw[hn];lia];cases h3:evSum k S v y (p+(acc.length:Int)+1) q b d m1 with
      |error c=>rw[h3] at r;exact r
      |ok z=>
       rw[h3] at r;intro y1 y2;exact r y1 (by lia)
     show HE S.funs f (.go ((.sum y lo hi b,p::q::(acc++[z]))::ts) (h'::tl) m1)
     rcases ha with⟨e1,e2⟩|⟨qs,e⟩
     .subst e1 e2
      have cz:checked (0+z) 0= .ok (z,0):=by unfold checked;rw[Int.zero_add];exact Fm b1
      rw[cz] at r;exact HE.step (m':=Ee (.sum y lo hi b) y b p q [z] ts (h'::tl) m1) (qb (acc:=[z]) (FF 1)) (go [z] z b1 #[[],Gc] Gc r)
     .subst e
      have st: ∀m,gG (.sum y lo hi b) y b p q (qs++[x,z]) ts (h'::tl) m1=Fa m->HE S.funs f m->HE S.funs f (.go ((.sum y lo hi b,p::q::((qs++[x])++[z]))::ts) (h'::tl) m1):=λm e hm=>HE.step (m':=m) (by rw[GG];exact e) hm
      refine st _ xW ?_;cases h2:checked (x+z) 0 with
      |error c=>rw[h2] at r;exact qZ r
      |ok d=>
       obtain⟨d,o⟩:=d;rw[h2] at r;exact go _ d (bQ h2).1 #[qs++[x],by rw[GG];rfl] (by simp) r
  .rw[Fj hq,lx]
   rw[Fm (by lia)] at r;exact r bx (FF _) h A
theorem abh (FO:gy S F0): ∀k,EvP S F0 f k:=by
 intro k
 induction k using FC.strongRecOn with
 |_ k IH=>
  intro V v G e ts h tl n A w sb hk q;cases k with
  |zero=>lia
  |succ k=>
   cases n with
   |zero=>unfold ev at q;exact qZ q
   |succ n=>
    have IH': ∀j,j<k->EvP S F0 f j:=λj hj=>IH j (Jo hj)
    have Ik:EvP S F0 f k:=IH k (HG _)
    show HE S.funs f (.go ((e,[])::ts) (h::tl) n)
    unfold ev at q;unfold abg at q;cases e with
    |num x=>
     unfold WS at w;exact HE.step Gc (q (by unfold dB BIG;lia) (HG _) h A)
    |name x=>
     exact HE.step (by unfold eJ;dsimp only;rw[A.val x w];rfl) (q (A.big x) (HG _) h A)
    |call g l=>
     dsimp only at q;unfold WS at w;obtain⟨⟨p,hp,hl⟩,wl⟩:=w;refine wm sb l k n [] h IH' A wl (by lia) Gc (λ_ z=>nomatch z) ?_
     cases h1:evAll k S v l n with
     |error c=>rw[h1] at q;exact q
     |ok z=>
      obtain⟨as,m1⟩:=z;rw[h1] at q;dsimp only at q ⊢;intro b1 q1 l1 h' A';rw[E9.nil_append] at b1 ⊢;have no:(k7 l)[as.length]?=FB:=IX (JM q1.symm);rcases FO.all g p (sb g p hp) with⟨fu,hg,hn,⟨Kg,Fg,wg,sg,sf⟩,_,_⟩|⟨hg,hb⟩
      .rw[hg] at q
       dsimp only at q;have la:fu.2.1.length=as.length:=by rw[hn,<-hl,q1]
       refine HE.step (by unfold eJ;dsimp only;rw[no,hg];dsimp only;rw[Fm q1]) (Ik (fu.2.1++Kg) (fu.2.1.zip as++S.consts) Fg fu.2.2 _ _ (h'::tl) m1 ?_ wg sf (by lia) ?_)
       .have zf: ∀x,uZ fu.2.1 as x=((fu.2.1.zip as).find? λa=>a.1 == x).map (·.2):=λ_=>rfl
        refine#[λx hx=>?_,λx hx=>A'.bot x hx,λz=>?_,λx=>?_]
        .show(match uZ fu.2.1 as x with|some a=>Fa a|none=>fM (h'::tl) x)=_
         rw[zf,lX];cases z:(fu.2.1.zip as).find? λa=>a.1 == x with
         |some a=>rfl
         |none=>
          refine A'.bot x ?_;rcases FY.mp hx with hx|hx
          .exfalso
           obtain⟨i,hi,ei⟩:=E9.getElem_of_mem hx;have hz:=PH.mp z (fu.2.1[i],as[i]'(by lia)) (E9.mem_iff_getElem.mpr #[i,by rw[WR];lia,by simp]);exact hz (by simp [ei])
          .exact sg x hx
        .have:(h'::tl).length+1=1:=z
         rw[FA] at this;lia
        .rw[lX]
         split
         .rename_i a ha
          exact b1 _ (K6 (Kz ha)).2
         .exact FO.ahE x
       .cases h2:ev k S (fu.2.1.zip as++S.consts) fu.2.2 m1 with
        |error c=>rw[h2] at q;exact q
        |ok z=>
         obtain⟨b,m2⟩:=z;rw[h2] at q;intro b2 l2 h2 A2;have no2:(k7 l)[(as++[b]).length]?=FB:=IX (by rw[FL,q1];exact JZ _ _);refine HE.step (m':=eN ts (h'::tl) m2 b) ?_ (q b2 (by lia) h' A');show eJ S.funs (.go ((.call g l,as++[b])::ts) _ _)=_;unfold eJ;dsimp only;rw[no2,hg];dsimp only;rw[Fj (by rw[FL,q1];exact FC.succ_ne_self _),<-q1,E9.getElem?_concat_length]
         rfl
      .rw[hg] at q
       exact HE.step (by unfold eJ;dsimp only;rw[no,hg];dsimp only;rw[Fm q1]) (q (pA b1) (by lia) h' A')
    |neg e=>
     dsimp only at q;unfold WS at w;refine HE.step Gc (Ik V v G e _ h tl n A w sb (by lia) ?_);cases h1:ev k S v e n with
     |error c=>rw[h1] at q;exact q
     |ok z=>
      rw[h1] at q;intro b1 l1 h' A';exact HE.step Gc (q (xl b1) (by lia) h' A')
    |not e=>
     dsimp only at q;unfold WS at w;refine HE.step Gc (Ik V v G e _ h tl n A w sb (by lia) ?_);cases h1:ev k S v e n with
     |error c=>rw[h1] at q;exact q
     |ok z=>
      rw[h1] at q;intro b1 l1 h' A';exact HE.step Gc (q (gQ _) (by lia) h' A')
    |sums e r=>
     dsimp only at q;unfold WS at w;refine HE.step Gc (Ik V v G e _ h tl n A w.1 sb (by lia) ?_);cases h1:ev k S v e n with
     |error c=>rw[h1] at q;exact q
     |ok z=>
      obtain⟨x,m1⟩:=z;rw[h1] at q;intro b1 l1 h' A';obtain⟨m,e1,e2⟩:=nI (s:=3) (e:= .sums e r) (ops:=e::Dm r) (sgs:=zL r) [01] (λ_ _ _ _=>rfl) sb r k m1 [] x h' IH' A' w.2.2 (by lia) b1 Gc Gc (by
       dsimp only at q;cases h3:VW k S v x r m1 with
       |error c=>rw[h3] at q;exact q
       |ok z=>rw[h3] at q;intro y1 y2;exact q y1 (by lia))
      exact HE.step ((oA (s:=3) (sgs:=zL r) (ps:=[x]) (FF 1)).trans e1) e2
    |prods e r=>
     dsimp only at q;unfold WS at w;refine HE.step Gc (Ik V v G e _ h tl n A w.1 sb (by lia) ?_);cases h1:ev k S v e n with
     |error c=>rw[h1] at q;exact q
     |ok z=>
      obtain⟨x,m1⟩:=z;rw[h1] at q;intro b1 l1 h' A';obtain⟨m,e1,e2⟩:=nI (s:=4) (e:= .prods e r) (ops:=e::Dm r) (sgs:=zL r) [01] (λ_ _ _ _=>rfl) sb r k m1 [] x h' IH' A' w.2.2 (by lia) b1 Gc Gc (by
       dsimp only at q;cases h3:VW k S v x r m1 with
       |error c=>rw[h3] at q;exact q
       |ok z=>rw[h3] at q;intro y1 y2;exact q y1 (by lia))
      exact HE.step ((oA (s:=4) (sgs:=zL r) (ps:=[x]) (FF 1)).trans e1) e2
    |cmp op x y=>
     dsimp only at q;unfold WS at w;refine HE.step Gc (Ik V v G x _ h tl n A w.2.1 sb (by lia) ?_);cases h1:ev k S v x n with
     |error c=>rw[h1] at q;exact q
     |ok z=>
      obtain⟨p,m1⟩:=z;rw[h1] at q;intro b1 l1 h' A';refine HE.step Gc (Ik V v G y _ h' tl m1 A' w.2.2 sb (by lia) ?_);dsimp only at q;cases h2:ev k S v y m1 with
      |error c=>rw[h2] at q;exact q
      |ok z=>
       rw[h2] at q;intro b2 l2 h2 A2;exact HE.step Gc (q (gQ _) (by lia) h2 A2)
    |both e l=>
     dsimp only at q;unfold WS at w;refine qL (s:=1) (λ_ _ _ _=>rfl) sb (.cons e l) (k+1) n [] h (λj hj=>IH j hj) A (by unfold ox;exact#[w.1,w.2.2]) (by lia) Gc (by simp) ?_;rw[mE];cases h1:ev k S v e n with
     |error c=>rw[h1] at q;exact q
     |ok z=>
      obtain⟨x,m1⟩:=z;rw[h1] at q;dsimp only at q ⊢;by_cases hx:x=0
      .rw[Fm hx] at q
       rw[Fm (show jg 1 x=FM by simp [jg,hx])];intro y1 y2;exact q y1 (by lia)
      .rw[Fj hx] at q
       rw[Fj (show¬jg 1 x=FM by simp [jg,hx])];show match Zd k S v l m1 with| .error c=>_| .ok (a,m)=>_
       cases h3:Zd k S v l m1 with
       |error c=>rw[h3] at q;exact q
       |ok z=>rw[h3] at q;intro y1 y2;exact q y1 (by lia)
    |either e l=>
     dsimp only at q;unfold WS at w;refine qL (s:=0) (λ_ _ _ _=>rfl) sb (.cons e l) (k+1) n [] h (λj hj=>IH j hj) A (by unfold ox;exact#[w.1,w.2.2]) (by lia) Gc (by simp) ?_;rw[mE];cases h1:ev k S v e n with
     |error c=>rw[h1] at q;exact q
     |ok z=>
      obtain⟨x,m1⟩:=z;rw[h1] at q;dsimp only at q ⊢;by_cases hx:x≠0
      .rw[Fm hx] at q
       rw[Fm (show jg 0 x=FM by simp [jg,hx])];intro y1 y2;exact q y1 (by lia)
      .rw[Fj hx] at q
       rw[Fj (show¬jg 0 x=FM by simp [jg,hx])];show match TM k S v l m1 with| .error c=>_| .ok (a,m)=>_
       cases h3:TM k S v l m1 with
       |error c=>rw[h3] at q;exact q
       |ok z=>rw[h3] at q;intro y1 y2;exact q y1 (by lia)
    |pick c x y=>
     dsimp only at q;unfold WS at w;refine HE.step Gc (Ik V v G c _ h tl n A w.1 sb (by lia) ?_);cases h1:ev k S v c n with
     |error c=>rw[h1] at q;exact q
     |ok z=>
      obtain⟨p,m1⟩:=z;rw[h1] at q;intro b1 l1 h' A';dsimp only at q;by_cases hp:p≠0
      .rw[Fm hp] at q
       refine HE.step (m':=j6 x ((.pick c x y,[p])::ts) (h'::tl) m1) (by show Fa (j6 (if p≠0 then x else y) _ _ _)=_;rw[Fm hp];rfl) (Ik V v G x _ h' tl m1 A' w.2.1 sb (by lia) ?_)
       cases h2:ev k S v x m1 with
       |error c=>rw[h2] at q;exact q
       |ok z=>
        rw[h2] at q;intro b2 l2 h2 A2;exact HE.step Gc (q b2 (by lia) h2 A2)
      .rw[Fj hp] at q
       refine HE.step (m':=j6 y ((.pick c x y,[p])::ts) (h'::tl) m1) (by show Fa (j6 (if p≠0 then x else y) _ _ _)=_;rw[Fj hp];rfl) (Ik V v G y _ h' tl m1 A' w.2.2 sb (by lia) ?_)
       cases h2:ev k S v y m1 with
       |error c=>rw[h2] at q;exact q
       |ok z=>
        rw[h2] at q;intro b2 l2 h2 A2;exact HE.step Gc (q b2 (by lia) h2 A2)
    |sum y lo hi b=>
     dsimp only at q;unfold WS at w;refine HE.step Gc (Ik V v G lo _ h tl n A w.2.1 sb (by lia) ?_);cases h1:ev k S v lo n with
     |error c=>rw[h1] at q;exact q
     |ok z=>
      obtain⟨p,m1⟩:=z;rw[h1] at q;intro b1 l1 h' A';refine HE.step Gc (Ik V v G hi _ h' tl m1 A' w.2.2.1 sb (by lia) ?_);dsimp only at q;cases h2:ev k S v hi m1 with
      |error c=>rw[h2] at q;exact q
      |ok z=>
       obtain⟨r,m2⟩:=z;rw[h2] at q;intro b2 l2 h2 A2;dsimp only at q;refine HE.step (m':=Ee (.sum y lo hi b) y b p r [] ts (h2::tl) m2) (qb (acc:=[]) (F3 1)) (we sb w.1 b1 b2 w.2.2.2 k m2 [] 0 h2 IH' A2 (by lia) [01] (.inl #[Gc,Gc]) ?_);show match evSum k S v y (p+0) r b 0 m2 with| .error c=>_| .ok (a,m)=>_
       rw[Int.add_zero];cases h3:evSum k S v y p r b 0 m2 with
       |error c=>rw[h3] at q;exact q
       |ok z=>rw[h3] at q;intro y1 y2;exact q y1 (by lia)
end
end OS
namespace OS
open Vbemac
def WSx (F0:E9 (Gm×FC)) (e:Exp):Prop:= ∃V G,WS V G e/\Sub G F0
structure Dq (F0:E9 (Gm×FC)) (t:dP):Prop where
 ws:WSx F0 t.1
 ps: ∀x∈t.2,dB x
def xR (sc:E9 fm):Prop:= ∀s∈sc,∀y x,s y=Fa x->dB x
def Gd (F0:E9 (Gm×FC)):Mc->Prop
 | .go ts sc n=>(∀t∈ts,Dq F0 t)/\xR sc/\sc.length+n<=10001
 | .done x sc n=>dB x/\xR sc/\sc.length+n<=10001
 | .err _=>True
theorem fX (h: ∀t∈ts,Dq F0 t) (g:xR sc) (b:dB x) (sn:sc.length+n<=10001):Gd F0 (eN ts sc n x):=by
 cases ts with
 |nil=>exact#[b,g,sn]
 |cons t r=>
  refine#[λu hu=>?_,g,sn];rcases Fy.mp hu with z|z
  .have:=h t (Fq ..)
   rw[z];refine#[this.ws,λy hy=>?_];rcases FY.mp hy with hy|hy
   .exact this.ps y hy
   .rw[FN.mp hy];exact b
  .exact h u (Fp _ z)
theorem fz (h: ∀t∈ts,Dq F0 t) (g:xR sc) (w:WSx F0 e) (sn:sc.length+n<=10002):Gd F0 (j6 e ts sc n):=by
 cases n with
 |zero=>trivial
 |succ n=>
  refine#[λu hu=>?_,g,by lia];rcases Fy.mp hu with z|z
  .rw[z];exact#[w,λy hy=>nomatch hy]
  .exact h u z
theorem mf {V:E9 Gm}{G:E9 (Gm×FC)} : ∀ {l:Exps}{e:Exp},ox V G l->e∈k7 l->WS V G e
 | .nil,_,_,h=>nomatch h
 | .cons a l,e,w,h=>by
  unfold ox at w;rcases Fy.mp h with z|z
  .rw[z];exact w.1
  .exact mf w.2 z
theorem qJ {L:E9 String}{V:E9 Gm}{G:E9 (Gm×FC)} : ∀ {r:Rest}{e:Exp},uB L V G r->e∈Dm r->WS V G e
 | .nil,_,_,h=>nomatch h
 | .cons op a l,e,w,h=>by
  unfold uB at w;rcases Fy.mp h with z|z
  .rw[z];exact w.2.1
  .exact qJ w.2.2 z
theorem Da (h: ∀t∈(e,ps)::ts,Dq F0 t) (g:xR sc) (sn:sc.length+n<=10001) (w: ∀o∈ops,WSx F0 o) (hm:pc s ops e ps ts sc n=Fa m):Gd F0 m:=by
 have h': ∀t∈ts,Dq F0 t:=λt ht=>h t (Fp _ ht)
 unfold pc at hm;split at hm
 .cases hm;exact fX h' g (ml s).1 sn
 .split at hm
  .rename_i o ho
   cases hm;exact fz h g (w o (G8 ho)) (by lia)
  .cases hm;exact fX h' g (ml s).2 sn
theorem uk {a b v:Int}(h:fO s op a b= .ok v):dB v:=by
 unfold fO at h;split at h
 .cases h;exact gQ _
 .split at h
  .cases h
  .rename_i e
   cases h;exact(pX e).1
theorem vG (h: ∀t∈(e,ps)::ts,Dq F0 t) (g:xR sc) (sn:sc.length+n<=10001) (w: ∀o∈ops,WSx F0 o) (hm:k9 s ops sgs e ps ts sc n=Fa m):Gd F0 m:=by
 have h': ∀t∈ts,Dq F0 t:=λt ht=>h t (Fp _ ht)
 have h0:=h (e,ps) (Fq ..)
 have go: ∀qs:E9 Int,(∀x∈qs,dB x)->(match ops[qs.length]? with
   |some o=>Fa (j6 o ((e,qs)::ts) sc n)
   |none=>qs.getLast?.map λa=>eN ts sc n a)=Fa m->Gd F0 m:=λqs hq hm=>by
  split at hm
  .rename_i o ho
   cases hm;refine fz (λt ht=>?_) g (w o (G8 ho)) (by lia);rcases Fy.mp ht with z|z
   .rw[z];exact#[h0.ws,hq]
   .exact h' t z
  .obtain⟨x,hx,rfl⟩:=Gj.mp hm
   exact fX h' g (hq x (Me hx)) sn
 unfold k9 at hm;dsimp only at hm;split at hm
 .cases hm
 .cases hm;trivial
 .rename_i qs he
  refine go qs (λx hx=>?_) hm;split at he
  .split at he
   .rename_i op a b _ ha hb
    have he:=FG he;split at he
    .cases he
    .rename_i v hv
     cases he;rcases FY.mp hx with hx|hx
     .exact h0.ps x (Uh hx)
     .rw[FN.mp hx];exact uk hv
   .cases he
  .cases he;exact h0.ps x hx
theorem AG (g:xR sc) (b:dB x):xR (pj sc y x):=by
 cases sc with
 |nil=>exact g
 |cons s r=>
  intro t ht z v hv;unfold pj at ht;rcases Fy.mp ht with e|e
  .rw[e] at hv
   dsimp only at hv;split at hv
   .cases hv;exact b
   .exact g s (Fq ..) z v hv
  .exact g t (Fp _ e) z v hv
theorem Ef (h: ∀t∈(e,p::q::acc)::ts,Dq F0 t) (g:xR sc) (sn:sc.length+n<=10001) (w:WSx F0 b) (hm:gG e y b p q acc ts sc n=Fa m):Gd F0 m:=by
 have h': ∀t∈ts,Dq F0 t:=λt ht=>h t (Fp _ ht)
 have h0:=h (e,p::q::acc) (Fq ..)
 have hp:dB p:=h0.ps p (Fq ..)
 have hq:dB q:=h0.ps q (Fp _ (Fq ..))
 have ha: ∀x∈acc,dB x:=λx hx=>h0.ps x (Fp _ (Fp _ hx))
 unfold gG at hm;dsimp only at hm;split at hm
 .cases hm;trivial
 .rename_i as he
  have hs: ∀x∈as,dB x:=λx hx=>by
   split at he
   .split at he
    .cases he
    .rename_i v _ hv
     cases he;rcases FY.mp hx with hx|hx
     .exact ha x (Uh hx)
     .rw[FN.mp hx];exact(bQ hv).1
   .cases he;exact ha x hx
  split at hm
  .rename_i hle
   cases n with
   |zero=>cases hm;trivial
   |succ n=>
    cases sc with
    |nil=>cases hm
    |cons s0 sc=>
    cases hm;refine fz (λt ht=>?_) (AG g (by unfold dB at *; lia)) w (by show(s0::sc).length+n<=10002;lia);rcases Fy.mp ht with z|z
    .rw[z]
     refine#[h0.ws,λx hx=>?_];rcases Fy.mp hx with z|hx
     .rw[z];exact hp
     .rcases Fy.mp hx with z|hx
      .rw[z];exact hq
      .exact hs x hx
    .exact h' t z
  .cases hm
   refine fX h' g ?_ sn;cases z:as.getLast? with
   |none=>show dB 0;decide
   |some x=>exact hs x (Me z)
theorem DJ (FO:gy S F0) {m m':Mc}(h:Gd F0 m) (hm:eJ S.funs m=Fa m'):Gd F0 m':=by
 cases m with
 |done x sc n=>cases hm
 |err c=>cases hm
 |go ts sc n=>
  cases ts with
  |nil=>cases hm
  |cons t ts=>
   obtain⟨e,ps⟩:=t;obtain⟨h,g,sn⟩:=h;have h': ∀t∈ts,Dq F0 t:=λt ht=>h t (Fp _ ht)
   have h0:=h (e,ps) (Fq ..);obtain⟨V,G,w,sb⟩:=h0.ws;unfold eJ at hm;cases e with
   |num x=>cases hm;unfold WS at w;exact fX h' g (by unfold dB BIG;lia) sn
   |name x=>
    obtain⟨v,hv,rfl⟩:=Gj.mp hm;refine fX h' g ?_ sn;unfold look at hv;cases sc with
    |nil=>cases hv
    |cons s r=>
     split at hv
     .rename_i a ha
      cases hv;exact g s (Fq ..) x v ha
     .unfold fM at hv
      rw[RB] at hv;cases z:(s::r).getLast? with
      |none=>rw[z] at hv;cases hv
      |some t=>rw[z] at hv;exact g t (Me z) x v hv
   |call f l=>
    dsimp only at hm;unfold WS at w;split at hm
    .rename_i o ho
     cases hm;exact fz h g #[V,G,mf w.2 (G8 ho),sb] (by lia)
    .split at hm
     .split at hm
      .cases hm;exact fX h' g (pA h0.ps) sn
      .cases hm
     .rename_i fu hf
      obtain⟨⟨p,hp,hl⟩,wl⟩:=w;split at hm
      .cases hm
       rcases FO.all f p (sb f p hp) with⟨g',hg,hn,⟨Kg,Fg,wg,sg,sf⟩,_,_⟩|⟨hg,_⟩
       .rw[hf] at hg
        cases hg;refine fz h (λs hs y x hx=>?_) #[_,Fg,wg,sf] (by rw[FA];lia);rcases Fy.mp hs with z|z
        .rw[z] at hx
         obtain⟨a,ha,rfl⟩:=Gj.mp hx;exact h0.ps _ (K6 (Kz ha)).2
        .exact g s z y x hx
       .rw[hf] at hg;cases hg
      .cases sc with
       |nil=>cases hm
       |cons s0 sc=>
       obtain⟨v,hv,rfl⟩:=Gj.mp hm;exact fX h' (λs hs=>g s (Fp _ hs)) (h0.ps v (G8 hv)) (by rw[FA] at sn;lia)
   |neg e=>
    unfold WS at w;cases ps with
    |nil=>cases hm;exact fz h g #[V,G,w,sb] (by lia)
    |cons b r=>cases hm;exact fX h' g (xl (h0.ps b (Fq ..))) sn
   |not e=>
    unfold WS at w;cases ps with
    |nil=>cases hm;exact fz h g #[V,G,w,sb] (by lia)
    |cons b r=>cases hm;exact fX h' g (gQ _) sn
   |sums e r=>
    unfold WS at w;refine vG h g sn (λo ho=>?_) hm;rcases Fy.mp ho with z|z
    .rw[z];exact#[V,G,w.1,sb]
    .exact#[V,G,qJ w.2.2 z,sb]
   |prods e r=>
    unfold WS at w;refine vG h g sn (λo ho=>?_) hm;rcases Fy.mp ho with z|z
    .rw[z];exact#[V,G,w.1,sb]
    .exact#[V,G,qJ w.2.2 z,sb]
   |cmp op x y=>
    unfold WS at w;refine vG h g sn (λo ho=>?_) hm;rcases Fy.mp ho with z|z
    .rw[z];exact#[V,G,w.2.1,sb]
    .rw[FN.mp z];exact#[V,G,w.2.2,sb]
   |both e l=>
    unfold WS at w;refine Da h g sn (λo ho=>?_) hm;rcases Fy.mp ho with z|z
    .rw[z];exact#[V,G,w.1,sb]
    .exact#[V,G,mf w.2.2 z,sb]
   |either e l=>
    unfold WS at w;refine Da h g sn (λo ho=>?_) hm;rcases Fy.mp ho with z|z
    .rw[z];exact#[V,G,w.1,sb]
    .exact#[V,G,mf w.2.2 z,sb]
   |pick c x y=>
    unfold WS at w;dsimp only at hm;split at hm
    .cases hm;exact fz h g #[V,G,w.1,sb] (by lia)
    .rename_i p
     cases hm;refine fz h g ?_ (by lia);split
     .exact#[V,G,w.2.1,sb]
     .exact#[V,G,w.2.2,sb]
    .rename_i v
     cases hm;exact fX h' g (h0.ps _ (Fp _ (Fq ..))) sn
    .cases hm
   |sum y lo hi b=>
    unfold WS at w;dsimp only at hm;split at hm
    .cases hm;exact fz h g #[V,G,w.2.1,sb] (by lia)
    .cases hm;exact fz h g #[V,G,w.2.2.1,sb] (by lia)
    .exact Ef h g sn #[y::V,G,w.2.2.2,sb] hm
end OS
namespace OS
open PySem PySem.Spec L2
open PyProof.Rows hiding St
variable {P:Ga}{w:GN}{K:Fe}{mg:FR->Ft Fh}{base:GY}{a:bf}
abbrev IsZ (h:GY) (z TI TO T:Fi) (b:Gu):Prop:=
 h.get? z=Fa { cls:= .type "zip",dict:=FB,data:= .fields [N9 T, .bool b, .bool FS, .ref TI, .ref TO].toArray,slots:= [].toArray }
section
variable {prog:Ga}{A:GV}{E:Fh->Fn->Prop}{s:Fn}{z TI TO T i1 i2 l1 l2:Fi}{b:Gu}{k1 k2:FC}{xs ys:Jw Fh}{x y:Fh}{oT:IW}
theorem Ai {a:Fi}{Q:Ft IW->Fn->Prop}(h:Q (s.heap.get? a) s):FV (model prog w) A (loadIfAlive a) Q E s:=λΓ p _=>by
 unfold loadIfAlive;rw[PySem.Sem.wp_loadIfAlive];exact h
theorem C7 {Q:Gu->Fn->Prop}(hz:IsZ s.heap z TI TO T b) (hT:s.heap.get? T=Fa oT) (hQ: ∀h',IsZ h' z TI TO T FM->MK z s.heap h'->Q FS { s with heap:=h' }):FV (model prog w) A (M7 (.ref z)) Q E s:=by
 unfold M7;refine FD (wpAny_field hz Gc (x:=N9 T) Gc ?_);refine FD (Ai ?_);rw[show((T:Int)).toNat=T from Gc,hT];refine FD (wpAny_field hz Gc (x:= .bool b) Gc ?_);cases b with
 |true=>exact FD (F7 (F7 (hQ _ hz #[Gc,λ_ _=>rfl])))
 |false=>exact FD (wpAny_setField_rec hz (by simp) λh' hz' hs=>F7 (hQ h' hz' hs))
theorem AC (hh:A.handled=FB) (D:WW z TI TO i1 i2 l1 l2) (hz:IsZ s.heap z TI TO T b) (hT:s.heap.get? T=Fa oT) (Ub:RI s.heap TI (.ref i1) (.ref i2))
  (h1:s.heap.IsListIter i1 l1 k1) (h2:s.heap.IsListIter i2 l2 k1) (UP:s.heap.IsList l1 xs) (Tt:s.heap.IsList l2 ys) {Q:Ft Fh->Fn->Prop}
  (hE:xs[k1]?=FB-> ∀h',(∀c o,c≠z->c≠i1->s.heap.get? c=Fa o->h'.get? c=Fa o)->Q FB { s with heap:=h' })
  (hQ: ∀x,xs[k1]?=Fa x-> ∃y,ys[k1]?=Fa y/\ ∀h',IsZ h' z TI TO T FM->h'.IsListIter i1 l1 (k1+1)->h'.IsListIter i2 l2 (k1+1)->RI h' s.heap.objs.size x y->h'.objs.size=s.heap.objs.size+1->
   (∀c o,c≠z->c≠i1->c≠i2->s.heap.get? c=Fa o->h'.get? c=Fa o)->Q (Fa (.ref s.heap.objs.size)) { s with heap:=h' }):
  FV (model prog w) A (RH (.ref z)) Q E s:=by
 have hTy:s.TypeIs (.ref z) "zip":=#[_,hz,Gc];unfold RH;refine FD (wpAny_attempt (wpAny_callSpecial?_slot (name:=FR.ofString "__next__") hTy F.slot_zip_next (wpAny_call_entry F.slot_zip_next hTy F.entry_zip_next ?_ (F.args_zip_next_1 _))))
 show FV _ _ (field (.ref z) 2>>=_) _ _ _
 refine FD (wpAny_field hz Gc (x:= .bool FS) Gc ?_);show FV _ _ (field (.ref z) 3>>=_) _ _ _;refine FD (wpAny_field hz Gc (x:= .ref TI) Gc ?_);refine FD (wpAny_seqItems Ub Gc ?_);refine FD (C7 hz hT λh₁ hz₁ Xw=>?_);refine FD ?_;simp only[<-Jw.forIn_toList,WQ,Rn];refine FD (FD (N8 ?_));show FV _ _ (OB (.ref i1)>>=_) _ _ _;cases hx:xs[k1]? with
 |none=>
  refine FD (wpAny_nextOf_list_end hh (h1.extBut Xw.extBut D.i1z) (UP.extBut Xw.extBut D.l1z) hx λh₂ e hs₂ he=>?_);obtain⟨o,ho,hc⟩:=he;exact FD (wpAny_isInstance (T:="StopIteration") (b:=FM) #[o,ho,hc] isSubtype_stop (F7 (hE hx _ λc o n1 n2 e=>hs₂ _ _ n2 (Xw.extBut _ _ n1 e))))
 |some x=>
  obtain⟨y,hy,hQ⟩:=hQ x hx;refine FD (VE (h1.extBut Xw.extBut D.i1z) (UP.extBut Xw.extBut D.l1z) hx λh₂ h1₂ hs₂=>F7 (F7 (FD (FD (N8 ?_)))));show FV _ _ (OB (.ref i2)>>=_) _ _ _;refine FD (VE ((h2.extBut Xw.extBut D.i2z).extBut hs₂.extBut D.i12.symm) ((Tt.extBut Xw.extBut D.l2z).extBut hs₂.extBut D.l2i1) hy λh₃ h2₃ hs₃=>F7 (F7 (F7 (FD (wpAny_newTuple (hsz:=by show 2<=F8;decide) (F7 #[_,Gc,F7 ?_]))))));have hsz:h₃.objs.size=s.heap.objs.size:=by rw[hs₃.1,hs₂.1,Xw.1]
  have up: ∀ {c:Fi}{o:IW}{q:IW},h₃.get? c=Fa o->(h₃.push q).get? c=Fa o:=λe=>Fz _ e
  rw[hsz];exact hQ _ (up (hs₃.extBut _ _ D.i2z.symm (hs₂.extBut _ _ D.i1z.symm hz₁))) ((h1₂.extBut hs₃.extBut D.i12).at λo e=>up e) (h2₃.at λo e=>up e) (by show GY.get? _ _=_;rw[<-hsz];exact G6 _ Gc) (by rw[HQ,hsz]) λc o n1 n2 n3 e=>up (hs₃.extBut _ _ n3 (hs₂.extBut _ _ n2 (Xw.extBut _ _ n1 e)))
theorem pb:HR (.type "zip") "keys"=pure FB:=am_miss_of_fast [00]
theorem li:HR (.type "zip") "__getattr__"=pure FB:=am_miss_of_fast [00]
theorem rH:entryFor table "zip.__getattribute__"=Fa Builtin.«object.__getattribute__»:=
 entryFor_alias (id':="object.__getattribute__") (by kernel_rfl) [00] [00] (by kernel_rfl)
theorem abi (a:Fi) (vs:Jw Fh) (u:Tok):
  Meets (Builtin.«object.__getattribute__» #[[.ref a, .str "keys" u],[]]) (λA R s=>s.heap.get? a=Fa { cls:= .type "zip",dict:=FB,data:= .fields vs,slots:= [].toArray } /\raisesAttr (.ref a) "keys" A R s):=
 Meets.of_wp λprog w A R s hs=>by
  obtain⟨hp,g,d,tk,os⟩:=s;obtain⟨hx,hs⟩:=hs;have hT:(⟨hp,g,d,tk,os⟩:Fn).TypeIs (.ref a) "zip":=#[_,hx,Gc];have amE:=pb;unfold Builtin.«object.__getattribute__»
  repeat (any_goals (first|assumption|wp_step))
  exact wpAny_raiseAttrError hs.1 hs.2 (attrMsg_fits [00] [00])
theorem Aj {a:Fi}{vs:Jw Fh}{Q:Ft Fh->Fn->Prop}(hx:s.heap.get? a=Fa { cls:= .type "zip",dict:=FB,data:= .fields vs,slots:= [].toArray }) (hA:A.handled=FB)
  (h: ∀h' tk,(∀b ob,s.heap.get? b=Fa ob->h'.get? b=Fa ob)->Q FB { s with heap:=h',toks:=tk }):FV (model prog w) A (getAttr? (.ref a) "keys") Q E s:=by
 obtain⟨hp,g,d,tk,os⟩:=s;have hT: ∀T8,(⟨hp,g,d,T8,os⟩:Fn).TypeIs (.ref a) "zip":=λ_=>#[_,hx,Gc]
 have f1:=sub_AttributeError
 have f3:=LN.lookup
 have f4:=LN.bind (.ref a)
 have f5:=li;unfold getAttr? getAttrBy? getAttrBy
 repeat (any_goals (first|assumption|exact hT _|((with_reducible show FV _ _ (call (L0 "zip.__getattribute__") _ _) _ _ _);refine call_meets LN (hT _) rH (PySem.F.args_zip_getattribute_2 _ _) (abi a vs _) #[hx,hA,λh' T8 e hx'=>?_])|wp_step))
 obtain⟨t',u',he⟩:=hx'.there;show FV _ _ (Y6 _ _ _ _ _ _ _) _ _ _;unfold Y6
 repeat (any_goals (first|assumption|wp_step))
 all_goals first|exact h _ _ hx'.keeps|(dsimp only;repeat (any_goals (first|assumption|exact h _ _ hx'.keeps|wp_step)))
end
section
variable {prog:Ga}{A:GV}{E:Fh->Fn->Prop}{s:Fn}{z TI TO T i1 i2 l1 l2:Fi}{b:Gu}{k1 k2:FC}{xs ys:Jw Fh}{x y:Fh}{oT:IW}
def ZS (S z TI TO i1 i2:Fi) (h:GY):Prop:=(IsZip h z TI TO .none/\ ∃x y,RI h TO x y)\/ ∃T oT b,IsZ h z TI TO T b/\h.get? T=Fa oT/\T≠S/\T≠z/\T≠i1/\T≠i2
abbrev Fr (s:GY) (l:E9 Fi) (h':GY):Prop:= ∀c o,c∉l->s.get? c=Fa o->h'.get? c=Fa o
theorem w8 (hh:A.handled=FB) (D:WW z TI TO i1 i2 l1 l2) (hz:ZS S z TI TO i1 i2 s.heap) (Ub:RI s.heap TI (.ref i1) (.ref i2)) (hS:S<s.heap.objs.size)
  (h1:s.heap.IsListIter i1 l1 k1) (h2:s.heap.IsListIter i2 l2 k1) (UP:s.heap.IsList l1 xs) (Tt:s.heap.IsList l2 ys) {Q:Ft Fh->Fn->Prop}
  (hE:xs[k1]?=FB-> ∀h',Fr s.heap [z,TO,i1,i2] h'->Q FB { s with heap:=h' })
  (hQ: ∀x,xs[k1]?=Fa x-> ∃y,ys[k1]?=Fa y/\ ∀h',ZS S z TI TO i1 i2 h'->h'.IsListIter i1 l1 (k1+1)->h'.IsListIter i2 l2 (k1+1)->RI h' s.heap.objs.size x y->Fr s.heap [z,TO,i1,i2] h'->Q (Fa (.ref s.heap.objs.size)) { s with heap:=h' }):
  FV (model prog w) A (RH (.ref z)) Q E s:=by
 have lt: ∀ {c:Fi}{o:IW},s.heap.get? c=Fa o->s.heap.objs.size≠c:=λe=>Ly (FX e)
 have fr: ∀ {h':GY},(∀c o,c≠z->c≠TO->c≠i1->c≠i2->s.heap.get? c=Fa o->h'.get? c=Fa o)->Fr s.heap [z,TO,i1,i2] h':=λk c o n e=>by
  simp only[Fy,HF,or_false,VV] at n;exact k c o n.1 n.2.1 n.2.2.1 n.2.2.2 e
 have j1:s.heap.objs.size≠i1:=by obtain⟨_,e,_⟩:=h1;exact lt e
 have j2:s.heap.objs.size≠i2:=by obtain⟨_,e,_⟩:=h2;exact lt e
 rcases hz with⟨hz,x0,y0,hTO⟩|⟨T,oT,b,hz,hT,n1,n2,n3,n4⟩
 .cases hx:xs[k1]? with
  |none=>exact wpAny_pyNext_zip_end hh D hz Ub hTO h1 h2 UP Tt (.inl hx) λh' k=>hE hx h' (fr k)
  |some x=>
   obtain⟨y,hy,hQ⟩:=hQ x hx;exact wpAny_pyNext_zip_item D hz Ub hTO h1 h2 UP Tt hx hy λh' a1 a2 a3 a4 a5 a6 k=>hQ h' (.inr #[_,_,FS,a1,a5,Ly hS,lt hz,j1,j2]) a3 a4 a5 (fr k)
 .refine AC hh D hz hT Ub h1 h2 UP Tt (λe h' k=>hE e h' (fr λc o m1 _ m3 _=>k c o m1 m3)) λx hx=>?_
  obtain⟨y,hy,hQ⟩:=hQ x hx;exact#[y,hy,λh' a1 a3 a4 a5 a6 k=>hQ h' (.inr #[T,oT,FM,a1,k _ _ n2 n3 n4 hT,n1,n2,n3,n4]) a3 a4 a5 (fr λc o m1 _ m3 m4=>k c o m1 m3 m4)]
theorem Cb {R:Result->Fn->Prop}(hh:A.handled=FB) (D:WW z TI TO i1 i2 l1 l2) (nS:S∉[z,TO,i1,i2,TI,l1,l2]):
  ∀(rest:E9 (a8×Fh)) (k:FC) (acc:E9 (a8×Fh)) (ix:Int) (t:Tok) (s:Fn),xs.size=k+rest.length->acc.length+rest.length<=F8->
   (∀(j:FC) (q:a8×Fh),rest[j]?=Fa q-> ∃u,xs[k+j]?=Fa u/\ys[k+j]?=Fa q.2/\jk q.1 u=FM)->
   ZS S z TI TO i1 i2 s.heap->RI s.heap TI (.ref i1) (.ref i2)->s.heap.IsListIter i1 l1 k->s.heap.IsListIter i2 l2 k->s.heap.IsList l1 xs->s.heap.IsList l2 ys->s.heap.DictOf (aU prog w) S acc->
   (∀h' tk,h'.DictOf (aU prog w) S (merged acc rest)->Fr s.heap [S,z,TO,i1,i2] h'->R (.ok (.ret res)) { s with heap:=h',toks:=tk })->
   Lq (model prog w) A (.builtin "dict.update.loop" #[[.ref S, .ref z, .int ix t,res],[]]) R s:=by
 simp only[Fy,HF,or_false,VV] at nS;obtain⟨Sz,STO,Si1,Si2,STI,Sl1,Sl2⟩:=nS;intro rest
 induction rest with
 |nil=>
  intro k acc ix t s hsz hln ht hz Ub h1 h2 UP Tt hm hR;refine codeAny_builtin um ?_;rw[Ta iT _];show FV _ A.in1 (RH (.ref z)>>=_) _ _ s;refine FD (w8 (A:=A.in1) hh D hz Ub (by obtain⟨_,_,_,e,_⟩:=hm;exact FX e) h1 h2 UP Tt (λ_ h' f=>?_) λx hx=>?_)
  .show FV _ A.in1 (Builtin.Dict.addKeywords S []>>=_) _ _ _
   refine FD (F7 (F7 ?_));exact hR h' s.toks (hm.at λo e=>f _ o (by simp [Sz,STO,Si1,Si2]) e) λc o n e=>f c o (λz=>n (Fp _ z)) e
  .rw[Jw.getElem?_eq_none (show xs.size<=k from JM hsz)] at hx
   cases hx
 |cons q rest ih=>
  intro k acc ix t s hsz hln ht hz Ub h1 h2 UP Tt hm hR;obtain⟨u,hb,hb2,hk⟩:=ht 0 q Gc;rw[FA] at hsz hln;have hS:S<s.heap.objs.size:=by obtain⟨_,_,_,e,_⟩:=hm;exact FX e
  refine codeAny_builtin um ?_;rw[Ta iT _];show FV _ A.in1 (RH (.ref z)>>=_) _ _ s;refine FD (w8 (A:=A.in1) hh D hz Ub hS h1 h2 UP Tt (λe=>?_) λx hx=>#[_,hb2,λh' z' i1' i2' pr f=>?_])
  .rw[show xs[k]?=Fa u from hb] at e;cases e
  cases (show xs[k]?=Fa u from hb).symm.trans hx;have gs: ∀ {c:Fi}{o:IW},c∉[z,TO,i1,i2]->s.heap.get? c=Fa o->h'.get? c=Fa o:=λn e=>f _ _ n e
  have hm1:h'.DictOf (aU prog w) S acc:=hm.at λo e=>gs (by simp [Sz,STO,Si1,Si2]) e
  show FV _ A.in1 (holding [FZ s.heap.objs.size] _>>=_) _ _ _
  refine FD (N8 ?_);refine FD (wpAny_tryCatch ?_);unfold Builtin.Dict.pairItems;refine FD (VJ (T:="tuple") #[_,pr,Gc] ?_);rw[Fm (by first|decide|rfl|simp)]
  refine FD (wpAny_seqItems pr Gc (F7 ?_));show FV _ A.in1 (holding [u,q.2] (dictSet S u q.2)) _ _ _;refine N8 (wpAny_dictSet_pairs (knd:=aU prog w) (k:=q.1) hk hm1 (λh2' hm2 UA=>?_) (by lia));have up: ∀ {c:Fi}{o:IW},c≠S->h'.get? c=Fa o->h2'.get? c=Fa o:=λn e=>UA.extBut _ _ n e
  refine F7 #[plainId_quiet iT _,ih (k+1) (stored acc q.1 q.2) (ix+1) 0 _ (show xs.size=k+1+rest.length by lia) ?_ (λj q' e=>?_) ?_ ?_ ?_ ?_ ?_ ?_ hm2 λh3 tk Xr k3=>?_]
  .have z:=stored_length_le acc q.1 q.2
   lia
  .rw[show k+1+j=k+(j+1) by lia]
   exact ht (j+1) q' e
  .rcases z' with⟨a1,x0,y0,a2⟩|⟨T,oT,b,a1,a2,n1,n2,n3,n4⟩
   .exact .inl #[up (IG Sz) a1,x0,y0,up (IG STO) a2]
   .exact .inr #[T,oT,b,up (IG Sz) a1,up n1 a2,n1,n2,n3,n4]
  .exact up (IG STI) (gs (by simp [D.TIz,D.TITO,D.TIi1,D.TIi2]) Ub)
  .exact i1'.at λo e=>up (IG Si1) e
  .exact i2'.at λo e=>up (IG Si2) e
  .exact UP.at λo e=>up (IG Sl1) (gs (by simp [D.l1z,D.l1TO,D.l1i1,D.l1i2]) e)
  .exact Tt.at λo e=>up (IG Sl2) (gs (by simp [D.l2z,D.l2TO,D.l2i1,D.l2i2]) e)
  .exact hR h3 tk Xr λc o n e=>k3 c o n (up (λz=>n (by rw[z];exact Fq)) (gs (λz=>n (Fp _ z)) e))
theorem px {Q:Fh->Fn->Prop}(hh:A.handled=FB) (D:WW z TI TO i1 i2 l1 l2) (hz:IsZip s.heap z TI TO .none) (hTO:RI s.heap TO x y) (Ub:RI s.heap TI (.ref i1) (.ref i2))
  (h1:s.heap.IsListIter i1 l1 0) (h2:s.heap.IsListIter i2 l2 0) (UP:s.heap.IsList l1 xs) (Tt:s.heap.IsList l2 ys) (hsz:xs.size=oV.length) (hln:oV.length<=F8)
  (ht: ∀(j:FC) (q:a8×Fh),oV[j]?=Fa q-> ∃u,xs[j]?=Fa u/\ys[j]?=Fa q.2/\jk q.1 u=FM)
  (h: ∀h' tk,h'.DictOf (aU prog w) s.heap.objs.size (merged [] oV)->Fr s.heap [z,TO,i1,i2] h'->Q (.ref s.heap.objs.size) { s with heap:=h',toks:=tk }):
  FV (model prog w) A (call (.type "dict") [.ref z]) Q E s:=by
 refine callType_codes (Q₁:=λobj s₁=>obj= .ref s.heap.objs.size/\s₁= { s with heap:=s.heap.push { cls:= .type "dict",data:= .dict [].toArray } }) PySem.F.kt_called_dict (PySem.F.kt_typeCall_dict_1 _) PySem.F.entry_dict_init (kt_code_dict_new _ #[Gc,Gc]) ?_;rintro obj s₁ ⟨rfl,rfl⟩;have abj:(s.heap.push { cls:= .type "dict",data:= .dict [].toArray }).DictOf (aU prog w) s.heap.objs.size []:=Tr s.heap;have k0: ∀ {b:Fi}{o:IW},s.heap.get? b=Fa o->(s.heap.push { cls:= .type "dict",data:= .dict [].toArray }).get? b=Fa o:=λe=>Fz _ e
 refine#[abj.typeIs,PySem.F.args_dict_init_2 _ _,?_];unfold Builtin.«dict.__init__»;refine FD ?_;unfold Builtin.Dict.selfAndRest;refine FD (wpAny_notOrdered_dict abj.typeIs ?_);show FV _ _ (pure (s.heap.objs.size,[FZ z])) _ _ _;refine F7 ?_;show FV _ _ (Qw "dict.__init__" s.heap.objs.size (.ref z) [] .none) _ _ _;unfold Qw;refine FD (VJ (T:="zip") #[_,k0 hz,Gc] ?_);rw[Fm (by first|decide|rfl|simp)]
 refine FD (Aj (k0 hz) hh λh1' tk1 hk1=>?_);rw[Fm (show(FB:Ft Fh).isNone=FM from Gc)];refine FD (wpAny_rule ?_);have up: ∀ {b:Fi}{o:IW},s.heap.get? b=Fa o->h1'.get? b=Fa o:=λe=>hk1 _ _ (k0 e)
 refine FD (wpAny_pyIter_zip (up hz) ?_);have ne: ∀ {b:Fi}{o:IW},s.heap.get? b=Fa o->s.heap.objs.size≠b:=λe=>Ly (FX e)
 have key:=Cb (prog:=prog) (w:=w) (A:=A.in1) (R:=wants (λr s₂=>r= .none/\Q (.ref s.heap.objs.size) s₂) E) (S:=s.heap.objs.size) (res:=HY) (xs:=xs) (ys:=ys) hh D
  (by
   obtain⟨_,e1,_⟩:=h1;obtain⟨_,e2,_⟩:=h2;obtain⟨_,e3,_⟩:=UP;obtain⟨_,e4,_⟩:=Tt;simp only[Fy,HF,or_false,VV];exact#[ne hz,ne hTO,ne e1,ne e2,ne Ub,ne e3,ne e4]) oV 0 [] 0 0 { s with heap:=h1',toks:=tk1 } (by rw[hsz,KH]) (by rw[Kh,KH];exact hln)
  (λj q e=>by rw[KH];exact ht j q e) (.inl #[up hz,_,_,up hTO]) (up Ub) (h1.at λo e=>up e) (h2.at λo e=>up e) (UP.at λo e=>up e) (Tt.at λo e=>up e) (abj.at λo e=>hk1 _ _ e)
  (λh' tk Xr k=>#[Gc,h h' tk Xr λb o n e=>k b o (λz=>(Fy.mp z).elim (λz=>ne e z.symm) n) (up e)])
 first
  |exact F7 #[plainId_quiet iT _,key]
  |exact FD (F7 (F7 #[plainId_quiet iT _,key]))
end
section
variable {X:Cx}
theorem Au {P:Ga}{w:GN} : ∀ {aD:E9 (a8×V)}{HD T7:E9 Fh},aX (aD.map λq=>kV q.1) HD->aX (aD.map (·.2)) T7-> ∃oV:E9 (a8×Fh),KV aD oV/\ ∀(j:FC) (q:a8×Fh),oV[j]?=Fa q-> ∃u,HD[j]?=Fa u/\T7[j]?=Fa q.2/\jk q.1 u=FM
 |[],_,_,h1,h2=>by cases h1;cases h2;exact#[[], .nil,λj q e=>by simp at e]
 |kv::aD,_,_, .cons (b:=u) a1 r1, .cons (b:=y) a2 r2=>by
  obtain⟨oV,r,hp⟩:=Au (P:=P) (w:=w) r1 r2;refine#[(kv.1,y)::oV, .cons #[Gc,a2] r,λj q e=>?_];cases j with
  |zero=>cases e;exact#[u,Gc,Gc,ow (P:=P) (w:=w) a1]
  |succ j=>exact hp j q e
theorem uw {e e2:HH}{ta:TA}{p p' pos NG:Pos}(hc:X.calm=FM) (hg:Gl X "zip") (hm:X.mg "zip"=FB) (hg':Gl X "dict") (P5:X.mg "dict"=FB) (ha:PA X [e,e2] ta)
  (hs:FK [e,e2] X.env=[001]::FK [e2] X.env) (MT:(IV pos (FK [e2] X.env)).any (·.1)=FS):
  PE X (.Call (.Name "dict" p') [.Call (.Name "zip" p) [e,e2] [] pos] [] NG) (λσ H Q=>ta σ H λvs H1=> ∃(a b:Fi) (aD:E9 (a8×V)),vs=[.ref a, .ref b]/\cB X.K H1 a (aD.map λq=>kV q.1)/\cB X.K H1 b (aD.map (·.2))/\ ∀d,H1 d=FB->Q (.ref d) (aF H1 d (.dK (fT [] aD)))):=by
 rw[01];refine Call_ (lD I hg' P5 (show K4 "dict"=Fa (.type "dict") by decide+kernel) (JY ?_ Gc Gc));show FV _ _ (spliced [(FS,_)]) _ _ s;refine K5 (Call_ (lD I hg hm zk (JY (b8 (ha pos pins s σ H _ I h) λus s1 ⟨vs,H1,I1,r1,q1⟩=>?_) hs MT)));obtain⟨a,b,aD,ex,hqx,hqy,q⟩:=q1;subst ex;cases r1 with
 |cons r rr=>
  cases rr with
  |cons r' rr=>
   cases rr;cases r;cases r';obtain⟨HD,rv,p1,hz⟩:=I1.list hqx;obtain⟨T7,rv2,p2,_⟩:=I1.list hqy;have hi:HD.length=aD.length:=by rw[<-rv.length,Fx]
   refine call_zip_2 p1.isList p2.isList λh' hz' Ub hTO h1 h2 hsz hk=>Ll ?_;obtain⟨oV,rel,hp⟩: ∃oV:E9 (a8×Fh),KV aD oV/\ ∀(j:FC) (q:a8×Fh),oV[j]?=Fa q-> ∃u,HD[j]?=Fa u/\T7[j]?=Fa q.2/\jk q.1 u=FM:=Au (P:=X.prog) (w:=X.w) rv rv2;have pl:oV.length=aD.length:=rel.length.symm;refine px (oV:=oV) (I1.ok.hd hc) (PySem.W.ktu_apart s1.heap.objs.size a b p1.lt p2.lt) hz' hTO Ub h1 h2 (p1.isList.at λo e=>hk _ _ e) (p2.isList.at λo e=>hk _ _ e) (by simp [hi,pl]) (by rw[pl,<-hi,<-rv.length];exact hz) (λj q' e=>by simpa using hp j q' e) λh2' tk Xr k=>?_;have le:s1.heap.objs.size<=h'.objs.size:=by rw[hsz];exact JZ _ _
   have hm:(h'.objs.size == IC)=FS:=beq_eq_false_iff_ne.mpr (Ly (F5 I1.big le))
   have NF:(fT [] aD).length<=F8:=by
    refine FP (gu aD []) ?_;rw[Kh,KH,<-hi,<-rv.length];exact hz
   refine#[.ref h'.objs.size,aF H1 h'.objs.size (.dK (fT [] aD)),I1.laid (t':=tk) (λc o e=>k c o (λz=>?_) (hk c o e)) le (show cx X.prog X.w _ _ _ (.dK (fT [] aD)) from#[NF,hm,merged [] oV,KV.merge rel .nil,Xr]),Gc,q _ (I1.Iu.fresh le)];have:=FX e;simp only[Fy,HF,or_false] at z;lia
end
def Rfs (C:Fi) (E:XK) (H:Hp) (c:Int):Prop:= ∀d,H d=FB->E (.ref C) (Fa d) (aF H d (ci d (EJ c)))
def xcl (a:bf):E9 (Int×Fi):=[(-11,a.JB),(-12,a.KZ),(-13,a.Ku),(-14,a.Kv),(-15,a.JC),(-16,a.LF)]
def o8 (a:bf) (E:XK) (H:Hp) (c:Int):Prop:= ∀C,(c,C)∈xcl a->Rfs C E H c
def gC (c:Int):E9 V->E9 (FR×V)->Prop:=λus fs=>us=[]/\fs=EJ c
theorem okI {x He:FR}{st:Stmt}{f C:Fi}{fd:Gs}{c:Int}(F:oX K x He st f fd) (S:az ["self"] ["self"] (af st))
  (h: ∀(GU:Fh) (A:GV) (outer:E9 Env) (s:Fn) (H:Hp) (p:Fi) (Q:VK),bZ 1 (A.deeper (JJ He (af st) s.heap.objs.size f GU))->dQ C ahz [.ref p, .int c] H Q E0->Bd (e8 wX P w K mg base ["self"] He (af st) f GU A outer s H E0).nox (be st) { nx:=λ_ H'=>Q .IJ H',rt:=Q } [Fa (.ref p)] H):
  bU P w K mg base wX 2 f fd ["self"] (dQ C (gC c)):=by
 refine F.ok S (λvs H Q E h=>?_) (λGU A outer s H vs Q E hr z=>?_)
 .obtain⟨p,us,fs,rfl,⟨rfl,rfl⟩,_⟩:=h
  rfl
 .obtain⟨p,us,fs,rfl,⟨rfl,rfl⟩,hp,q⟩:=z
  exact h GU A outer s H p Q hr #[p,_,_,Gc,#[c,Gc,Gc],hp,q]
theorem ii (T:aW K mg a) (XC:XW K a):T.d_O.U P w mg base 2 (dQ a.JB (gC (-11))):=
 okI T.d_O.F alc λGU A outer s H p Q hr q=>#[_,aj (bj (fi (by rfl) T.HU XC.rm (bP T XC.Ma) hr T.WE.c.b .nil aQ (aa (pv 0) (aa (dL cK ak) ag)))),_,Gc,q]
theorem lw (T:aW K mg a) (XC:XW K a):T.d_P.U P w mg base 2 (dQ a.KZ (gC (-12))):=
 okI T.d_P.F ald λGU A outer s H p Q hr q=>#[_,aj (bj (fi (by rfl) T.HU XC.rm (bP T XC.OY) hr T.WE.c.b .nil aQ (aa (pv 0) (aa (dL cK ak) ag)))),_,Gc,q]
theorem ju (T:aW K mg a) (XC:XW K a):T.ZC.U P w mg base 2 (dQ a.Ku (gC (-13))):=
 okI T.ZC.F agm λGU A outer s H p Q hr q=>#[_,aj (bj (fi (by rfl) T.HU XC.rm (bP T XC.NS) hr T.WE.c.b .nil aQ (aa (pv 0) (aa (dL cK ak) ag)))),_,Gc,q]
theorem jC (T:aW K mg a) (XC:XW K a):T.ZD.U P w mg base 2 (dQ a.Kv (gC (-14))):=
 okI T.ZD.F agn λGU A outer s H p Q hr q=>#[_,aj (bj (fi (by rfl) T.HU XC.rm (bP T XC.NT) hr T.WE.c.b .nil aQ (aa (pv 0) (aa (dL cK ak) ag)))),_,Gc,q]
theorem ik (T:aW K mg a) (XC:XW K a):T.ZE.U P w mg base 2 (dQ a.JC (gC (-15))):=
 okI T.ZE.F ago λGU A outer s H p Q hr q=>#[_,aj (bj (fi (by rfl) T.HU XC.rm (bP T XC.Mb) hr T.WE.c.b .nil aQ (aa (pv 0) (aa (dL cK ak) ag)))),_,Gc,q]
theorem lj (T:aW K mg a) (XC:XW K a):T.ZF.U P w mg base 2 (dQ a.LF (gC (-16))):=
 okI T.ZF.F agp λGU A outer s H p Q hr q=>#[_,aj (bj (fi (by rfl) T.HU XC.rm (bP T XC.OZ) hr T.WE.c.b .nil aQ (aa (pv 0) (aa (dL cK ak) ag)))),_,Gc,q]
def wkF (t:Int) (fa sl tl:Fi) (r:V):E9 (FR×V):=[("taken", .int t),("functions", .ref fa),("scopes", .ref sl),("tasks", .ref tl),("result",r)]
def xz (v:V) (p:Fi):E9 (FR×V):=[("exp",v),("parts", .ref p)]
structure pL where
 wk:Fi
 dw:Fi
 fa:Fi
 sl:Fi
 tl:Fi
 z:FC
structure ug where
 M:Fi->Prop
 H:Hp
structure oW where
 t:Fi
 p:Fi
 d:Fi
 v:V
 ps:E9 Int
abbrev rL:=Fi×E9 (a8×V)
def tkC (a:bf):E9 oW->E9 kR
 |[]=>[]
 |u::us=>(u.t, .ins a.My u.d (xz u.v u.p))::(u.p, .lst (u.ps.map V.int))::tkC a us
def scC (ds:E9 rL):E9 kR:=ds.map λd=>(d.1, .dK d.2)
abbrev wkL (a:bf) (c:pL) (n:FC) (r:V) (ff:E9 (a8×V)) (ds:E9 rL) (us:E9 oW):E9 kR:=
 (c.wk, .ins a.HC c.dw (wkF (10000-(n:Int)) c.fa c.sl c.tl r))::(c.tl, .lst (us.map λu=>V.ref u.t).reverse)::(c.sl, .lst (ds.map λd=>V.ref d.1).reverse)::(c.fa, .dK ff)::(tkC a us++scC ds)
def DE (a:bf) (B:ug) (F:JH) (ff:E9 (a8×V)):Prop:=ff.length<=F.length/\ ∀f,(match F.find? λg=>g.1 == f with
  |some g=> ∃v,bO ff (nk f)=Fa v/\fj a B.M B.H (.func g.1 g.2.1 g.2.2) v
  |none=>bO ff (nk f)=FB)
def abk (b:FC) (d:rL) (s:fm):Prop:=(∀u,bO d.2 (nk u)=(s u).map V.int)/\d.2.length<=b
def alV (a:bf) (B:ug) (u:oW) (t:dP):Prop:=au a B.M B.H t.1 u.v/\u.ps=t.2
structure Bn (z b:FC) (ts:E9 dP) (sc:E9 fm) (n:FC):Prop where
 VB:n<=10000
 tl: ∀i t,ts[i]?=Fa t->t.2.length+i+n<=10000
 sl:sc.length+n<=10002
 b6:6<=b
 bn:b+5*n<=z
 zl:z<=60000
structure eW (a:bf) (B:ug) (H:Hp) (c:pL) (F:JH) (r:V) (b:FC) (ff:E9 (a8×V)) (ds:E9 rL) (us:E9 oW) (ts:E9 dP) (sc:E9 fm) (n:FC):Prop where
 O:Ow B.H (wkL a c n r ff ds us) H
 fn:DE a B F ff
 sq:Paired (abk b) ds sc
 tk:Paired (alV a B) us ts
 bn:Bn c.z b ts sc n
inductive Wk (a:bf) (B:ug) (H:Hp) (c:pL) (F:JH) (r:V) (b:FC) (ts:E9 dP) (sc:E9 fm) (n:FC):Prop
 |mk {ff:E9 (a8×V)}{ds:E9 rL}{us:E9 oW}(_:eW a B H c F r b ff ds us ts sc n):Wk a B H c F r b ts sc n
def oE (a:bf) (B:ug) (c:pL) (F:JH) (N:Hp->Prop) (E:XK):Mc->Prop
 | .err k=> ∀H',aS B.H H'->o8 a E H' k
 | .go ts sc n=> ∀H' r b,Wk a B H' c F r b ts sc n->N H'
 | .done x sc n=> ∀H' b,Wk a B H' c F (.int x) b [] sc n->N H'
theorem Bn.mono {z b m n:FC}{ts:E9 dP}{sc:E9 fm}(h:Bn z b ts sc n) (hm:m<=n):Bn z b ts sc m:=#[by have:=h.VB;lia,λi t e=>by have:=h.tl i t e;lia,by have:=h.sl;lia,h.b6,by have:=h.bn;lia,h.zl]
theorem Bn.len {z b n:FC}{ts:E9 dP}{sc:E9 fm}(h:Bn z b ts sc n):ts.length+n<=10001:=by
 cases e:ts[ts.length-1]? with
 |none=>have:=E9.getElem?_eq_none_iff.mp e;have:=h.VB;lia
 |some t=>have:=h.tl _ t e;lia
theorem bF.fld {M:Fi->Prop}{B H:Hp}{K:Fe}{Q:VK}(i:bF M B C fs v) (s:aS B H) (cl:gM K C) (no:ao K C f) (hl:fs.lookup f=Fa u) (q:Q u H):dC K f Q v H:=by
 obtain⟨p,dx,rfl,_,h⟩:=i;exact#[p,C,dx,_,u,Gc,s _ _ h,cl,no,hl,q]
section
variable {H H':Hp}{Q:VK}
theorem eW.fld (W:eW a B H c F r b ff ds us ts sc n) (T:aW K mg a) (no:ao K a.HC f) (hl:(wkF (10000-(n:Int)) c.fa c.sl c.tl r).lookup f=Fa u) (q:Q u H):dC K f Q (.ref c.wk) H:=#[c.wk,_,c.dw,_,u,Gc,W.O.get 0 Gc,T.Ih,no,hl,q]
theorem eW.own (W:eW a B H c F r b ff ds us ts sc n) (hm:m<=n) (h:H' c.wk=Fa (.ins a.HC c.dw (wkF (10000-(m:Int)) c.fa c.sl c.tl r'))) (k: ∀b u,H b=Fa u->b≠c.wk->H' b=Fa u):eW a B H' c F r' b ff ds us ts sc m:=#[W.O.set (L1:=[]) h k,W.fn,W.sq,W.tk,W.bn.mono hm]
theorem eW.tl (W:eW a B H c F r b ff ds us ts sc n):H c.tl=Fa (.lst (us.map λu=>V.ref u.t).reverse):=W.O.get 1 Gc
theorem eW.tl1 (W:eW a B H c F r b ff ds (u::us) ts sc n):H c.tl=Fa (.lst ((us.map λu=>V.ref u.t).reverse++[V.ref u.t])):=by
 rw[<-GP];exact W.tl
theorem eW.ins (W:eW a B H c F r b ff ds us ts sc n):H c.wk=Fa (.ins a.HC c.dw (wkF (10000-(n:Int)) c.fa c.sl c.tl r)):=W.O.get 0 Gc
end
inductive oS (a:bf) (vs:E9 V) (H:Hp) (Q:VK) (E:XK):Prop
 |mk {B:ug}{c:pL}{F:JH}{r:V}{b:FC}{ff:E9 (a8×V)}{ds:E9 rL}{us:E9 oW}{ts:E9 dP}{sc:E9 fm}{n:FC}(_:vs=[.ref c.wk]) (_:eW a B H c F r b ff ds us ts sc n) (_:n=0->o8 a E H (-13)) (_: ∀m,n=m+1-> ∀H',eW a B H' c F r b ff ds us ts sc m->Q .IJ H'):oS a vs H Q E
theorem h8 (T:aW K mg a) (XC:XW K a):T.V4.O P w mg base 4 (oS a):=by
 refine fP T.V4.F agv [03] [02];obtain @⟨B,c,F,r,b,ff,ds,us,ts,sc,n,rfl,W,h0,h1⟩:=h;refine bH (jm (cn (bB 0 (W.fld T T.L6 Gc #[_,aT (by rfl) T.RT,_,_,Gc,Gc,dA (λe=>?_) λe=>?_])) Gc))
 .exact aR (eX eF XC.NS (ju T XC) hr (by rfl) T.OJ T.ZC.c.b) #[F3 _,_,#[Gc,Gc],h0 (by lia) _ (.tail _ (.tail _ (.head _)))]
 .obtain⟨m,rfl⟩: ∃m,n=m+1:=#[n-1,by have:=W.bn.VB;lia]
  refine d8 (gO (pv 0) ak nN) #[c.wk,_,c.dw,_,_,Gc,W.ins,T.Ih,T.L6,Gc,_,_,Gc,Gc,c.dw,_,W.ins,(by show 5<1000;decide),h1 m Gc _ (W.own (Li m) ?_ mC)];rw[ae,show(10000:Int)-(m:Int)=10000-((m+1:FC):Int)+1 by lia]
  rfl
section
variable {H H':Hp}
theorem eW.push (W:eW a B H c F r b ff ds us ts sc n) (ev:au a B.M B.H e v) (hx:H x=FB) (hp:H p=FB) (ne:p≠x) (k:aS H H') (h1:H' x=Fa (.ins a.My dx (xz v p))) (h2:H' p=Fa (.lst [])) (b1:Bn c.z b ts sc (n+1)):
  eW a B (aF H' c.tl (.lst ((us.map λu=>V.ref u.t).reverse++[.ref x]))) c F r b ff ds (#[x,p,dx,v,[]]::us) ((e,[])::ts) sc n:=by
 have O:=W.O.adds (N:=[(x, .ins a.My dx (xz v p)),(p, .lst [])]) k (λy hy=>by
  rcases Fy.mp hy with z|hy
  .rw[z];exact#[hx,h1]
  .rw[FN.mp hy];exact#[hp,h2]) (Gk.mpr #[λz=>ne (FN.mp z).symm,Gk.mpr #[nofun, .nil]])
 have O:=(O.perm ((E9.perm_append_comm (l₁:=[_,_]) (l₂:=[_,_,_,_])).append_right _)).put (L1:=[_]) (o':= .lst ((us.map λu=>V.ref u.t).reverse++[.ref x]))
 rw[<-GP] at O ⊢;refine#[O,W.fn,W.sq, .cons #[ev,Gc] W.tk,W.bn.VB,λi t e=>?_,W.bn.sl,W.bn.b6,W.bn.bn,W.bn.zl];cases i with
 |zero=>cases e;have:=b1.VB;show 0+0+n<=10000;lia
 |succ i=>have:=b1.tl i t e;lia
theorem eW.pop (W:eW a B H c F r b ff ds (u::us) (t::ts) sc n):eW a B (aF H c.tl (.lst (us.map λu=>V.ref u.t).reverse)) c F r b ff ds us ts sc n:=by
 cases W.tk with
 |cons _ tk=>exact#[(W.O.put (L1:=[_])).sub (.cons₂ _ (.cons₂ _ (.cons₂ _ (.cons₂ _ (.cons _ (.cons _ (.refl _))))))),W.fn,W.sq,tk,W.bn.VB,λi t e=>by have:=W.bn.tl (i+1) t e;lia,W.bn.sl,W.bn.b6,W.bn.bn,W.bn.zl]
theorem eW.parts (W:eW a B H c F r b ff ds (u::us) ((e,u.ps)::ts) sc n) (h:H' u.p=Fa (.lst (ps.map V.int))) (k: ∀b o,H b=Fa o->b≠u.p->H' b=Fa o) (hl:ps.length+n<=10000):eW a B H' c F r b ff ds ({ u with ps:=ps } ::us) ((e,ps)::ts) sc n:=by
 cases W.tk with
 |cons h1 tk=>
  refine#[W.O.set (L1:=[_,_,_,_,_]) h k,W.fn,W.sq, .cons #[h1.1,Gc] tk,W.bn.VB,λi t e=>?_,W.bn.sl,W.bn.b6,W.bn.bn,W.bn.zl];cases i with
  |zero=>cases e;exact hl
  |succ i=>exact W.bn.tl (i+1) t e
theorem eW.grow (W:eW a B H c F r b ff ds us ts sc n) (k:aS H H'):eW a B H' c F r b ff ds us ts sc n:=#[W.O.grow k,W.fn,W.sq,W.tk,W.bn]
theorem eW.scs (W:eW a B H c F r b ff ds us ts sc n) (h:d∈ds):H d.1=Fa (.dK d.2):=(W.O.at_ (d.1, .dK d.2) (.tail _ (.tail _ (.tail _ (.tail _ (Hm _ (Lr.mpr #[d,h,Gc]))))))).1
theorem lU {α β:Type}{F:α->β->Prop} : ∀ {l:E9 α}{m:E9 β}{y:β},Paired F l m->m.getLast?=Fa y-> ∃x,l.getLast?=Fa x/\F x y
 |_,_,_, .nil,h=>by cases h
 |[x],[y],_, .cons r .nil,h=>by cases h;exact#[x,Gc,r]
 |_::x::l,_::y::m,z, .cons r (.cons s t),h=>by
  rw[Sq] at h;rw[Sq];exact lU (.cons s t) h
theorem dZ {α β:Type}{F G:α->β->Prop} : ∀ {l:E9 α}{m:E9 β},Paired F l m->(∀x y,F x y->G x y)->Paired G l m
 |_,_, .nil,_=> .nil
 |_,_, .cons h t,g=> .cons (g _ _ h) (dZ t g)
end
inductive Bp (a:bf) (vs:E9 V) (H:Hp) (Q:VK) (_E:XK):Prop
 |mk (t dt:Fi) (v:V) (_:vs=[.ref t,v]) (_:H t=Fa (.ins a.My dt [])) (_: ∀(p:Fi) (H':Hp),H p=FB->p≠t->H' t=Fa (.ins a.My dt (xz v p))->H' p=Fa (.lst [])->(∀b o,H b=Fa o->b≠t->H' b=Fa o)->Q .IJ H'):Bp a vs H Q _E
theorem re (T:aW K mg a):T.ZJ.U P w mg base 1 (Bp a):=by
 refine T.ZJ.F.ok agt [03] [02];obtain⟨t,dt,v,rfl,ht,q⟩:=h;refine aR (b5 (pv 0) (pv 1) Gc) #[t,_,dt,_,Gc,ht,T.Pw,T.Qs,FC.zero_lt_succ _,d8 (b5 (pv 0) (fR ag) Gc) #[F3 _,λp hp=>?_]];have np:p≠t:=λz=>by rw[z,ae] at hp;cases hp
 rw[ac np] at hp;exact#[t,_,dt,_,Gc,(by rw[ac np.symm,ae]),T.Pw,T.Nh,(by show 1<1000;decide),q p _ hp np ae (by rw[ac np,ae]) λb o e nb=>by rw[ac nb,ac (ai e hp),ac nb];exact e]
inductive xw (a:bf) (vs:E9 V) (H:Hp) (Q:VK) (E:XK):Prop
 |mk {B:ug}{c:pL}{F:JH}{r:V}{b:FC}{ff:E9 (a8×V)}{ds:E9 rL}{us:E9 oW}{ts:E9 dP}{sc:E9 fm}{n:FC}{e:Fs}{v:V}(_:vs=[.ref c.wk,v]) (_:eW a B H c F r b ff ds us ts sc n) (_:au a B.M B.H e v) (_:oE a B c F (Q .IJ) E (j6 e ts sc n)):xw a vs H Q E
theorem uf (T:aW K mg a) (XC:XW K a):T.W4.O P w mg base 5 (xw a):=by
 refine fP T.W4.F agy [03] [02];obtain @⟨B,c,F,r,b,ff,ds,us,ts,sc,n,e,v,rfl,W,ev,g⟩:=h;refine aR (bj (bS (pv 0) T.Ih T.V4.c (h8 T XC) hr aA)) #[c.wk,c.dw,_,Gc,W.ins,Gc, .mk Gc W (λz=>?_) λm z H1 W1=>?_]
 .rw[z] at g
  exact g H W.O.same
 .subst z
  refine iN [08] (λ_ q=>W1.fld T T.IS Gc q) W1.tl #[_,gT T.Xo (re T) [07] (by rfl) T.W0 T.ZJ.c.b .nil aQ (aa (pv 1) ag),λx dx hx Vf ne=>#[x,dx,v,Gc,ae,λp H2 hp np h1 h2 k=>#[Gc,?_]]];have hp:=hp;rw[ac np] at hp;have pd:p≠dx:=λz=>by rw[z,ae] at hp;cases hp
  rw[ac pd] at hp;have sm:aS H1 H2:=λb o e=>k b o (by rw[ac (ai e hx),ac (ai e Vf)];exact e) (ai e hx);exact#[_,sm _ _ W1.tl,by rw[GK,Fx,bA W1.tk,Ic];have:=W1.bn.len;lia,cf (g _ r b #[W1.push ev hx hp np sm h1 h2 W.bn])]
inductive sj (a:bf) (vs:E9 V) (H:Hp) (Q:VK) (E:XK):Prop
 |mk {B:ug}{c:pL}{F:JH}{r:V}{b:FC}{ff:E9 (a8×V)}{ds:E9 rL}{u:oW}{us:E9 oW}{t:dP}{ts:E9 dP}{sc:E9 fm}{n:FC}{x:Int}(_:vs=[.ref c.wk, .int x]) (_:eW a B H c F r b ff ds (u::us) (t::ts) sc n) (_:oE a B c F (Q .IJ) E (eN ts sc n x)):sj a vs H Q E
theorem yT (T:aW K mg a):T.ZM.U P w mg base 1 (sj a):=by
 refine T.ZM.F.ok agz [03] [02];obtain @⟨B,c,F,r,b,ff,ds,u,us,t,ts,sc,n,x,rfl,W,g⟩:=h;have tl:=W.tl1;refine bD #[_,BU Jj Sb Sd Cu [08],W.fld T T.IS Gc #[.inl #[Gc,_,cB.of tl],c.tl,_, .ref u.t,Gc,Gc,tl,by simp,?_]];rw[Ui];have W1:=W.pop;have tk:=W1.tk;have ul:=bA tk;refine cr (cO gb (iA T.Kj W1.tl [08] (λ_ q=>W1.fld T T.IS Gc q) (cN #[_,_,Gc,Gc,_,Gc,?_])));rw[GK,Fx];cases tk with
 |nil=>exact bN (d8 (b5 (pv 0) (pv 1) Gc) #[c.wk,_,c.dw,_,Gc,W1.ins,T.Ih,T.LH,(by show 5<1000;decide),g _ b #[W1.own (FF n) ae mC]])
 | @cons v t1 us ts h tk=>
  obtain⟨e1,ps⟩:=t1;obtain rfl:v.ps=ps:=h.2;refine dA (λ_=>?_) λz=>FH z (by rw[FA];lia);have hp:=W1.O.get 5 Gc;have b1:=W.bn.tl 1 _ Gc;refine d8 (bj (xi Jj KA KC i9 (ah (cM bC [08] (dL cK ak) [002]) Gc) (aa (pv 1) ag))) (W1.fld T T.IS Gc #[_,Gc,c.tl,_,_,V.ref v.t,Gc,Gc,cB.of W1.tl1,eB _ _,v.t,_,v.d,_,V.ref v.p,Gc,W1.O.get 4 Gc,T.Pw,T.Nh,Gc, .inl #[Gc,_,cB.of hp],v.p,_,_,Gc,Gc,hp,by rw[Fx,Ic];lia,g _ r b #[W1.parts (ps:=v.ps++[x]) ?_ mC (by rw[FL];show v.ps.length+1+n<=10000;lia)]]);rw[ae,Hk]
  rfl
section
variable {H H':Hp}
theorem eW.sl1 (W:eW a B H c F r b ff (d::ds) us ts sc n):H c.sl=Fa (.lst ((ds.map λd=>V.ref d.1).reverse++[V.ref d.1])):=by
 rw[<-GP];exact W.O.get 2 Gc
theorem eW.alW {s:fm}(W:eW a B H c F r b ff (d::ds) us ts (s::sc) n) (hb:b+1+5*n<=c.z):eW a B (aF H d.1 (.dK (dz d.2 (nk y) (.int x)))) c F r (b+1) ff ((d.1,dz d.2 (nk y) (.int x))::ds) us ts (pj (s::sc) y x) n:=by
 have O:Ow B.H ((_::_::_::_::tkC a us)++(d.1, .dK d.2)::scC ds) H:=W.O;cases W.sq with
 |cons h sq=>
  refine#[O.put,W.fn, .cons #[λu=>?_,FP (cH _ _ _) (Hi h.2)] (dZ sq λ_ _ z=>#[z.1,NH z.2]),W.tk,W.bn.VB,W.bn.tl,W.bn.sl,NH W.bn.b6,hb,W.bn.zl];rw[gB];show _=Ft.map V.int (if u=y then Fa x else s u)
  by_cases hu:u=y
  .rw[Fm (by rw[hu]),Fm hu];rfl
  .rw[Fj λz=>hu (eu (JE z)),Fj hu];exact h.1 u
theorem eW.pushS {s:fm}(W:eW a B H c F r b ff ds us ts sc n) (hq:H q=FB) (k:aS H H') (h:H' q=Fa (.dK kk)) (hs:abk b (q,kk) s) (hl:sc.length+1+n<=10002):eW a B (aF H' c.sl (.lst ((ds.map λd=>V.ref d.1).reverse++[.ref q]))) c F r b ff ((q,kk)::ds) us ts (s::sc) n:=by
 have O:=W.O.adds (N:=[(q, .dK kk)]) k (λy hy=>by rw[FN.mp hy];exact#[hq,h]) (Gk.mpr #[nofun, .nil])
 have O:Ow B.H (_::_::_::_::(tkC a us++(q, .dK kk)::scC ds)) H':=O.perm (Wt (l₁:=_::_::_::_::tkC a us)).symm
 have O:=O.put (L1:=[_,_]) (o':= .lst ((ds.map λd=>V.ref d.1).reverse++[.ref q]))
 rw[<-GP] at O ⊢;exact#[O,W.fn, .cons hs W.sq,W.tk,W.bn.VB,W.bn.tl,hl,W.bn.b6,W.bn.bn,W.bn.zl]
theorem eW.alX {s:fm}(W:eW a B H c F r b ff (d::ds) us ts (s::sc) n):eW a B (aF H c.sl (.lst (ds.map λd=>V.ref d.1).reverse)) c F r b ff ds us ts sc n:=by
 cases W.sq with
 |cons _ sq=>exact#[(W.O.put (L1:=[_,_])).sub (.cons₂ _ (.cons₂ _ (.cons₂ _ (.cons₂ _ ((E9.sublist_cons_self _ _).append_left _))))),W.fn,sq,W.tk,W.bn.VB,W.bn.tl,by have:sc.length+1+n<=10002:=W.bn.sl;lia,W.bn.b6,W.bn.bn,W.bn.zl]
end
inductive qi (a:bf) (vs:E9 V) (H:Hp) (Q:VK) (_E:XK):Prop
 |mk {B:ug}{c:pL}{F:JH}{r:V}{b:FC}{ff:E9 (a8×V)}{ds:E9 rL}{us:E9 oW}{ts:E9 dP}{sc:E9 fm}{n:FC}{y:Fb}{x:Int}(_:vs=[.ref c.wk, .str (sb y)]) (_:eW a B H c F r b ff ds us ts sc n) (_:look sc y=Fa x) (_:Q (.int x) H):qi a vs H Q _E
theorem tD (T:aW K mg a):T.ZL.U P w mg base 1 (qi a):=by
 refine T.ZL.F.ok agx [03] [02];obtain @⟨B,c,F,r,b,ff,ds,us,ts,sc,n,y,x,rfl,W,hl,q⟩:=h;have sq:=W.sq;cases sq with
 |nil=>cases hl
 | @cons d s ds sc hd sq=>
 have k1:=W.scs (d:=d) (.head _)
 have fl: ∀ {Q:VK},Q (.ref c.sl) H->dC K "scopes" Q (.ref c.wk) H:=λq=>W.fld T T.JQ Gc q
 have at1: ∀ {Q:VK},Q (.ref d.1) H->dC K "scopes" (λx H1=>tUn (rU λi=> .int (-i)) (tC (.int 1)) [Fa (.ref c.wk),Fa (.str (sb y))] H1 λu H2=>AZ K x u H2 Q) (.ref c.wk) H:=λq=>fl #[_,Gc,c.sl,_,_,V.ref d.1,Gc,Gc,cB.of W.sl1,eB _ _,q]
 have lk:look (s::sc) y=(match s y with|some a=>Fa a|none=>fM (s::sc) y):=rfl
 refine bH #[_,fB (oR (dn hr) (pv 1) (cM bC [08] (dL cK ak) [002])),at1 #[d.1,_,Gc,gw.k (k:=nk y) k1,_,Gc,?_]];rw[hd.1,Ig];have g:=gw.k (k:=nk y) k1;rw[hd.1] at g;cases hs:s y with
 |some z=>
  rw[lk,hs] at hl;cases hl;rw[hs] at g;exact cc (aM #[_,jM (dn hr) (cM bC [08] (dL cK ak) [002]) (pv 1) [002],at1 #[d.1, .int x,Gc,g,q]])
 |none=>
  rw[lk,hs] at hl;have hl:fM (s::sc) y=Fa x:=hl;cases z:(s::sc).getLast? with
  |none=>simp at z
  |some z'=>
  obtain⟨e,h1,h2⟩:=lU (.cons hd sq) z;have:fM (s::sc)=z':=by unfold fM;rw[RB,z];rfl
  rw[this] at hl;have j1:=W.scs (Me h1);have g:=gw.k (k:=nk y) j1;rw[h2.1,hl] at g;have h0:((d::ds).map λd=>V.ref d.1).reverse[0]?=Fa (V.ref e.1):=by
   rw[<-E9.head?_eq_getElem?,E9.head?_reverse,E9.getLast?_map,h1]
   rfl
  exact bN (aM #[_,jM (dn hr) (cM bC [08] ak [002]) (pv 1) [002],fl #[c.sl,_,_,V.ref e.1,Gc,Gc,cB.of (W.O.get 2 Gc),br (j:=0) h0,e.1, .int x,Gc,g,q]])
inductive Ce (a:bf) (vs:E9 V) (H:Hp) (Q:VK) (_E:XK):Prop
 |mk {B:ug}{c:pL}{F:JH}{r:V}{b:FC}{ff:E9 (a8×V)}{d:rL}{ds:E9 rL}{us:E9 oW}{ts:E9 dP}{s:fm}{sc:E9 fm}{n:FC}{y:Fb}{x:Int}(_:vs=[.ref c.wk, .str (sb y), .int x]) (_:eW a B H c F r b ff (d::ds) us ts (s::sc) n) (_:b+1+5*n<=c.z) (_: ∀H',eW a B H' c F r (b+1) ff ((d.1,dz d.2 (nk y) (.int x))::ds) us ts (pj (s::sc) y x) n->Q .IJ H'):Ce a vs H Q _E
theorem ko (T:aW K mg a):T.W3.U P w mg base 1 (Ce a):=by
 refine T.W3.F.ok agw [03] [02];obtain @⟨B,c,F,r,b,ff,d,ds,us,ts,s0,sc,n,y,x,rfl,W,hb,q⟩:=h;cases W.sq with
 |cons hd _=>exact d8 (g9 (dn hr) (cM bC (ah (pv 0) Gc) (dL cK ak) (λ_ _=>rfl)) (pv 1) (pv 2) Gc) (W.fld T T.JQ Gc #[_,Gc,c.sl,_,_,V.ref d.1,Gc,Gc,cB.of W.sl1,eB _ _,d.1,_,Gc,sH.k (k:=nk y) (W.scs (.head _)) (by rw[Ic];have:=hd.2;have:=W.bn.zl;lia),q _ (W.alW hb)])
theorem As:ku X (OA .FloorDiv) (rI (λ_ j=>j≠0/\j.natAbs.log2<9000) λi j=> .int (i.fdiv j)):=opI λ_ _ _ _ _ _ _ hc q=>floordiv_int hc.1 q (.inl (PyProof.noPylong_of_log2 hc.2))
theorem yY {l:E9 Int} : ∀ {us:E9 Fh},aX (l.map V.int) us-> ∃xs:Jw (Int×Tok),us.toArray=KS xs/\xs.toList.map (·.1)=l:=by
 induction l with
 |nil=>intro us h;cases h;exact#[[].toArray,by simp [KS],Gc]
 |cons i l ih=>
  intro us h;cases h with
  |cons h1 h2=>
   obtain⟨t,rfl⟩:=h1;obtain⟨xs,e1,e2⟩:=ih h2;refine#[#[(i,t)::xs.toList],?_,by rw[<-e2];rfl];unfold KS at e1 ⊢;have e1:=Gq Sv e1;rw[VQ] at e1;apply Jw.ext';rw[VQ];simp only[FQ];rw[<-e1]
theorem sv {pins:E9 (Fi×IW)}{σ:L2.St}{H:Hp}{s:Fn}{p:Fi}{l:E9 Int}(I:aE X pins σ H s) (h:H p=Fa (.lst (l.map V.int))): ∃xs:Jw (Int×Tok),s.heap.IsList p (KS xs)/\xs.toList.map (·.1)=l:=by
 obtain⟨z,HD,n,r,hl,e⟩:=I.Wj h;obtain⟨xs,e1,e2⟩:=yY r;exact#[xs,#[_,e,Gc,n,by rw[<-e1]],e2]
theorem zc (hc:X.calm=FM):gI X (.builtin "min") (λxs H Q=> ∃p i j,xs=[.ref p]/\H p=Fa (.lst [.int i, .int j])/\Q (.int (min i j)) H):=by
 intro pins s σ H xs us Q I r h;obtain⟨p,i,j,rfl,hp,q⟩:=h;obtain⟨u,rfl,r1⟩:=mT r;cases r1;obtain⟨as,l,e⟩:=sv (l:=[i,j]) I hp;obtain⟨as⟩:=as;obtain⟨⟨i',t⟩,⟨j',t'⟩,rfl⟩: ∃x y,as=[x,y]:=by
  match as,e with
  |[x,y],_=>exact#[x,y,Gc]
 obtain⟨rfl,rfl⟩:i=i'/\j=j':=by simpa [eq_comm] using e
 refine min_intList (I.ok.hd hc) l (by show 0<2;decide) λv h' tk hv k=>#[.int (min i j),H,I.kept k,?_,q];by_cases hij:j<i
 .have e:ML (λx y=>decide (Mu [(i,t),(j,t')].toArray x<Mu [(i,t),(j,t')].toArray y)) 1=1:=by simp [ML,Mu,hij]
  have hv:(KS [(i,t),(j,t')].toArray)[ML (λx y=>decide (Mu [(i,t),(j,t')].toArray x<Mu [(i,t),(j,t')].toArray y)) 1]?=Fa v:=hv
  rw[e] at hv;have hv:Ki j t'=v:=by simpa [KS] using hv
  exact#[t',by rw[<-hv,Int.min_def,Fj (by lia)]]
 .have e:ML (λx y=>decide (Mu [(i,t),(j,t')].toArray x<Mu [(i,t),(j,t')].toArray y)) 1=0:=by simp [ML,Mu,hij]
  have hv:(KS [(i,t),(j,t')].toArray)[ML (λx y=>decide (Mu [(i,t),(j,t')].toArray x<Mu [(i,t),(j,t')].toArray y)) 1]?=Fa v:=hv
  rw[e] at hv;have hv:Ki i t=v:=by simpa [KS] using hv
  exact#[t,by rw[<-hv,Int.min_def,Fm (by lia)]]
theorem yx (hc:X.calm=FM):gI X (.builtin "max") (λxs H Q=> ∃p i j,xs=[.ref p]/\H p=Fa (.lst [.int i, .int j])/\Q (.int (max i j)) H):=by
 intro pins s σ H xs us Q I r h;obtain⟨p,i,j,rfl,hp,q⟩:=h;obtain⟨u,rfl,r1⟩:=mT r;cases r1;obtain⟨as,l,e⟩:=sv (l:=[i,j]) I hp;obtain⟨as⟩:=as;obtain⟨⟨i',t⟩,⟨j',t'⟩,rfl⟩: ∃x y,as=[x,y]:=by
  match as,e with
  |[x,y],_=>exact#[x,y,Gc]
 obtain⟨rfl,rfl⟩:i=i'/\j=j':=by simpa [eq_comm] using e
 refine max_intList (I.ok.hd hc) l (by show 0<2;decide) λv h' tk hv k=>#[.int (max i j),H,I.kept k,?_,q];by_cases hij:j>i
 .have e:ML (λx y=>decide (Mu [(i,t),(j,t')].toArray x>Mu [(i,t),(j,t')].toArray y)) 1=1:=by simp [ML,Mu,hij]
  have hv:(KS [(i,t),(j,t')].toArray)[ML (λx y=>decide (Mu [(i,t),(j,t')].toArray x>Mu [(i,t),(j,t')].toArray y)) 1]?=Fa v:=hv
  rw[e] at hv;have hv:Ki j t'=v:=by simpa [KS] using hv
  exact#[t',by rw[<-hv,Int.max_def,Fm (by lia)]]
 .have e:ML (λx y=>decide (Mu [(i,t),(j,t')].toArray x>Mu [(i,t),(j,t')].toArray y)) 1=0:=by simp [ML,Mu,hij]
  have hv:(KS [(i,t),(j,t')].toArray)[ML (λx y=>decide (Mu [(i,t),(j,t')].toArray x>Mu [(i,t),(j,t')].toArray y)) 1]?=Fa v:=hv
  rw[e] at hv;have hv:Ki i t=v:=by simpa [KS] using hv
  refine#[t,?_];rw[<-hv,Int.max_def];by_cases z:i<=j
  .rw[Fm z,show j=i by lia]
  .rw[Fj z]
theorem CH (ho:op∈GI) (h:d7 x s):decide (V.str (dI op)=V.str x)=decide (op=s):=by
 obtain⟨rfl,hs⟩:=h;exact decide_eq_decide.mpr #[λz=>xH op ho s hs (V.str.inj z),λz=>by rw[z]]
theorem ji {X:Cx}{H:Hp}(ho:op∈GI) (l:d7 v s) (yes:op=s->Pe X e (Fa (.str (dI op))::σ) H D.rt) (no:op≠s->Bd X ss D (Fa (.str (dI op))::σ) H) (n0:X.N[0]?=Fa ("sign":FR):=by rfl) (v0:oU X.env.scope "sign":=by exact G9 Gc):
  Bd X (.If (.Compare (.Name "sign" p1) [.Eq] [.Constant (.str v) j p2] p3) [.Return (Fa e) p4] [] p5::ss) D (Fa (.str (dI op))::σ) H:=
 bH (cO b9 (bB 0 (Yp #[Gc,_,Gc,by rw[CH ho l];exact dA (λz=>aM (yes z)) no]) n0 v0))
theorem Dv {α:Type}{Q:α->Prop}{c:Prop} [Decidable c] {x y:α}(q:Q (if c then x else y)):(c->Q x)/\(¬c->Q y):=#[λh=>by rw[Fm h] at q;exact q,λh=>by rw[Fj h] at q;exact q]
def yt (op:Fb) (b:Int):Gu:=b !=0||!(decide (op=Fc "/")||decide (op=Fc "%"))
def nj (op:Fb) (a b:Int):Int:=if op=Fc "+" then a+b else if op=Fc "-" then a-b else if op=Fc "*" then a*b else if op=Fc "/" then a.fdiv b else if op=Fc "%" then a.fmod b else NW (MM op a b)
def tR (a:Int):Prop:= -(2 ^ 64)<a/\a<2 ^ 64
theorem wN:d7 "+" (Fc "+")/\d7 "-" (Fc "-")/\d7 "*" (Fc "*")/\d7 "/" (Fc "/")/\d7 "/rest" (Fc "%")/\d7 "==" (Fc "==")/\d7 "!=" (Fc "!=")/\d7 "<=" (Fc "<=")/\d7 ">=" (Fc ">=")/\d7 "<" (Fc "<"):=#[[008],[008],[008],[008],[008],[008],[008],[008],[008],[008]]
inductive Bh (vs:E9 V) (H:Hp) (Q:VK) (_E:XK):Prop
 |mk (op:Fb) (b:Int) (_:vs=[.str (dI op), .int b]) (_:op∈GI) (_: ∀H',aS H H'->Q (.bl (yt op b)) H'):Bh vs H Q _E
theorem alY (T:aW K mg a):T.d_Q.U P w base 1 Bh:=by
 refine T.d_Q.F.ok ale [03] [02];obtain⟨op,b,rfl,ho,q⟩:=h;refine#[_,(aj (aJ (Dd (ca qf (pv 1) ak (aL _)) (jw (ca ke (pv 0) (Cy (aa dH (aa dH ag))) Gc))))),?_];refine#[Gc,_,Gc,?_];rw[cj];unfold yt at q;by_cases hb:b=0
 .subst hb
  refine bN ?_;refine#[by show 2<=F8;decide,λp hp=>#[p,_,Gc, .inr (pH.of ae),Gc,Gc,?_]];have e:uq (.str (dI op)) [.str "/", .str "/rest"]=(decide (op=Fc "/")||decide (op=Fc "%")):=by
   rw[<-CH ho wN.2.2.2.1,<-CH ho wN.2.2.2.2.1];show(("/":FR) == dI op||(("/rest":FR) == dI op||false))=_
   have b: ∀x:FR,(x == dI op)=decide (V.str (dI op)=V.str x):=λx=>by
    rw[Hd,beq_iff_eq,Gg];exact#[λz=>by rw[z],λz=>(V.str.inj z).symm]
   rw[Pc,b,b]
  show Q (.bl (!uq (.str (dI op)) [.str "/", .str "/rest"])) _
  rw[e];exact q _ (a9 hp)
 .rw[Gb hb]
  refine cc ?_;have z:=q H λ_ _ e=>e
  rw[show(b !=0)=FM from bne_iff_ne.mpr hb] at z;exact z
inductive A3 (vs:E9 V) (H:Hp) (Q:VK) (_E:XK):Prop
 |mk (op:Fb) (x y:Int) (_:vs=[.str (dI op), .int x, .int y]) (_:op∈GI) (_:Q (.bl (MM op x y)) H):A3 vs H Q _E
theorem alZ (T:aW K mg a):T.d_S.U P w base 1 A3:=by
 refine T.d_S.F.ok alg [03] [02];obtain⟨op,x,y,rfl,ho,q⟩:=h;obtain⟨_,_,_,_,_,l1,l2,l3,l4,l5⟩:=wN;unfold MM at q;have q:=Dv (Q:=λz=>Q (.bl z) H) q
 refine ji ho l1 (λe=>#[_,ca b9 (pv 1) (pv 2) (aL _),Gc,by rw[cj];exact q.1 e]) λe=>?_;have q:=Dv (Q:=λz=>Q (.bl z) H) (q.2 e)
 refine ji ho l2 (λe=>#[_,ca qf (pv 1) (pv 2) (aL _),Gc,by rw[cj,<-decide_not];exact q.1 e]) λe=>?_;have q:=Dv (Q:=λz=>Q (.bl z) H) (q.2 e)
 refine ji ho l3 (λe=>#[_,ca eP (pv 1) (pv 2) (aL _),_,_,Gc,Gc,q.1 e]) λe=>?_;have q:=Dv (Q:=λz=>Q (.bl z) H) (q.2 e)
 refine ji ho l4 (λe=>#[_,ca afB (pv 1) (pv 2) (aL _),_,_,Gc,Gc,q.1 e]) λe=>?_;have q:=Dv (Q:=λz=>Q (.bl z) H) (q.2 e)
 exact ji ho l5 (λe=>#[_,ca j8 (pv 1) (pv 2) (aL _),_,_,Gc,Gc,q.1 e]) λe=>aM #[_,ca gb (pv 1) (pv 2) (aL _),_,_,Gc,Gc,q.2 e]
theorem vR (h:tR j):j.natAbs.log2<9000:=by
 by_cases z:j.natAbs=0
 .rw[z];decide
 .refine FC.lt_trans ((FC.log2_lt z).mpr (show j.natAbs<2 ^ 65 by unfold tR at h;lia)) [01]
inductive YA (vs:E9 V) (H:Hp) (Q:VK) (_E:XK):Prop
 |mk (op:Fb) (x y:Int) (_:vs=[.str (dI op), .int x, .int y]) (_:op∈GI) (_:tR x) (_:tR y) (_:yt op y=FM) (_:Q (.int (nj op x y)) H):YA vs H Q _E
theorem al0 (T:aW K mg a):T.d_R.U P w base 2 YA:=by
 have G_S:=alZ (P:=P) (w:=w) (base:=base) T;refine T.d_R.F.ok alf [03] [02];obtain⟨op,x,y,rfl,ho,bx,b_y,hh,q⟩:=h;obtain⟨l1,l2,l3,l4,l5,_⟩:=wN
 have y0:op=Fc "/"\/op=Fc "%"->y≠0:=λo z=>by
  rw[z] at hh;rcases o with o|o
  .rw[o] at hh;exact FH hh [00]
  .rw[o] at hh;exact FH hh [00]
 unfold nj at q;have q:=Dv (Q:=λz=>Q (.int z) H) q
 refine ji ho l1 (λe=>#[_,bW dX (pv 1) (pv 2),_,_,Gc,Gc,q.1 e]) λe=>?_;have q:=Dv (Q:=λz=>Q (.int z) H) (q.2 e)
 refine ji ho l2 (λe=>#[_,bW cX (pv 1) (pv 2),_,_,Gc,Gc,q.1 e]) λe=>?_;have q:=Dv (Q:=λz=>Q (.int z) H) (q.2 e)
 refine ji ho l3 (λe=>#[_,bW BP (pv 1) (pv 2),_,_,Gc,Gc, .inl bx,q.1 e]) λe=>?_;have q:=Dv (Q:=λz=>Q (.int z) H) (q.2 e)
 refine ji ho l4 (λe=>#[_,bW As (pv 1) (pv 2),_,_,Gc,Gc,#[y0 (.inl e),vR b_y],q.1 e]) λe=>?_;have q:=Dv (Q:=λz=>Q (.int z) H) (q.2 e)
 refine ji ho l5 (λe=>#[_,bW Eh (pv 1) (pv 2),_,_,Gc,Gc,y0 (.inr e),q.1 e]) λe=>?_;refine aM #[_,df (cZ (aG G_S hr (by rfl) T.d_S.c aQ (aa (pv 0) (aa (pv 1) (aa (pv 2) ag))))) ak ak,op,x,y,Gc,ho,_,Gc,?_];have q:=q.2 e;unfold NW at q;cases hc:MM op x y with
 |true=>rw[hc] at q;exact cc q
 |false=>rw[hc] at q;exact bN q
inductive ahF (vs:E9 V) (H:Hp) (Q:VK) (_E:XK):Prop
 |mk (x:Int) (_:(vs=[.str "-", .int x]/\Q (.int (-x)) H)\/(vs=[.str "!", .int x]/\Q (.int (NW (x == 0))) H)):ahF vs H Q _E
theorem ahG (T:aW K mg a):T.ZG.U P w base 1 ahF:=by
 refine T.ZG.F.ok agq (λvs H Q E h=>?_) [02]
 .obtain⟨x,⟨rfl,_⟩|⟨rfl,_⟩⟩:=h
  .rfl
  .rfl
 .obtain⟨x,⟨rfl,q⟩|⟨rfl,q⟩⟩:=h
  .refine#[_,(ax (cv (a0 b9 (pv 0) dH (aL _)) (aj (aJ (bW cX ak (pv 1)))) bo)
    (aj (aJ (df (a0 b9 (pv 1) ak (aL _)) ak ak)))),?_]
   refine#[Gc,_,Gc,aO (λ_=>?_) λe=>FH e [00]];exact#[_,_,Gc,Gc,by show Q (.int (0-x)) H;rw[Int.zero_sub];exact q]
  .refine#[_,(ax (cv (a0 b9 (pv 0) dH (aL _)) (aj (aJ (bW cX ak (pv 1)))) bo)
    (aj (aJ (df (a0 b9 (pv 1) ak (aL _)) ak ak)))),?_]
   refine#[Gc,_,Gc,aO (λe=>FH e [00]) λ_=>?_];refine#[Gc,_,Gc,?_];rw[cj];unfold NW at q;by_cases hx:x=0
   .rw[show(x == 0)=FM from beq_iff_eq.mpr hx] at q
    rw[GJ hx];exact cc q
   .rw[show(x == 0)=FS from beq_eq_false_iff_ne.mpr hx] at q
    rw[Gb hx];exact bN q
inductive pY (vs:E9 V) (H:Hp) (Q:VK) (_E:XK):Prop
 |mk (s:FC) (x:Int) (_:vs=[.int s, .int x]) (_:Q (.bl (jg s x)) H):pY vs H Q _E
theorem ahH (T:aW K mg a):T.ZI.U P w base 1 pY:=by
 refine T.ZI.F.ok ags [03] [02];obtain⟨st,x,rfl,q⟩:=h;refine#[_,(ax (cv (a0 b9 (pv 0) (aT (by rfl) T.TY) (aL _)) (aj (aJ (ca b9 (pv 1) ak (aL _)))) bo)
   (aj (aJ (ca qf (pv 1) ak (aL _))))),?_]
 refine#[Gc,_,Gc,?_];rw[cj];unfold jg at q;refine aO (λe=>?_) λe=>?_
 .rw[Fm (by have:=F4 e;lia)] at q
  exact#[Gc,by rw[cj];exact q]
 .rw[Fj (by have:=F6 e;lia)] at q
  exact#[Gc,by rw[cj];exact q]
inductive AI (vs:E9 V) (H:Hp) (Q:VK) (_E:XK):Prop
 |mk (s:FC) (_:vs=[.int s]) (_:Q (.int (mZ s)) H):AI vs H Q _E
theorem ahI (T:aW K mg a):T.d_T.U P w base 1 AI:=by
 refine T.d_T.F.ok alh [03] [02];obtain⟨st,rfl,q⟩:=h;refine#[_,(aj (aJ (df (a0 b9 (pv 0) (aT (by rfl) T.TY) (aL _)) ak ak))),?_];refine#[Gc,_,Gc,?_];rw[cj];unfold mZ at q;refine aO (λe=>?_) λe=>?_
 .rw[Fm (by have:=F4 e;lia)] at q
  exact q
 .rw[Fj (by have:=F6 e;lia)] at q
  exact q
inductive Ak (vs:E9 V) (H:Hp) (Q:VK) (_E:XK):Prop
 |mk (f:Fb) (p:Fi) (l:E9 Int) (k:Fb×FC) (_:vs=[.str (sb f), .ref p]) (_:H p=Fa (.lst (l.map V.int))) (_:(Lj.find? λg=>g.1 == f)=Fa k) (_:l.length=k.2) (_:Q (.int (Wu f l)) H):Ak vs H Q _E
theorem YB (h:x=sb s):decide (V.str (sb f)=V.str x)=decide (f=s):=by
 rw[h];exact decide_eq_decide.mpr #[λz=>eu (V.str.inj z),λz=>by rw[z]]
theorem ahJ (T:aW K mg a):T.ZH.U P w base 1 Ak:=by
 refine T.ZH.F.ok agr [03] [02];obtain⟨f,p,l,k,rfl,hp,hk,hl,q⟩:=h;refine#[_,(ax (cv (a0 b9 (pv 0) dH (aL _)) (aj (aJ (bw (zc Gc) (by rfl) T.afn boot_min (aa (pv 1) ag)))) bo)
   (ax (cv (a0 b9 (pv 0) dH (aL _)) (aj (aJ (bw (yx Gc) (by rfl) T.afm boot_max (aa (pv 1) ag)))) bo)
   (aj (aJ (bw uh (by rfl) T.Ya boot_abs (aa (cM bC (pv 1) ak [002]) ag)))))),?_]
 unfold Wu at q;dsimp only at q;have kf:k.1=f:=by have:=Q3 hk;exact beq_iff_eq.mp this
 have km:=Kz hk
 have kk:k=(Fc "min",2)\/k=(Fc "max",2)\/k=(Fc "abs",1):=by
  unfold Lj at km
  simpa using km
 refine#[Gc,_,Gc,?_];rw[YB (s:=Fc "min") [00]];refine aO (λe=>?_) λe=>?_
 .have e:=F4 e
  rw[Fm e] at q;have:l.length=2:=by
   rcases kk with z|z|z
   .rw[hl,z]
   .rw[hl,z]
   .rw[z] at kf;rw[e] at kf;exact FH kf [00]
  match l,this with
  |[i,j],_=>exact#[p,i,j,Gc,hp,q]
 have e1:=F6 e;rw[Fj e1] at q;refine#[Gc,_,Gc,?_];rw[YB (s:=Fc "max") [00]];refine aO (λe=>?_) λe=>?_
 .have e:=F4 e
  rw[Fm e] at q;have:l.length=2:=by
   rcases kk with z|z|z
   .rw[hl,z]
   .rw[hl,z]
   .rw[z] at kf;rw[e] at kf;exact FH kf [00]
  match l,this with
  |[i,j],_=>exact#[p,i,j,Gc,hp,q]
 have e2:=F6 e;rw[Fj e2] at q
 have:l.length=1:=by
  rcases kk with z|z|z
  .rw[z] at kf;exact FH kf.symm e1
  .rw[z] at kf;exact FH kf.symm e2
  .rw[hl,z]
 match l,this with
 |[i],_=>exact#[p,_,_,V.int i,Gc,Gc,cB.of hp,br (j:=0) Gc,i,Gc,q]
inductive YC (a:bf) (vs:E9 V) (H:Hp) (Q:VK) (E:XK):Prop
 |mk (x:Int) (_:vs=[.int x]) (_:(dB x->Q (.int x) H)) (_:(¬dB x->Rfs a.KZ E H (-12))):YC a vs H Q E
theorem ahK (T:aW K mg a) (XC:XW K a):T.d_y.O P w base 4 (YC a):=by
 have G_P:=lw (P:=P) (w:=w) (base:=base) T XC;refine fP T.d_y.F aln [03] [02];obtain⟨x,rfl,h1,h2⟩:=h;refine#[_,(ax (cv (a0 gb (bw uh (by rfl) T.Ya boot_abs (aa (pv 0) ag)) (aT (by rfl) T.TZ) (aL _)) (aj (eX eF XC.OY G_P (hr.mono (by lia)) (by rfl) T.Qj T.d_P.c.b)) bo)
   (aj (aJ (pv 0)))),?_]
 refine#[_,Gc,_,_,Gc,Gc,_,Gc,?_];refine aO (λe=>?_) λe=>?_
 .have e:=F4 e
  exact#[by show 0<=9;decide,_,#[Gc,Gc],h2 λz=>by unfold dB Kp at z;split at e<;>lia]
 .have e:=F6 e
  exact h1 (by unfold dB Kp;split at e<;>lia)
inductive YD (a:bf) (vs:E9 V) (H:Hp) (Q:VK) (E:XK):Prop
 |mk (op:Fb) (s:FC) (x y:Int) (_:vs=[.str (dI op), .int x, .int y]) (_:op∈GI) (_:dB x) (_:dB y) (_:(s=2 ↔ op∈["==","!=","<=",">=","<",">"].map Fc)) (_:(s≠2->op∈["+","-","*","/","%"].map Fc)) (_:(match fO s op x y with
  | .error k=> ∀H',aS H H'->o8 a E H' k
  | .ok z=> ∀H',aS H H'->Q (.int z) H')):YD a vs H Q E
theorem zN (h:op∈["==","!=","<=",">=","<",">"].map Fc):op≠Fc "+"/\op≠Fc "-"/\op≠Fc "*"/\op≠Fc "/"/\op≠Fc "%":=by
 revert op
 decide+kernel
theorem ahL (T:aW K mg a) (XC:XW K a):T.ZO.O P w base 5 (YD a):=by
 have G_Q:=alY (P:=P) (w:=w) (base:=base) T
 have G_R:=al0 (P:=P) (w:=w) (base:=base) T
 have G_y:=ahK (P:=P) (w:=w) (base:=base) T XC
 have G_O:=ii (P:=P) (w:=w) (base:=base) T XC;refine fP T.ZO.F agD [03] [02];obtain⟨op,st,x,y,rfl,ho,bx,b_y,h2,hn,q⟩:=h;refine#[_,(ax (cv (ld (cZ (aG G_Q (hr.mono (by lia)) (by rfl) T.d_Q.c aQ (aa (pv 0) (aa (pv 2) ag))))) (aj (eX eF XC.Ma G_O (hr.mono (by lia)) (by rfl) T.Nt T.d_O.c.b)) bo)
   (aj (aJ (aG G_y (hr.mono (by lia)) (by rfl) T.d_y.c aA (aa (aG G_R (hr.mono (by lia)) (by rfl) T.d_R.c aQ (aa (pv 0) (aa (pv 1) (aa (pv 2) ag)))) ag))))),?_]
 refine#[op,y,Gc,ho,λH1 s1=>#[_,Gc,?_]];have bx':tR x:=by unfold dB Kp at bx;unfold tR;lia
 have al1:tR y:=by unfold dB Kp at b_y;unfold tR;lia
 cases hh:yt op y with
 |false=>
  refine cc ?_;unfold yt at hh;rw[Mf] at hh;have y0:y=0:=by simpa using hh.1
  have od:op=Fc "/"\/op=Fc "%":=by have:=hh.2;rw[PJ,Mt,Gg,Gg] at this;exact this
  have n2:st≠2:=λz=>by
   have:=zN (h2.mp z);rcases od with z|z
   .exact this.2.2.2.1 z
   .exact this.2.2.2.2 z
  have ec:fO st op x y= .error (-11):=by
   unfold fO XJ;rw[Fj n2,y0];rcases od with z|z
   .rw[z,Fj [00],Fj [00],Fj [00],Fm Gc]
   .rw[z,Fj [00],Fj [00],Fj [00],Fm Gc]
  rw[ec] at q;exact#[by show 0<=9;decide,_,#[Gc,Gc],q H1 s1 _ (.head _)]
 |true=>
  refine bN ?_;refine#[op,x,y,Gc,ho,bx',al1,hh,?_];have key:fO st op x y=if dB (nj op x y) then .ok (nj op x y) else .error (-12):=by
   unfold fO;by_cases z:st=2
   .rw[Fm z]
    obtain⟨e1,e2,e3,e4,e5⟩:=zN (h2.mp z);have:nj op x y=NW (MM op x y):=by unfold nj;rw[Fj e1,Fj e2,Fj e3,Fj e4,Fj e5]
    rw[this,Fm (gQ _)]
   .rw[Fj z]
    have y0:op=Fc "/"\/op=Fc "%"->y≠0:=λo=>by
     unfold yt at hh;intro w0;rw[w0] at hh;rcases o with o|o
     .rw[o] at hh;exact FH hh [00]
     .rw[o] at hh;exact FH hh [00]
    have ck: ∀v:Int,(match Wv v 0 with
      | .error c=> .error c
      | .ok (v,_)=> .ok v)=if dB v then(.ok v:Except Int Int) else .error (-12):=λv=>by
     unfold Wv;by_cases h:dB v
     .rw[Fm h,Fm h]
     .rw[Fj h,Fj h]
    unfold XJ nj;by_cases e1:op=Fc "+"
    .rw[Fm e1,Fm e1];exact ck _
    rw[Fj e1,Fj e1];by_cases e2:op=Fc "-"
    .rw[Fm e2,Fm e2];exact ck _
    rw[Fj e2,Fj e2];by_cases e3:op=Fc "*"
    .rw[Fm e3,Fm e3];exact ck _
    rw[Fj e3,Fj e3];by_cases e4:op=Fc "/"
    .rw[Fj (y0 (.inl e4)),Fm e4,Fm e4];exact ck _
    rw[Fj e4];have e5:op=Fc "%":=by
     have:=hn z;simp only[FQ,Qc,Fy,HF,or_false] at this;rcases this with z|z|z|z|z
     .exact FH z e1
     .exact FH z e2
     .exact FH z e3
     .exact FH z e4
     .exact z
    rw[Fj (y0 (.inr e5)),Fj e4,Fm e5];exact ck _
  rw[key] at q;refine#[_,Gc,λhb=>?_,λhb=>?_]
  .rw[Fm hb] at q
   exact q H1 s1
  .rw[Fj hb] at q
   exact q H1 s1 _ (.tail _ (.head _))
structure GX (X:Cx) (a:bf) (E:XK):Prop where
 T:aW X.K X.mg a
 C:XW X.K a
 hr:bZ 5 X.A
 up:dh (fY X.prog X.w) X E
 nd:X.N.Nodup
 n0:X.N[0]?=Fa ("worker":FR)
 v0:oU X.env.scope "worker"
 n2:X.N[2]?=Fa ("parts":FR)
 v2:oU X.env.scope "parts"
structure o6 (a:bf) (H:Hp) (B:ug) (c:pL) (S:Ia) (F0:E9 (Fb×FC)) (r:V) (b:FC) (ff:E9 (a8×V)) (ds:E9 rL) (u:oW) (us:E9 oW) (e:Fs) (ts:E9 dP) (sc:E9 fm) (n:FC):Prop where
 FO:gy S F0
 gd:Gd F0 (.go ((e,u.ps)::ts) sc n)
 W:eW a B H c S.funs r b ff ds (u::us) ((e,u.ps)::ts) sc n
inductive ahM (a:bf) (ok:Ia->Fs->E9 Int->Prop) (vs:E9 V) (H:Hp) (Q:VK) (E:XK):Prop
 |mk {B:ug}{c:pL}{S:Ia}{F0:E9 (Fb×FC)}{r:V}{b:FC}{ff:E9 (a8×V)}{ds:E9 rL}{u:oW}{us:E9 oW}{e:Fs}{ts:E9 dP}{sc:E9 fm}{n:FC}{m:Mc}(_:vs=[.ref c.wk,u.v, .ref u.p]) (_:ok S e u.ps) (_:o6 a H B c S F0 r b ff ds u us e ts sc n) (_:eJ S.funs (.go ((e,u.ps)::ts) sc n)=Fa m) (_:oE a B c S.funs (Q .IJ) E m):ahM a ok vs H Q E
section
variable {H H':Hp}
theorem o6.ev (G:o6 a H B c S F0 r b ff ds u us e ts sc n):au a B.M B.H e u.v:=by
 cases G.W.tk with
 |cons h _=>exact h.1
theorem o6.hp (G:o6 a H B c S F0 r b ff ds u us e ts sc n):H u.p=Fa (.lst (u.ps.map V.int)):=G.W.O.get 5 Gc
theorem o6.psB (G:o6 a H B c S F0 r b ff ds u us e ts sc n): ∀x∈u.ps,dB x:=(G.gd.1 (e,u.ps) Fq).ps
theorem o6.ws (G:o6 a H B c S F0 r b ff ds u us e ts sc n):WSx F0 e:=(G.gd.1 (e,u.ps) Fq).ws
theorem o6.len (G:o6 a H B c S F0 r b ff ds u us e ts sc n):u.ps.length+n<=10000:=G.W.bn.tl 0 _ Gc
theorem o6.grow (G:o6 a H B c S F0 r b ff ds u us e ts sc n) (k:aS H H'):o6 a H' B c S F0 r b ff ds u us e ts sc n:=#[G.FO,G.gd,G.W.grow k]
theorem o6.part (G:o6 a H B c S F0 r b ff ds u us e ts sc n) (h:H' u.p=Fa (.lst (ps.map V.int))) (k: ∀b o,H b=Fa o->b≠u.p->H' b=Fa o) (hl:ps.length<=u.ps.length) (hb: ∀x∈ps,dB x):o6 a H' B c S F0 r b ff ds { u with ps:=ps } us e ts sc n:=by
 refine#[G.FO,#[λt ht=>?_,G.gd.2],G.W.parts h k (by have:=G.len;lia)];rcases Fy.mp ht with z|z
 .rw[z];exact#[G.ws,hb]
 .exact G.gd.1 t (Fp _ z)
end
abbrev o4 (P:Ga) (w:GN) (K:Fe) (mg:FR->Ft Fh) (base:GY) (a:bf) (k:FC) (f:Fi) (fd:Gs) (y:FR) (ok:Ia->Fs->E9 Int->Prop):Prop:=bU P w K mg base (fY P w) k f fd ["worker",y,"parts"] (ahM a ok)
theorem qI {x He y:FR}{st:Stmt}{f:Fi}{fd:Gs}{N:E9 FR}{ok:Ia->Fs->E9 Int->Prop}(T:aW K mg a) (XC:XW K a) (hk:5<=k) (F:oX K x He st f fd) (S:az N ["worker",y,"parts"] (af st))
  (JG: ∀(GU:Fh) (A:GV) (outer:E9 Env) (s:Fn) (H:Hp) (B:ug) (c:pL) (S:Ia) (F0:E9 (Fb×FC)) (r:V) (b:FC) (ff:E9 (a8×V)) (ds:E9 rL) (u:oW) (us:E9 oW) (e:Fs) (ts:E9 dP) (sc:E9 fm) (n:FC) (m:Mc) (Q:VK) (E:XK),bZ k (A.deeper (JJ He (af st) s.heap.objs.size f GU))->ok S e u.ps->o6 a H B c S F0 r b ff ds u us e ts sc n->eJ S.funs (.go ((e,u.ps)::ts) sc n)=Fa m->oE a B c S.funs (Q .IJ) E m->
   let X:=e8 (fY P w) P w K mg base N He (af st) f GU A outer s H E
   let D:eA:= { nx:=λ_ H'=>Q .IJ H',rt:=Q }
   GX X a E->Bd X (be st) D (L2.start N [.ref c.wk,u.v, .ref u.p]) H):o4 P w K mg base a (k+1) f fd y ok:=by
 refine fP F S [03] [02];obtain @⟨B,c,S',F0,r,b,ff,ds,u,us,e,ts,sc,n,m,rfl,ho,G,hm,g⟩:=h;have vis: ∀g∈[("worker":FR),y,"parts"],oU (af st) g:=λg hg=>(S.par g hg).elim .inl λz=> .inr (.inl z)
 have pre:=S.pre;refine JG GU A outer s H B c S' F0 r b ff ds u us e ts sc n m Q E hr ho G hm g #[T,XC,hr.mono hk,aA,S.nd,?_,vis _ (.head _),?_,vis _ (.tail _ (.tail _ (.head _)))]
 .match N,pre with
  |x::_,e=>exact Gq Fa (IB e).1
 .match N,pre with
  |_::_::x::_,e=>exact Gq Fa (IB (IB (IB e).2).2).1
section
variable {X:Cx}{E:XK}{B:ug}{c:pL}{F:JH}{r:V}{b:FC}{ff:E9 (a8×V)}{ds:E9 rL}{u:oW}{us:E9 oW}{t:dP}{ts:E9 dP}{sc:E9 fm}{n:FC}{D:eA}{σ:L2.St}{H:Hp}{e:HH}{p1 p2 p3 p4 p5:Pos}
theorem fb (Y:GX X a E) (q:Pe X e (Fa (.ref c.wk)::σ) H λv H1=> ∃(o:Fs) (us:E9 oW) (ts:E9 dP),eW a B H1 c F r b ff ds us ts sc n/\au a B.M B.H o v/\oE a B c F (D.nx (Fa (.ref c.wk)::σ)) E (j6 o ts sc n)) (W:eW a B H c F r b ff ds us ts sc n) (hp:ip p2 p4:=by rfl) (Kq:FK [e] X.env=[[001]]:=by rfl):
  Bd X [.Expr (.Call (.Attribute (.Name "worker" p1) "begin" p2) [e] [] p4) p5] D (Fa (.ref c.wk)::σ) H:=
 d8 (bj (cy (dR Y.n0 Y.v0) Y.T.Ih Y.T.W4.c (uf Y.T Y.C) Y.hr Y.up (aa du ag Kq) Kq Gc (eM hp (by rw[Kq];rfl))) Gc) #[c.wk,c.dw,_,Gc,W.ins,Gc,q.mono λv H1 ⟨o,us,ts,W1,ev,g⟩=> .mk Gc W1 ev g]
theorem BC {N:Hp->Prop}{E':XK}(g:oE a B c F N E (eN ts sc n x)):oE a B c F N E' (eN ts sc n x):=by
 cases ts<;>exact g
theorem dg (Y:GX X a E) (W:eW a B H c F r b ff ds us ts sc n) (q:Pe X e (Fa (.ref c.wk)::σ) H λv H1=> ∃(x:Int) (ds:E9 rL) (u:oW) (us:E9 oW) (t:dP) (ts:E9 dP) (sc:E9 fm),v= .int x/\eW a B H1 c F r b ff ds (u::us) (t::ts) sc n/\oE a B c F (D.nx (Fa (.ref c.wk)::σ)) E (eN ts sc n x)) (hp:ip p2 p4:=by rfl) (Kq:FK [e] X.env=[[001]]:=by rfl):
  Bd X [.Expr (.Call (.Attribute (.Name "worker" p1) "finish" p2) [e] [] p4) p5] D (Fa (.ref c.wk)::σ) H:=
 d8 (bj (cy (dR Y.n0 Y.v0) Y.T.Ih Y.T.ZM.c (yT Y.T) (Y.hr.mono [01]) aQ (aa du ag Kq) Kq Gc (eM hp (by rw[Kq];rfl))) Gc) #[c.wk,c.dw,_,Gc,W.ins,Gc,q.mono λv H1 ⟨x,ds,u,us,t,ts,sc,hv,W1,g⟩=>by subst hv;exact .mk Gc W1 (BC g)]
theorem dJ {Q:VK}(Y:GX X a E) (hp:H p=Fa (.lst xs)) (q:Q (.int xs.length) H) (hg:Gl X "len":=by rfl):Pe X (.Call (.Name "len" p1) [.Name "parts" p3] [] p2) (Fa (.ref c.wk)::Fa v::Fa (.ref p)::σ) H Q:=iA Y.T.Kj hp (dR Y.n2 Y.v2) [05] q hg
end
theorem js {α β:Type}{F:α->β->Prop} : ∀ {l:E9 α}{m:E9 β}{i:FC}{y:β},Paired F l m->m[i]?=Fa y-> ∃x,l[i]?=Fa x/\F x y
 |_,_,_,_, .nil,h=>by cases h
 |_,_,0,_, .cons r t,h=>#[_,Gc,by obtain rfl:=FG h;exact r]
 |_,_,i+1,_, .cons r t,h=>js (i:=i) t h
theorem ahN {a:bf}{M:Fi->Prop}{H:Hp}{e x:Fs}(he:e= .neg x\/e= .not x) (h:au a M H e v): ∃sg u,bF M H a.KP [("sign", .str sg),("operand",u)] v/\au a M H x u/\(sg="-"/\e= .neg x\/sg="!"/\e= .not x):=by
 rcases he with rfl|rfl
 .unfold au at h
  obtain⟨u,h1,h2⟩:=h;exact#[_,u,h1,h2, .inl #[Gc,Gc]]
 .unfold au at h
  obtain⟨u,h1,h2⟩:=h;exact#[_,u,h1,h2, .inr #[Gc,Gc]]
theorem al2 (T:aW K mg a) (XC:XW K a):o4 P w K mg base a 6 a.f_8 a.aee "unary" λ_ e _=> ∃x,e= .neg x\/e= .not x:=by
 refine qI T XC [01] T.d_8.F alk λGU A outer s H B c S F0 r b ff ds u us e ts sc n m Q E hr ho G hm g=>?_;intro X D Y;obtain⟨x,he⟩:=ho;have W:=G.W;obtain⟨sg,w,i,hw,un⟩:=ahN he G.ev;refine cr (jm (dJ Y G.hp (cN #[_,_,Gc,Gc,?_])));rw[Fx];have hp:=G.hp;generalize WL:u.ps=ps at hm hp;cases ps with
 |nil=>
  refine cc (fb Y (cn (bB 1 (i.fld W.O.same T.Pk T.Nv Gc #[x,_,_,W,hw,?_])) Gc) W);rcases un with⟨_,rfl⟩|⟨_,rfl⟩
  .cases hm;rw[WL];exact g
  .cases hm;rw[WL];exact g
 |cons y ys=>
  refine bN (dg Y W (bL (aP (cn (bB 1 (i.fld W.O.same T.Pk T.OL Gc (aP (kN (bB 2 (cN #[u.p,_,_,V.int y,Gc,Gc,cB.of hp,br (j:=0) Gc,cF #[y,?_]])) [002])))) Gc)) (ahG T) [07] T.ZG.c aQ));rcases un with⟨rfl,rfl⟩|⟨rfl,rfl⟩
  .cases hm
   exact .inl #[Gc,_,_,_,_,_,_,_,Gc,W,g]
  .cases hm
   exact .inr #[Gc,_,_,_,_,_,_,_,Gc,W,g]
theorem ahO (T:aW K mg a) (XC:XW K a):o4 P w K mg base a 6 a.ady a.X3 "choice" λ_ e _=> ∃x y z,e= .pick x y z:=by
 refine qI T XC [01] T.afg.F agE λGU A outer s H B c S F0 r b ff ds u us e ts sc n m Q E hr ho G hm g=>?_;intro X D Y;obtain⟨x,y,z,rfl⟩:=ho;have W:=G.W;have ev:=G.ev;unfold au at ev;obtain⟨u1,u2,u3,i,e1,e2,e3⟩:=ev;have hp:=G.hp;refine cr (jm (dJ Y hp (cN #[_,_,Gc,Gc,?_])));rw[Fx];generalize WL:u.ps=ps at hm hp;have bg: ∀ {p1 p2 p3 p4 p5 p6:Pos}{f:FR}{o:Fs}{v:V},([("condition",u1),("chosen",u2),("otherwise",u3)]:E9 (FR×V)).lookup f=Fa v->ao K a.Km f->au a B.M B.H o v->oE a B c S.funs (Q .IJ) E (j6 o ((.pick x y z,u.ps)::ts) sc n)->(p2.endLine == p4.line)=FM->Bd X [.Expr (.Call (.Attribute (.Name "worker" p1) "begin" p2) [.Attribute (.Name "choice" p3) f p6] [] p4) p5] D [Fa (.ref c.wk),Fa u.v,Fa (.ref u.p)] H:=λhl no ev g hp=>fb Y (cn (bB 1 (i.fld W.O.same T.PY no hl #[_,_,_,W,ev,g])) Gc) W hp
 match ps,hm with
 |[],hm=>cases hm;exact cc (bg Gc T.Mh e1 (by rw[WL];exact g) Gc)
 |[t],hm=>
  cases hm;refine bN (cr (jm (dJ Y hp (cN #[_,_,Gc,Gc,bN (cr (cO qf (kN (bB 2 (cN #[u.p,_,_,V.int t,Gc,Gc,cB.of hp,br (j:=0) Gc,cN #[Gc,_,Gc,?_]])) [002])))]))));rw[cj];by_cases ht:t=0
  .rw[Fj (λw=>w ht)] at g
   rw[GJ ht];exact bN (bg Gc T.Mi e3 (by rw[WL];exact g) Gc)
  .rw[Fm ht] at g
   rw[Gb ht];exact cc (bg Gc T.Ny e2 (by rw[WL];exact g) Gc)
 |[t,t'],hm=>
  cases hm;exact bN (cr (jm (dJ Y hp (cN #[_,_,Gc,Gc,cc (dg Y W (kN (bB 2 (cN #[u.p,_,_,V.int t',Gc,Gc,cB.of hp,br (j:=1) Gc,_,_,_,_,_,_,_,Gc,W,g])) [002]))]))))
 |_::_::_::_,hm=>cases hm
def kL:Fs->Ft (FC×E9 Fs×E9 Fb)
 | .sums e r=>Fa (3,e::Dm r,zL r)
 | .prods e r=>Fa (4,e::Dm r,zL r)
 | .cmp op x y=>Fa (2,[x,y],[op])
 | .both e l=>Fa (1,e::k7 l,(k7 l).map λ_=>Fc "&&")
 | .either e l=>Fa (0,e::k7 l,(k7 l).map λ_=>Fc "||")
 |_=>FB
section
variable {M:Fi->Prop}{H:Hp}
theorem my: ∀ {l:J2}{us:E9 V},cu a M H l us->Paired (λu e=>au a M H e u) us (k7 l)
 | .nil,us,h=>by unfold cu at h;rw[h];exact .nil
 | .cons e l,us,h=>by
  unfold cu at h;obtain⟨u,vs,rfl,h1,h2⟩:=h;exact .cons h1 (my h2)
theorem rC: ∀ {l:Qz}{us ss:E9 V},dE a M H l us ss->Paired (λu e=>au a M H e u) us (Dm l)/\ss=(zL l).map λo=>V.str (dI o)
 | .nil,us,ss,h=>by unfold dE at h;rw[h.1,h.2];exact#[.nil,Gc]
 | .cons op e l,us,ss,h=>by
  unfold dE at h;obtain⟨u,vs,ts,rfl,rfl,h1,h2⟩:=h;obtain⟨g1,g2⟩:=rC h2;exact#[.cons h1 g1,by rw[g2];rfl]
inductive abl (a:bf) (M:Fi->Prop) (H:Hp) (s:FC) (ops:E9 Fs) (sgs:E9 Fb) (v:V):Prop
 |mk (oq gq:V) (us:E9 V) (_:bF M H a.JO [("strength", .int s),("operands",oq),("signs",gq)] v) (_:b3 M H us oq) (_:Paired (λu e=>au a M H e u) us ops) (_:b3 M H (sgs.map λo=>V.str (dI o)) gq):abl a M H s ops sgs v
theorem nD {e:Fs}{v:V}{s:FC}{ops:E9 Fs}{sgs:E9 Fb}(h:au a M H e v) (hc:kL e=Fa (s,ops,sgs)):abl a M H s ops sgs v:=by
 have sg: ∀(t:Fb) (x:FR) (l:J2) (us:E9 V),dI t=x->us.length=(k7 l).length->us.map (λ_=>V.str x)=((k7 l).map λ_=>t).map λo=>V.str (dI o):=λt x l us e hl=>by
  rw[JK,<-e,WU,hl];exact(WU ..).symm
 cases e with
 |sums e r=>
  unfold au at h;cases hc;obtain⟨_,_,u,us,ss,h1,h2,h3,h4,h5⟩:=h;obtain⟨g1,g2⟩:=rC h5;exact#[_,_,_,h1,h2, .cons h4 g1,by rw[<-g2];exact h3]
 |prods e r=>
  unfold au at h;cases hc;obtain⟨_,_,u,us,ss,h1,h2,h3,h4,h5⟩:=h;obtain⟨g1,g2⟩:=rC h5;exact#[_,_,_,h1,h2, .cons h4 g1,by rw[<-g2];exact h3]
 |cmp op x y=>
  unfold au at h;cases hc;obtain⟨_,_,u1,u2,h1,h2,h3,h4,h5⟩:=h;exact#[_,_,_,h1,h2, .cons h4 (.cons h5 .nil),h3]
 |both e l=>
  unfold au at h;cases hc;obtain⟨_,_,u,us,h1,h2,h3,h4,h5⟩:=h;have g1:=my h5;exact#[_,_,_,h1,h2, .cons h4 g1,by rw[<-sg (Fc "&&") "&&" l us [00] (bA g1)];exact h3]
 |either e l=>
  unfold au at h;cases hc;obtain⟨_,_,u,us,h1,h2,h3,h4,h5⟩:=h;have g1:=my h5;exact#[_,_,_,h1,h2, .cons h4 g1,by rw[<-sg (Fc "||") "||" l us [00] (bA g1)];exact h3]
 |_=>cases hc
theorem oH {F:JH}{e:Fs}{s:FC}{ops:E9 Fs}{sgs:E9 Fb}(hc:kL e=Fa (s,ops,sgs)) (ps:E9 Int) (ts:E9 dP) (sc:E9 fm) (n:FC):eJ F (.go ((e,ps)::ts) sc n)=if s<=1 then pc s ops e ps ts sc n else k9 s ops sgs e ps ts sc n:=by
 cases e<;>cases hc<;>rfl
end
theorem zy {s:FC}{ops:E9 Fs}{sgs:E9 Fb}(h:sgs[qs.length]?=FB):k9 s ops sgs e (qs++[x,y]) ts sc n=FB:=by
 unfold k9;dsimp only;rw[show(qs++[x,y]).length=qs.length+2 by simp,Fm (by lia),M9,h]
theorem uz {L:E9 String}{V:E9 Fb}{G:E9 (Fb×FC)} : ∀ {l:Qz}{op:Fb},uB L V G l->op∈zL l->op∈L.map Fc
 | .nil,_,_,h=>nomatch h
 | .cons o x l,op,w,h=>by
  unfold uB at w;rcases Fy.mp h with z|z
  .rw[z];exact w.1
  .exact uz w.2.2 z
theorem qA:(∀o∈["+","-"].map Fc,o∈GI/\o∉["==","!=","<=",">=","<",">"].map Fc/\o∈["+","-","*","/","%"].map Fc)/\(∀o∈["*","/","%"].map Fc,o∈GI/\o∉["==","!=","<=",">=","<",">"].map Fc/\o∈["+","-","*","/","%"].map Fc)/\(∀o∈["==","!=","<=",">=","<",">"].map Fc,o∈GI):=by decide+kernel
theorem yJ {s:FC}{ops:E9 Fs}{sgs:E9 Fb}{op:Fb}(w:WSx F0 e) (hc:kL e=Fa (s,ops,sgs)) (h2: ¬s<=1) (ho:op∈sgs):op∈GI/\(s=2 ↔ op∈["==","!=","<=",">=","<",">"].map Fc)/\(s≠2->op∈["+","-","*","/","%"].map Fc):=by
 obtain⟨V,G,w,_⟩:=w;cases e with
 |sums e l=>
  cases hc;unfold WS at w;have z:=qA.1 op (uz w.2.2 ho);exact#[z.1,#[(λy=>by cases y),λy=>FH y z.2.1],λ_=>z.2.2]
 |prods e l=>
  cases hc;unfold WS at w;have z:=qA.2.1 op (uz w.2.2 ho);exact#[z.1,#[(λy=>by cases y),λy=>FH y z.2.1],λ_=>z.2.2]
 |cmp o x y=>
  cases hc;unfold WS at w;rw[FN.mp ho];exact#[qA.2.2 _ w.1,#[λ_=>w.1,λ_=>rfl],λz=>FH Gc z]
 |both e l=>cases hc;exact FH (FF 1) h2
 |either e l=>cases hc;exact FH (F3 1) h2
 |_=>cases hc
section
variable {E:XK}{H:Hp}{Q:VK}
theorem wM (Y:GX X a E) (C:abl a B.M B.H s ops sgs v) (W:eW a B H c F r b ff ds (u::us) ((e,u.ps)::ts) sc n) (lt: ∀o,ops[u.ps.length]?=Fa o->oE a B c F (D.nx (Fa (.ref c.wk)::Fa v::Fa (.ref u.p)::σ)) E (j6 o ((e,u.ps)::ts) sc n)) (ge:ops[u.ps.length]?=FB->Bd X T9 D (Fa (.ref c.wk)::Fa v::Fa (.ref u.p)::σ) H)
  (hg:Gl X "len":=by rfl) (n1:X.N[1]?=Fa ("chain":FR):=by rfl) (v1:oU X.env.scope "chain":=by exact G9 Gc) (h2:(q1.endLine == q2.line)=FM:=by rfl):
  Bd X [.If (.Compare (.Call (.Name "len" p1) [.Name "parts" p2] [] p3) [.Lt] [.Call (.Name "len" p4) [.Attribute (.Name "chain" p5) "operands" p6] [] p7] p8) [.Expr (.Call (.Attribute (.Name "worker" q4) "begin" q1) [.Subscript (.Attribute (.Name "chain" q3) "operands" p9) (.Call (.Name "len" q5) [.Name "parts" q6] [] q7) q8] [] q2) q9] T9 q0] D (Fa (.ref c.wk)::Fa v::Fa (.ref u.p)::σ) H:=by
 obtain⟨oq,gq,Wo,i,⟨o,rfl,_,ho⟩,pr,_⟩:=C;have ho:=W.O.same _ _ ho;have hp:=W.O.get 5 Gc;have fl: ∀ {Q:VK},Q (.ref o) H->dC X.K "operands" Q v H:=λq=>i.fld W.O.same Y.T.Nw Y.T.MX Gc q
 refine cr (cO j8 (dJ Y hp (iA Y.T.Kj ho (ah (dR n1 v1) Gc) (λ_ q=>fl q) #[_,_,Gc,Gc,_,Gc,dA (λz=>?_) λz=>ge (IX ?_)] hg) hg) Gc)
 .rw[Fx,bA pr] at z
  have lt':u.ps.length<ops.length:=by lia
  obtain⟨w,hw,ew⟩:=js pr (Hx lt');exact fb Y (kN (cn (bB 1 (fl (dJ Y hp #[o,_,_,w,Gc,Gc,cB.of ho,by rw[Fx];exact br hw,_,_,_,W,ew,lt _ (Hx lt')] hg)) n1 v1) Gc) [002]) W h2
 .rw[Fx,bA pr] at z
  lia
end
theorem ahP (T:aW K mg a) (XC:XW K a):o4 P w K mg base a 6 a.adw a.X0 "chain" λ_ e _=> ∃s ops sgs,kL e=Fa (s,ops,sgs)/\s<=1:=by
 refine qI T XC [01] T.afe.F agB λGU A outer s H B c S F0 r b ff ds u us e ts sc n m Q E hr ho G hm g=>?_;intro X D Y;obtain⟨st,ops,sgs,hc,hs⟩:=ho;have W:=G.W;rw[oH hc,Fm hs] at hm;have C:=nD G.ev hc;obtain⟨oq,gq,Wo,i,_⟩:=id C;have fl: ∀ {Q:VK},Q (.int st) H->dC K "strength" Q u.v H:=λq=>i.fld W.O.same T.Nw T.Ld Gc q
 unfold pc at hm;refine aaU (Z:= ¬u.ps.getLast?.any (jg st)=FM) (λna=>wM Y C W (λo ho=>?_) λho=>?_) λT9=>Cj (cO gb (dJ Y G.hp (cN #[_,_,Gc,Gc,_,Gc,?_])))
 .rw[Fj na,ho] at hm
  cases hm;exact g
 .rw[Fj na,ho] at hm
  cases hm;exact dg Y W (CP cX (cN (bL (aP (cn (bB 1 (fl (cF #[st,Gc,_,_,Gc,Gc,_,_,_,_,_,_,_,Gc,W,g]))) Gc)) (ahI T) [07] T.d_T.c aQ)))
 .rcases Tx u.ps with z|⟨qs,y,z⟩
  .rw[z]
   exact bN (bN (T9 (by rw[z];exact Fd)))
  .rw[Tz] at z
   have hp:=G.hp;rw[z,Hk] at hp;rw[z,Fx,FL];refine dA (λ_=>?_) λz=>FH z (by show¬ ¬(0:Int)<((qs.length+1:FC):Int);lia)
   refine dq (bL (aP (cn (bB 1 (fl (aP (kN (bB 2 #[_,dL cK ak,_,Gc,u.p,_,_,V.int y,Gc,Gc,cB.of hp,eB _ _,cF #[st,y,Gc,_,Gc,aO (λey=>?_) λey=>T9 (by rw[z];simp [ey])]]) [002])))) Gc)) (ahH T) [07] T.ZI.c aQ);rw[z,Fm (by simp [ey])] at hm;cases hm;exact dg Y W (bL (aP (cn (bB 1 (fl (cF #[st,Gc,_,_,_,_,_,_,_,Gc,W,g]))) Gc)) (ahI T) [07] T.d_T.c aQ)
theorem rX {α:Type}(l:E9 α) (h:2<=l.length): ∃qs x y,l=qs++[x,y]:=by
 refine#[l.take (l.length-2),l[l.length-2],l[l.length-1],?_];have t1:=Tw (l.length-2) l;have t2:l.drop (l.length-2)=[l[l.length-2],l[l.length-1]]:=by
  rw[Hs (by lia),Hs (by lia),Ka (by lia)]
  congr 2
  congr 1
  lia
 rw[t2] at t1;exact t1.symm
theorem A4 {H:Hp}{Q:VK}{te:TE}(he:PE X e te) (hv: ∀R:VK,R (.ref p) H->te σ H R) (h:H p=Fa (.lst (xs++[v]))) (q:Q v (aF H p (.lst xs))) (hb:IA e "pop" X.env (eval e X.env)=eval e X.env:=by rfl) (hp:ip p1 p2:=by rfl):Pe X (.Call (.Attribute e "pop" p1) [] [] p2) σ H Q:=
 #[_,BU Jj Sb Sd Cu he hb hp,hv _ #[.inl #[Gc,_,cB.of h],p,_,v,Gc,Gc,h,by simp,by rw[Ui];exact q]]
theorem ahQ (T:aW K mg a) (XC:XW K a):o4 P w K mg base a 6 a.adx a.X2 "chain" λ_ e _=> ∃s ops sgs,kL e=Fa (s,ops,sgs)/\ ¬s<=1:=by
 refine qI T XC [01] T.aff.F agC λGU A outer s H B c S F0 r b ff ds u us e ts sc n m Q E hr ho G hm g=>?_;intro X D Y;obtain⟨st,ops,sgs,hc,hs⟩:=ho;rw[oH hc,Fj hs] at hm;have C:=nD G.ev hc;refine gj (λσ' H'=> ∃(ps:E9 Int) (y:Ft V),σ'=[Fa (.ref c.wk),Fa u.v,Fa (.ref u.p),y]/\o6 a H' B c S F0 r b ff ds { u with ps:=ps } us e ts sc n/\qM ops e ps ts sc n=Fa m) ?_ (cO gb (dJ Y G.hp (cN #[_,_,Gc,Gc,_,Gc,?_])))
 .rintro σ' H' ⟨ps,y,rfl,G',P5⟩
  refine wM (u:= { u with ps:=ps }) Y C G'.W (λo ho=>?_) λho=>?_
  .have ho:ops[ps.length]?=Fa o:=ho
   unfold qM at P5;rw[ho] at P5;cases P5;exact g
  .have ho:ops[ps.length]?=FB:=ho
   unfold qM at P5;rw[ho] at P5;obtain⟨x,hx,rfl⟩:=Gj.mp P5;obtain⟨qs,rfl⟩: ∃qs,ps=qs++[x]:=E9.getLast?_eq_some_iff.mp hx;have UQ:=G'.hp;rw[Hk] at UQ;exact dg Y G'.W (kN (bB 2 #[_,dL cK ak,_,Gc,u.p,_,_,V.int x,Gc,Gc,cB.of UQ,eB _ _,_,_,_,_,_,_,_,Gc,G'.W,g]) [002])
 .rw[Fx]
  refine dA (λz=>?_) λz=>#[u.ps,FB,Gc,G,by rw[<-hm];exact(oA (by lia)).symm];obtain⟨qs,x,y,ep⟩:=rX u.ps (by lia);have hp:H u.p=Fa (.lst ((qs++[x]).map V.int++[V.int y])):=by rw[G.hp,ep];simp
  rw[ep] at hm;cases Xs:sgs[qs.length]? with
  |none=>rw[zy Xs] at hm;cases hm
  |some op=>
   rw[sU Xs] at hm;obtain⟨o1,o2,o3⟩:=yJ G.ws hc hs (G8 Xs);have bx:dB x:=G.psB x (by simp [ep]);have bY:dB y:=G.psB y (by simp [ep]);have mem: ∀z∈qs++[x],dB z:=λz hz=>G.psB z (by rw[ep];simp only[FY,Fy,HF,or_false] at hz ⊢; rcases hz with h|h;exact .inl h;exact .inr (.inl h))
   have g1:o6 a (aF H u.p (.lst ((qs++[x]).map V.int))) B c S F0 r b ff ds { u with ps:=qs++[x] } us e ts sc n:=G.part ae mC (by simp [ep]) mem;refine aN 3 Y.nd (A4 (pv 2) [05] hp ?_)
   have Wn:=g1.hp
   have Wn:aF H u.p (.lst ((qs++[x]).map V.int)) u.p=Fa (.lst (qs.map V.int++[V.int x])):=by rw[ae,Hk];rfl
   obtain⟨oq,gq,Wo,i,_,_,⟨sq,rfl,_,hsq⟩⟩:=C;refine iN (pv 2) [05] Wn (bL (aP (kN (cn (bB 1 (i.fld g1.W.O.same T.Nw T.Od Gc (CP cX (dJ Y Wn (cN #[_,_,Gc,Gc,sq,_,_,V.str (dI op),Gc,Gc,cB.of (g1.W.O.same _ _ hsq),?_,aP (kN (bB 2 #[_,dL cK ak,_,Gc,u.p,_,_,V.int x,Gc,Gc,cB.of Wn,eB _ _,aP (bB 3 (cF #[op,st,x,y,Gc,o1,bx,bY,o2,o3,?_]))]) [002])]))))) Gc) [002])) (ahL T XC) hr T.ZO.c aA)
   .rw[FL,Fx,show(((qs.length+[V.int x].length:FC):Int)-1)=((qs.length:FC):Int) by show((qs.length+1:FC):Int)-1=_;lia]
    exact br (by rw[Gw,Xs];rfl)
   .cases hk:fO st op x y with
    |error k=>
     rw[hk] at hm;cases hm;exact λH' sm=>g H' λb o z=>sm b o (g1.W.O.same b o z)
    |ok z=>
     rw[hk] at hm;have gl:=G.len;rw[ep,FL] at gl;have gl:qs.length+2+n<=10000:=gl;intro H2 s2;refine#[_,s2 _ _ Wn,by rw[FL,Fx,Ic];show qs.length+1<_;lia,cf #[qs++[x,z],Fa (.int y),Gc,?_,hm]];refine G.part (by rw[ae];simp) (λb o e nb=>?_) (by simp [ep]) λw hw=>?_
     .rw[ac nb];exact s2 b o (mC b o e nb)
     .have hw:w∈qs++[x]\/w=z:=by
       simp only[FY,Fy,HF,or_false] at hw ⊢;rcases hw with h|h|h
       .exact .inl (.inl h)
       .exact .inl (.inr h)
       .exact .inr h
      rcases hw with hw|hw
      .exact mem w hw
      .rw[hw];exact uk hk
theorem al3 (T:aW K mg a) (XC:XW K a):o4 P w K mg base a 7 a.f_9 a.aef "chain" λ_ e _=> ∃x,kL e=Fa x:=by
 refine qI T XC [01] T.d_9.F alm λGU A outer s H B c S F0 r b ff ds u us e ts sc n m Q E hr ho G hm g=>?_;intro X D Y;obtain⟨⟨st,ops,sgs⟩,hc⟩:=ho;obtain⟨oq,gq,Wo,i,_⟩:=nD G.ev hc;refine cr #[_,a0 lA (ah (pv 1) Gc) (Cy (aa (aT (by rfl) T.Wb) (aa (aT (by rfl) T.TY) ag))) Gc,i.fld G.W.O.same T.Nw T.Ld Gc #[by show 2<=F8;decide,λt ht=>#[t,_,Gc, .inr (pH.of ae),Gc,Gc,_,Gc,?_]]];have G:=G.grow (a9 (o:= .tup [.int 0, .int 1]) ht);show if uq (.int st) [.int 0, .int 1]=FM then _ else _
 have e0:uq (.int st) [.int 0, .int 1]=decide (st<=1):=by
  show((0:Int) == (st:Int)||((1:Int) == (st:Int)||false))=_
  rw[Pc,Hd,Mt,beq_iff_eq,beq_iff_eq,Gg];lia
 rw[e0];have args: ∀ {sp:Sp}{x:FR}{k:FC}{f:Fi}{fd:Gs}{p1 p2 p3 p4 p5 p6:Pos},bU P w K mg base (fY P w) k f fd ["worker","chain","parts"] sp->bZ k X.A->CD K mg x f fd ["worker","chain","parts"]->Gl X x->(x == [003])=FS->sp [.ref c.wk,u.v, .ref u.p] (aF H t (.tup [.int 0, .int 1])) (λ_ H'=>Q .IJ H') E->Bd X [.Expr (.Call (.Name x p1) [.Name "worker" p2, .Name "chain" p3, .Name "parts" p4] [] p5) p6] D [Fa (.ref c.wk),Fa u.v,Fa (.ref u.p)] (aF H t (.tup [.int 0, .int 1])):=λG hr d hg hx q=>fk (bL (aP (bB 0 (aP (bB 1 (aP (bB 2 (cF q))))))) G hr d aA hg hx) Gc
 exact dA (λs1=>args (ahP T XC) hr T.afe.c Gc [01] (.mk Gc #[st,ops,sgs,hc,s1] G hm g)) λs1=>args (ahQ T XC) hr T.aff.c Gc [01] (.mk Gc #[st,ops,sgs,hc,s1] G hm g)
section
open Vbemac (checked)
def mt3 (e:Fs) (y:Fb) (b:Fs) (p q:Int) (acc:E9 Int) (t:FC) (r:E9 dP) (sc:E9 fm) (n:FC):Ft Mc:=if p+(t:Int)<=q then(match n with
   |0=>Fa (.err (-13))
   |n+1=>(match sc with
    |[]=>FB
    |h::tl=>Fa (j6 b ((e,p::q::acc)::r) (pj (h::tl) y (p+(t:Int))) n)))
  else Fa (eN r sc n (acc.getLast?.getD 0))
theorem vp (h:acc.length<=1):gG e y b p q acc ts sc n=mt3 e y b p q acc acc.length ts sc n:=by
 unfold gG mt3;dsimp only;rw[Fj (by lia)]
 all_goals rfl
theorem uU:gG e y b p q (acc++[x,z]) ts sc n=(match checked (x+z) 0 with
  | .error c=>Fa (.err c)
  | .ok (d,_)=>mt3 e y b p q (acc++[x,d]) (acc.length+2) ts sc n):=by
 have l: ∀d,(acc++[x,d]).length=acc.length+2:=λd=>by simp
 unfold gG mt3;dsimp only;rw[l,Fm (by lia),M9,show(acc++[x,z]).getD acc.length 0=x by simp [IP],show acc.length+2-1=acc.length+1 from Gc,show(acc++[x,z]).getD (acc.length+1) 0=z by simp [IP],
  show(acc++[x,z]).take (acc.length+1)=acc++[x] by rw[QD,Js (Li _)];simp]
 cases checked (x+z) 0 with
 |error c=>rfl
 |ok d=>
  obtain⟨d,_⟩:=d;dsimp only;rw[GG]
  rfl
theorem ahR (T:aW K mg a) (XC:XW K a):o4 P w K mg base a 6 a.adA a.X5 "summed" λ_ e ps=> ∃y lo hi x p q acc,e= .sum y lo hi x/\ps=p::q::acc:=by
 refine qI T XC [01] T.afi.F agG λGU A outer s H B c S F0 r b ff ds u us e ts sc n m Q E hr ho G hm g=>?_;intro X D Y;obtain⟨y,lo,hi,x,p0,q0,acc,rfl,ep⟩:=ho;have ev:=G.ev;unfold au at ev;obtain⟨u1,u2,u3,i,_,_,e3⟩:=ev;have hp:=G.hp;have psB:=G.psB;have gl:=G.len;rw[ep] at hm hp psB gl;have gl:acc.length+2+n<=10000:=gl;have hm:gG (.sum y lo hi x) y x p0 q0 acc ts sc n=Fa m:=hm;refine aN 3 Y.nd (CP cX (dJ Y hp (cN #[_,_,Gc,Gc,?_])));rw[Fx,show(((p0::q0::acc).length:FC):Int)-2=((acc.length:FC):Int) by rw[FA,FA];lia];refine gj (λσ' H'=> ∃(as:E9 Int) (o:Ft V),σ'=[Fa (.ref c.wk),Fa u.v,Fa (.ref u.p),Fa (.int (acc.length:FC)),o]/\as.length=acc.length/\o6 a H' B c S F0 r b ff ds { u with ps:=p0::q0::as } us (.sum y lo hi x) ts sc n/\mt3 (.sum y lo hi x) y x p0 q0 as acc.length ts sc n=Fa m) ?_ (cO gb (bB 3 (cN #[_,_,Gc,Gc,_,Gc,dA (λz0=>?_) λz0=>#[acc,FB,Gc,Gc,?_,by rw[<-hm];exact(vp (by lia)).symm]])))
 .rintro σ' H' ⟨as,o,rfl,la,G',P5⟩
  have UQ:=G'.hp
  have W:=G'.W;refine cr (cO eP (CP dX (kN (bB 2 (cN #[u.p,_,_,V.int p0,Gc,Gc,cB.of UQ,br (j:=0) Gc,bB 3 #[_,_,Gc,Gc,kN (bB 2 (cN #[u.p,_,_,V.int q0,Gc,Gc,cB.of UQ,br (j:=1) Gc,_,_,Gc,Gc,_,Gc,dA (λe0=>?_) λe0=>?_])) [002]]])) [002])))
  .unfold mt3 at P5
   rw[Fm e0] at P5;refine aR (bj (bS (pv 0) T.Ih T.V4.c (h8 T XC) [07] aA)) #[c.wk,c.dw,_,Gc,W.ins,Gc, .mk Gc W (λz=>?_) λn' z H1 W1=>?_]
   .rw[z] at P5
    cases P5;exact g H' W.O.same
   .rw[z] at P5
    have sq:=W1.sq;cases sq with
    |nil=>cases P5
    | @cons d s0 ds sc h0 sq=>
    cases P5;have bn:=W.bn.bn;exact bD #[_,cy (pv 0) T.Ih T.W3.c (ko T) [07] aQ (aa (ah (pv 1) Gc) (aa (bW dX (cM bC (pv 2) ak [002]) (pv 3)) ag)),c.wk,c.dw,_,Gc,W1.ins,Gc,i.fld W1.O.same T.PZ T.Ql Gc #[u.p,_,_,V.int p0,Gc,Gc,cB.of (W1.O.get 5 Gc),br (j:=0) Gc,_,_,Gc,Gc, .mk Gc W1 (by lia) λH2 W2=>fb Y (cn (bB 1 (i.fld W2.O.same T.PZ T.Qn Gc #[x,_,_,W2,e3,g])) Gc) W2]]
  .unfold mt3 at P5
   rw[Fj e0] at P5;cases P5;refine dg Y W #[_,df (a0 gb (pv 3) ak (aL _)) (cM bC (pv 2) (dL cK ak) [002]) ak,_,_,Gc,Gc,_,Gc,dA (λe1=>?_) λe1=>?_]
   .rcases Tx as with z|⟨qs,zz,z⟩
    .rw[z] at la;have la:0=acc.length:=la;lia
    rw[Tz] at z;subst z;have hp2:H' u.p=Fa (.lst ((p0::q0::qs).map V.int++[V.int zz])):=by rw[UQ];simp
    rw[show(qs++[zz]).getLast?.getD 0=zz by simp] at g;exact#[_,Gc,u.p,_,_,V.int zz,Gc,Gc,cB.of hp2,eB _ _,_,_,_,_,_,_,_,Gc,W,g]
   .have:as=[]:=QJ (by lia)
    subst this;exact#[_,_,_,_,_,_,_,Gc,W,g]
 .obtain⟨qs,xx,z,rfl⟩:=rX acc (by lia)
  rw[uU] at hm;have UQ:H u.p=Fa (.lst ((p0::q0::(qs++[xx])).map V.int++[V.int z])):=by rw[hp];simp
  have sub: ∀w∈p0::q0::(qs++[xx]),dB w:=λw hw=>psB w (by
   simp only[Fy,FY,HF,or_false] at hw ⊢;rcases hw with h|h|h|h
   .exact .inl h
   .exact .inr (.inl h)
   .exact .inr (.inr (.inl h))
   .exact .inr (.inr (.inr (.inl h))))
  have g1:=G.part (H':=aF H u.p (.lst ((p0::q0::(qs++[xx])).map V.int))) (ps:=p0::q0::(qs++[xx])) ae mC (by rw[ep];simp) sub
  have Wn:aF H u.p (.lst ((p0::q0::(qs++[xx])).map V.int)) u.p=Fa (.lst ((p0::q0::qs).map V.int++[V.int xx])):=by rw[ae];simp
  refine aN 4 Y.nd (A4 (pv 2) [05] UQ (iN (pv 2) [05] Wn (bL (aP (CP dX (kN (bB 2 #[_,dL cK ak,_,Gc,u.p,_,_,V.int xx,Gc,Gc,cB.of Wn,eB _ _,bB 4 #[_,_,Gc,Gc,cF #[xx+z,Gc,λhb=>?_,λhb=>?_]]]) [002]))) (ahK T XC) [07] T.d_y.c aA)))
  .rw[show checked (xx+z) 0= .ok (xx+z,0) by unfold checked;exact Fm hb] at hm
   refine#[_,Wn,by rw[FL,Fx,Ic];simp only[FA,FL,Kh] at gl ⊢; lia,cf #[qs++[xx,xx+z],Fa (.int z),Gc,by simp,?_,by rw[show(qs++[xx,z]).length=qs.length+2 by simp];exact hm]];refine G.part (by rw[ae];simp) (λb o e nb=>by rw[ac nb,ac nb];exact e) (by rw[ep];simp) λw hw=>?_;have hw:w∈p0::q0::(qs++[xx])\/w=xx+z:=by
    simp only[Fy,FY,HF,or_false] at hw ⊢;rcases hw with h|h|h|h|h
    .exact .inl (.inl h)
    .exact .inl (.inr (.inl h))
    .exact .inl (.inr (.inr (.inl h)))
    .exact .inl (.inr (.inr (.inr h)))
    .exact .inr h
   rcases hw with hw|hw
   .exact sub w hw
   .rw[hw];exact hb
  .rw[show checked (xx+z) 0= .error (-12) by unfold checked;exact Fj hb] at hm
   cases hm;exact g _ g1.W.O.same _ (.tail _ (.head _))
 .rw[<-ep];exact G
theorem ahS (T:aW K mg a) (XC:XW K a):o4 P w K mg base a 7 a.adz a.X4 "summed" λ_ e _=> ∃y lo hi x,e= .sum y lo hi x:=by
 refine qI T XC [01] T.afh.F agF λGU A outer s H B c S F0 r b ff ds u us e ts sc n m Q E hr ho G hm g=>?_;intro X D Y;obtain⟨y,lo,hi,x,rfl⟩:=ho;have W:=G.W;have ev:=G.ev;unfold au at ev;obtain⟨u1,u2,u3,i,e1,e2,_⟩:=ev;have hp:=G.hp;have hm0:=hm;refine cr (jm (dJ Y hp (cN #[_,_,Gc,Gc,?_])));rw[Fx];generalize WL:u.ps=ps at hm hp
 match ps,hm with
 |[],hm=>cases hm;exact cc (fb Y (cn (bB 1 (i.fld W.O.same T.PZ T.Pl Gc #[lo,_,_,W,e1,by rw[WL];exact g])) Gc) W)
 |[t],hm=>cases hm;exact bN (cr (jm (dJ Y hp (cN #[_,_,Gc,Gc,cc (fb Y (cn (bB 1 (i.fld W.O.same T.PZ T.Qm Gc #[hi,_,_,W,e2,by rw[WL];exact g])) Gc) W)]))))
 |p0::q0::acc,hm=>
  refine dA (λe0=>FH e0 (by rw[FA,FA];lia)) λ_=>cr (jm (dJ Y hp (cN #[_,_,Gc,Gc,?_])));rw[Fx];exact dA (λe0=>FH e0 (by rw[FA,FA];lia)) λ_=>fk (bL (aP (bB 0 (aP (bB 1 (aP (bB 2 (cF (.mk Gc #[y,lo,hi,x,p0,q0,acc,Gc,WL] G hm0 g)))))))) (ahR T XC) hr T.afi.c aA) Gc
end
theorem oo: ∀(m acc:E9 (a8×V)),(m.map λq:a8×V=>q.1).Nodup->bO (fT acc m) k=(match bO m k with
  |some v=>Fa v
  |none=>bO acc k)
 |[],acc,_=>rfl
 |p::m,acc,nd=>by
  obtain⟨n1,n2⟩:=Gk.mp nd;show bO (fT (dz acc p.1 p.2) m) k=_;rw[oo m _ n2,gB];by_cases e:p.1=k
  .have:bO m k=FB:=by
    unfold bO;rw[PH.mpr λx hx z=>n1 (by show p.1∈_;rw[e,<-F4 z];exact KN (f:=λq:a8×V=>q.1) hx)]
    rfl
   rw[this,cg e,Fm e.symm]
  .rw[b4 e,Fj (λz=>e z.symm)]
abbrev aD (ps:E9 Fb) (l:E9 Int):E9 (a8×V):=(ps.zip l).map λq=>(nk q.1, .int q.2)
theorem BQ: ∀ {ps:E9 Fb}{l:E9 Int},ps.Nodup->((aD ps l).map λq:a8×V=>q.1).Nodup
 |[],_,_=> .nil
 |_::_,[],_=> .nil
 |p::ps,x::l,nd=>by
  obtain⟨n1,n2⟩:=Gk.mp nd;refine Gk.mpr #[λhm=>?_,BQ n2];obtain⟨q,hq,e⟩:=Lr.mp hm;obtain⟨y,hy,rfl⟩:=Lr.mp hq;exact n1 ((show y.1=p from eu (JE e))▸(K6 hy).1)
theorem abm {ps:E9 Fb}{l:E9 Int}(nd:ps.Nodup) (h6:ps.length<=6) {b:FC}(hb:6<=b) (q:Fi):abk b (q,fT [] (aD ps l)) (uZ ps l):=by
 refine#[λu=>?_,?_]
 .show bO (fT [] (aD ps l)) (nk u)=_
  rw[oo _ _ (BQ nd)];have:bO (aD ps l) (nk u)=(uZ ps l u).map V.int:=by
   unfold bO uZ aD;rw[E9.find?_map,Ww,Ww]
   congr 1
   congr 1
   funext x
   exact(decide_eq_decide.mpr #[λz=>eu (JE z),λz=>by rw[z]]).trans (Gu.beq_eq_decide_eq ..).symm
  rw[this];cases uZ ps l u<;>rfl
 .refine FP (gu _ _) ?_
  simp [aD,WR];lia
theorem al4 (T:aW K mg a) (XC:XW K a):o4 P w K mg base a 7 a.f_7 a.aed "call" λ_ e _=> ∃f l,e= .call f l:=by
 refine qI T XC [01] T.d_7.F alj λGU A outer s H B c S F0 r b ff ds u us e ts sc n m Q E hr ho G hm g=>?_;intro X D Y;obtain⟨f,l,rfl⟩:=ho;have W:=G.W;have ev:=G.ev;unfold au at ev;obtain⟨_,Wo,i,⟨aq,rfl,_,h2⟩,h3⟩:=ev;have pr:=my h3;have ha:=W.O.same _ _ h2;have hp:=G.hp;have nm: ∀ {H:Hp}{Q:VK},aS B.H H->Q (.str (sb f)) H->dC K "name" Q u.v H:=λk q=>i.fld k T.QG T.Pj Gc q
 have ar: ∀ {Q:VK},Q (.ref aq) H->dC K "arguments" Q u.v H:=λq=>i.fld W.O.same T.QG T.MW Gc q
 have wf: ∀ {Q:VK},Q (.ref c.fa) H->dC K "functions" Q (.ref c.wk) H:=λq=>W.fld T T.Ky Gc q
 unfold eJ at hm;dsimp only at hm;refine aN 3 Y.nd (iA T.Kj ha (ah (pv 1) Gc) (λ_ q=>ar q) (cr (cO j8 (dJ Y hp (bB 3 #[_,_,Gc,Gc,_,Gc,?_])))));rw[Fx,bA pr];refine dA (λz=>?_) λz=>?_
 .have lt:u.ps.length<(k7 l).length:=by lia
  rw[Hx lt] at hm;cases hm;obtain⟨v,hv,ew⟩:=js pr (Hx lt);exact fb Y (kN (cn (bB 1 (ar (dJ Y hp #[aq,_,_,v,Gc,Gc,cB.of ha,by rw[Fx];exact br hv,_,_,_,W,ew,g]))) Gc) [002]) W
 .rw[IX (by lia)] at hm
  have f2:=W.fn.2 f;obtain⟨V0,G0,ws,sb0⟩:=G.ws;unfold WS at ws;obtain⟨⟨k,hk,hk2⟩,_⟩:=ws
  have FO:=G.FO.all f k (sb0 f k hk);refine cr #[_,fB (iV (dn hr) (ah (pv 1) Gc) [08]),nm W.O.same (wf #[c.fa,_,Gc,gw.k (k:=nk f) (W.O.get 3 Gc),_,Gc,?_])];cases hf:S.funs.find? λg=>g.1 == f with
  |none=>
   rw[hf] at f2 hm FO;dsimp only at f2 hm;rw[f2];refine cc ?_;split at hm
   .rename_i hl
    cases hm;rcases FO with⟨g',hg,_⟩|⟨_,hb⟩
    .cases hg
    .exact dg Y W (bL (aP (cn (bB 1 (nm W.O.same (aP (bB 2 (cF #[f,u.p,u.ps,k,Gc,hp,hb,by rw[hl,hk2],_,_,_,_,_,_,_,Gc,W,g]))))) Gc)) (ahJ T) [07] T.ZH.c aQ)
   .cases hm
  |some fu=>
   rw[hf] at f2 hm FO;dsimp only at f2 hm;obtain⟨v,f2,f3⟩:=f2;rw[f2];refine bN (cr (jm (dJ Y hp (bB 3 #[_,_,Gc,Gc,?_]))));rw[Fx];refine dA (λz=>?_) λz=>?_
   .have hl:u.ps.length=(k7 l).length:=by lia
    rw[Fm hl] at hm;cases hm;rcases FO with⟨g',hg,gl,gf⟩|⟨hg,_⟩
    .cases hg
     obtain⟨q,w,i2,⟨pq,rfl,_,h4⟩,h5⟩:=f3;have g1:=gw.k (k:=nk f) (W.O.get 3 Gc);have g1:gw H c.fa (kV (nk f)) (Fa v):=by rw[<-f2];exact g1
     have le:fu.2.1.length=u.ps.length:=by rw[gl,hl,hk2]
     have e1:(aD fu.2.1 u.ps).map (λq=>kV q.1)=gF fu.2.1:=by
      unfold gF aD;rw[JK,show((λq:a8×V=>kV q.1) ∘ λq:Fb×Int=>(nk q.1,V.int q.2))=(λp=>V.str (sb p)) ∘ Prod.fst from Gc,<-JK,E9.map_fst_zip (JM le)]
     have e2:(aD fu.2.1 u.ps).map (λq:a8×V=>q.2)=u.ps.map V.int:=by
      unfold aD;rw[JK,show((λq:a8×V=>q.2) ∘ λq:Fb×Int=>(nk q.1,V.int q.2))=V.int ∘ Prod.snd from Gc,<-JK,E9.map_snd_zip (JM le.symm)]
     refine aN 4 Y.nd #[_,jM (dn hr) [08] (ah (pv 1) Gc) [002],wf (nm W.O.same #[c.fa,v,Gc,g1,?_])];refine iN [08] (λ_ q=>W.fld T T.JQ Gc q) (W.O.get 2 Gc) #[_,uw Gc (by rfl) T.afp (by rfl) T.Wf (aa (ah (pv 4) Gc) (aa (pv 2) ag)) Gc Gc,i2.fld W.O.same T.QS T.MZ Gc #[pq,u.p,aD fu.2.1 u.ps,Gc,by rw[e1];exact cB.of (W.O.same _ _ h4),by rw[e2];exact cB.of hp,λd hd=>#[_,a9 hd _ _ (W.O.get 2 Gc),?_,?_]]]
     .rw[GK,Fx,bA W.sq,Ic]
      have:=W.bn.sl;lia
     .have W1:=W.pushS hd (a9 hd) ae (abm (l:=u.ps) gf.nd gf.le W.bn.b6 d) (by have:=G.gd.2.2;lia)
      exact fb Y (cn (bB 4 (i2.fld W1.O.same T.QS T.QT Gc #[fu.2.2,_,_,W1,h5,g])) Gc) W1
    .cases hg
   .rw[Fj (by lia)] at hm
    have sq:=W.sq;cases sq with
    |nil=>cases hm
    | @cons d s0 ds sc h0 sq=>
    obtain⟨x,hx,rfl⟩:=Gj.mp hm;have W1:=W.alX;refine bD (A4 [08] (λ_ q=>W.fld T T.JQ Gc q) W.sl1 (dg Y W1 (kN (bB 2 (bB 3 #[u.p,_,_,V.int x,Gc,Gc,cB.of (W1.O.get 5 Gc),br (by rw[Gw,hx];rfl),_,_,_,_,_,_,_,Gc,W1,g])) [002])))
inductive Nd1 (a:bf) (M:Fi->Prop) (H:Hp) (i:FC) (v:V):Prop
 |mk {C:Fi}{fs:E9 (FR×V)}(_:bF M H C fs v) (_:(yB a)[i]?=Fa C):Nd1 a M H i v
def cidx:Fs->FC
 | .num _=>0
 | .name _=>1
 | .call _ _=>2
 | .neg _=>3
 | .not _=>3
 | .pick _ _ _=>5
 | .sum _ _ _ _=>6
 |_=>4
theorem xk {a:bf}{M:Fi->Prop}{H:Hp}{e:Fs}{v:V}(h:au a M H e v):Nd1 a M H (cidx e) v:=by
 cases e<;>unfold au at h
 .exact#[h,Gc]
 .exact#[h,Gc]
 .obtain⟨_,_,h,_⟩:=h;exact#[h,Gc]
 .obtain⟨_,h,_⟩:=h;exact#[h,Gc]
 .obtain⟨_,h,_⟩:=h;exact#[h,Gc]
 .obtain⟨_,_,_,_,_,h,_⟩:=h;exact#[h,Gc]
 .obtain⟨_,_,_,_,_,h,_⟩:=h;exact#[h,Gc]
 .obtain⟨_,_,_,_,h,_⟩:=h;exact#[h,Gc]
 .obtain⟨_,_,_,_,h,_⟩:=h;exact#[h,Gc]
 .obtain⟨_,_,_,_,h,_⟩:=h;exact#[h,Gc]
 .obtain⟨_,_,_,h,_⟩:=h;exact#[h,Gc]
 .obtain⟨_,_,_,h,_⟩:=h;exact#[h,Gc]
section
variable {M:Fi->Prop}{B H:Hp}{te:TE}{R:Gu->Hp->Prop}
theorem vM (N:mh X.K a) (n:X.mg "isinstance"=FB) (h:Nd1 a M B i v) (sm:aS B H) (hj:(yB a)[j]?=Fa C) (hm:X.mg c=Fa (.ref C)) (he:PE X e te) (hv: ∀Q:VK,Q v H->te σ H Q) (q:R (decide (i=j)) H) (hg:Gl X "isinstance":=by rfl) (hc:Gl X c:=by rfl) (hx:(c == [003])=FS:=by decide) (Kq:FK [e, .Name c p2] X.env=[001]::FK [.Name c p2] X.env:=by rfl):
  Pt X (.Call (.Name "isinstance" p1) [e, .Name c p2] [] p3) σ H R:=by
 obtain @⟨C',fs,⟨p,dx,rfl,_,z⟩,hC⟩:=h;have i7:i<15:=(Gh.mp hC).1;have j7:j<15:=(Gh.mp hj).1;have k:=Gq (λl:E9 (E9 (Ft Gu))=>(l[i]?.bind λr=>r[j]?)) N.kit
 have k:HK X.K (.ref C') (.ref C)=Fa (decide (i=j)):=by simpa [hC,hj,Mw i7,Mw j7] using k
 exact dq #[_,bw kZ hg n Sr (aa he (aa (ig hc hm hx) ag) Kq) [01] [01] Kq Gc,hv _ #[_,C,_,_,Gc,(N.ty _ (G8 hC)).of (sm _ _ z),k,_,Gc,q]]
end
theorem al5 (T:aW K mg a) (XC:XW K a) (KX:mh K a):o4 P w K mg base a 8 a.f_6 a.aec "exp" λ_ _ _=>True:=by
 refine qI T XC [01] T.d_6.F ali λGU A outer s H B c S F0 r b ff ds u us e ts sc n m Q E hr _ G hm g=>?_;intro X D Y;have W:=G.W;have ev:=G.ev;have nd:=xk ev;have is: ∀ {cl:FR}{C:Fi}{A T9:E9 Stmt}{p1 p2 p3 p4 p5:Pos}(j:FC),mg cl=Fa (.ref C)->(yB a)[j]?=Fa C->Gl X cl->(cl == [003])=FS->(cidx e=j->Bd X A D [Fa (.ref c.wk),Fa u.v,Fa (.ref u.p)] H)->(cidx e≠j->Bd X T9 D [Fa (.ref c.wk),Fa u.v,Fa (.ref u.p)] H)->Bd X [.If (.Call (.Name "isinstance" p1) [.Name "exp" p2, .Name cl p3] [] p4) A T9 p5] D [Fa (.ref c.wk),Fa u.v,Fa (.ref u.p)] H:=λj hm hj hg hx yes no=>cr (vM KX T.Lh nd W.O.same hj hm (pv 1) [05] (dA yes no) (by rfl) hg hx)
 have go: ∀ {sp:Sp}{x y:FR}{k:FC}{f:Fi}{fd:Gs}{p1 p2 p3 p4 p5 p6:Pos},bU P w K mg base (fY P w) k f fd ["worker",y,"parts"] sp->k<=7->CD K mg x f fd ["worker",y,"parts"]->Gl X x->(x == [003])=FS->sp [.ref c.wk,u.v, .ref u.p] H (λ_ H'=>Q .IJ H') E->Bd X [.Expr (.Call (.Name x p1) [.Name "worker" p2, .Name "exp" p3, .Name "parts" p4] [] p5) p6] D [Fa (.ref c.wk),Fa u.v,Fa (.ref u.p)] H:=λG hk d hg hx q=>fk (bL (aP (bB 0 (aP (bB 1 (aP (bB 2 (cF q))))))) G (hr.mono hk) d aA hg hx) Gc
 refine is 0 T.Ru Gc Gc [01] (λz=>?_) λz0=>?_
 .obtain⟨x,rfl⟩: ∃x,e= .num x:=by cases e<;>first|exact#[_,Gc]|cases z
  unfold au at ev;cases hm;exact dg Y W (cn (bB 1 (ev.fld W.O.same T.PX T.NX Gc #[_,_,_,_,_,_,_,Gc,W,g])) Gc)
 refine is 1 T.Uv Gc Gc [01] (λz=>?_) λz1=>?_
 .obtain⟨x,rfl⟩: ∃x,e= .name x:=by cases e<;>first|exact#[_,Gc]|cases z
  unfold au at ev;obtain⟨y,hy,rfl⟩:=Gj.mp (show(look sc x).map (eN ts sc n)=Fa m from hm);exact dg Y W #[_,cy (pv 0) T.Ih T.ZL.c (tD T) [07] aQ (aa (ah (pv 1) Gc) ag),c.wk,c.dw,_,Gc,W.ins,Gc,ev.fld W.O.same T.RL T.Ph Gc (.mk Gc W hy #[_,_,_,_,_,_,_,Gc,W,g])]
 refine is 2 T.Uw Gc Gc [01] (λz=>go (al4 T XC) [01] T.d_7.c Gc [01] (.mk Gc ?_ G hm g)) λz2=>?_
 .cases e<;>first|exact#[_,_,Gc]|cases z
 refine is 3 T.SD Gc Gc [01] (λz=>go (al2 T XC) [01] T.d_8.c Gc [01] (.mk Gc ?_ G hm g)) λz3=>?_
 .cases e<;>first|exact#[_, .inl Gc]|exact#[_, .inr Gc]|cases z
 refine is 4 T.SE Gc Gc [01] (λz=>go (al3 T XC) [01] T.d_9.c Gc [01] (.mk Gc ?_ G hm g)) λz4=>?_
 .cases e<;>first|exact#[_,Gc]|cases z
 refine is 5 T.Rv Gc Gc [01] (λz=>go (ahO T XC) [01] T.afg.c Gc [01] (.mk Gc ?_ G hm g)) λz5=>?_
 .cases e<;>first|exact#[_,_,_,Gc]|cases z
 refine go (ahS T XC) [01] T.afh.c Gc [01] (.mk Gc ?_ G hm g);cases e<;>first|exact FH Gc z0|exact FH Gc z1|exact FH Gc z2|exact FH Gc z3|exact FH Gc z4|exact FH Gc z5|exact#[_,_,_,_,Gc]
end OS
namespace OS
open Vbemac
def ahT (S:Scope) (V:E9 Gm) (v:Env) (r:Res Int) (n:FC):Mc->Prop
 | .err c=>r= .error c
 | .go _ _ _=>False
 | .done x sc m=>r= .ok (x,m)/\m<n/\ ∃h,sc=[h]/\Ag S V v [h]
theorem EU {h:fm}(FO:gy S F0) (A:Ag S V v [h]) (w:WS V G e) (sb:Sub G F0) (hk:3*n+1<=k):HE S.funs (ahT S V v (ev k S v e n) n) (j6 e [] [h] n):=by
 refine abh FO k V v G e [] h [] n A w sb hk ?_;unfold abg;cases ev k S v e n with
 |error c=>exact Gc
 |ok x=>exact λ_ hm h A=>#[0, .here #[Gc,hm,h,Gc,A]]
end OS
namespace OS
open PySem PySem.Spec L2
open PyProof.Rows hiding St
variable {P:Ga}{w:GN}{K:Fe}{mg:FR->Ft Fh}{base:GY}{a:bf}
inductive B8 (a:bf) (vs:E9 V) (H:Hp) (Q:VK) (E:XK):Prop
 |mk {B:ug}{c:pL}{S:Ia}{F0 G:E9 (Fb×FC)}{r:V}{b:FC}{s:fm}{n k:FC}{e:Fs}{v:V}{U:E9 Fb}{en:Hq}(_:vs=[.ref c.wk,v]) (_:gy S F0) (_:WS U G e) (_:Sub G F0) (_:Ag S U en [s]) (_:xR [s]) (_:Wk a B H c S.funs r b [] [s] n) (_:au a B.M B.H e v) (_:3*n+1<=k)
  (_: ∀x,LM k S en e n= .error x-> ∀H',aS B.H H'->o8 a E H' x) (_: ∀x m,LM k S en e n= .ok (x,m)->m<n->dB x-> ∀H' b s,Ag S U en [s]->xR [s]->Wk a B H' c S.funs (.int x) b [] [s] m->Q (.int x) H'):B8 a vs H Q E
def Far (a:bf) (B:ug) (c:pL) (S:Ia) (F0:E9 (Fb×FC)) (f:Mc->Prop) (i:FC) (H:Hp):Prop:= ∃m,lN S.funs f m i/\Gd F0 m/\(match m with
 | .err _=>False
 | .go ts sc n=>ts≠[]/\ ∃r b,Wk a B H c S.funs r b ts sc n
 | .done x sc n=> ∃b,Wk a B H c S.funs (.int x) b [] sc n)
theorem pM {f:Mc->Prop}(h:lN F f (.go ts sc n) j) (ng: ∀ts sc n,¬f (.go ts sc n)): ∃m i,eJ F (.go ts sc n)=Fa m/\lN F f m i/\j=i+1:=by
 cases h with
 |here h=>exact FH h (ng ts sc n)
 |step h1 h2=>exact#[_,_,h1,h2,Gc]
theorem sS {a:bf}{f:Mc->Prop}{E:XK}{N:Hp->Prop}(ng: ∀ts sc n,¬f (.go ts sc n)) (he: ∀x,f (.err x)-> ∀H',aS B.H H'->o8 a E H' x) (hi:lN S.funs f m i) (gd:Gd F0 m) (q: ∀H,Far a B c S F0 f i H->N H):oE a B c S.funs N E m:=by
 cases m with
 |err k=>
  cases hi with
  |here h=>exact he k h
  |step h _=>cases h
 |go ts sc n=>
  refine λH' r b W=>q H' #[_,hi,gd,λz=>?_,r,b,W];obtain⟨m,_,hm,_⟩:=pM hi ng;rw[z] at hm;cases hm
 |done x sc n=>exact λH' b W=>q H' #[_,hi,gd,b,W]
theorem ui (T:aW K mg a) (XC:XW K a) (KX:mh K a):T.ZN.O P w mg base 9 (B8 a):=by
 refine fP T.ZN.F agA [03] [02];obtain @⟨B,c,S,F0,G,r,b,s,n,k,e,v,U,en,rfl,FO,ws,sb,Ag0,gs,⟨W⟩,ev0,hk,qe,qo⟩:=h;obtain⟨j,hj⟩:=EU FO Ag0 ws sb hk;generalize hf:ahT S U en (LM k S en e n) n=f at hj;have ng: ∀ts sc n,¬f (.go ts sc n):=λts sc n z=>by rw[<-hf] at z;exact z
 have he: ∀x,f (.err x)-> ∀H',aS B.H H'->o8 a E H' x:=λx z=>by rw[<-hf] at z;exact qe x z
 have gd0:Gd F0 (j6 e [] [s] n):=fz (λt ht=>nomatch ht) gs #[U,G,ws,sb] (by have:=W.bn.VB;show 1+n<=10002;lia)
 refine aR (bj (cy (pv 0) T.Ih T.W4.c (uf T XC) [07] aA (aa (pv 1) ag))) #[c.wk,c.dw,_,Gc,W.ins,Gc, .mk Gc W ev0 (sS ng he hj gd0 λH1 h1=>?_)];refine fS Jf (λi σ H=>σ=[Fa (.ref c.wk),Fa v]/\Far a B c S F0 f i H) j #[Gc,h1] ?_;rintro i σ H2 ⟨rfl,m',P5,gd,hW⟩;cases m' with
 |err k=>exact hW.elim
 |done x sc2 n2=>
  obtain⟨b2,⟨W2⟩⟩:=hW;have tk:=W2.tk;cases tk;refine cO gb (iA T.Kj W2.tl [08] (λ_ q=>W2.fld T T.IS Gc q) (cN #[_,_,Gc,Gc,_,Gc,bN ?_]));cases P5 with
  |step h _=>cases h
  |here h=>
   rw[<-hf] at h;obtain⟨h1,h2,s',rfl,A'⟩:=h;exact aM (cn (bB 0 (W2.fld T T.LH Gc (qo x n2 h1 h2 gd.1 H2 b2 s' A' gd.2.1 #[W2]))) Gc)
 |go ts sc2 n2=>
  obtain⟨ne,r2,b2,⟨W2⟩⟩:=hW;obtain⟨m3,i3,s3,h3,rfl⟩:=pM P5 ng;have tk:=W2.tk;cases tk with
  |nil=>exact FH Gc ne
  | @cons u t us ts ht tk=>
  obtain⟨e2,ps⟩:=t;obtain rfl:u.ps=ps:=ht.2;have tsk: ∀ {Q:VK},Q (.ref u.t) H2->dC K "tasks" (λx H1=>tUn (rU λi=> .int (-i)) (tC (.int 1)) [Fa (.ref c.wk),Fa v] H1 λy H2=>AZ K x y H2 Q) (.ref c.wk) H2:=λq=>W2.fld T T.IS Gc #[_,Gc,c.tl,_,_,V.ref u.t,Gc,Gc,cB.of W2.tl1,eB _ _,q]
  have h4:=W2.O.get 4 Gc;refine cO gb (iA T.Kj W2.tl [08] (λ_ q=>W2.fld T T.IS Gc q) (cN #[_,_,Gc,Gc,_,Gc,?_]))
  rw[GK,Fx,FA];refine dA (λ_=>?_) λz=>FH z (by lia);refine fk #[_,aG (al5 T XC KX) hr (by rfl) T.d_6.c aA (aa (pv 0) (aa (ah (cM bC [08] (dL cK ak) [002]) Gc) (aa (ah (cM bC [08] (dL cK ak) [002]) Gc) ag))),tsk #[u.t,_,u.d,_,u.v,Gc,h4,T.Pw,T.Qs,Gc,tsk #[u.t,_,u.d,_,V.ref u.p,Gc,h4,T.Pw,T.Nh,Gc, .mk Gc Hl #[FO,gd,W2] s3 (sS ng he h3 (DJ FO gd s3) λH3 h=>#[i3,HG _,Gc,h])]]] Gc
end OS
namespace OS
open Vbemac
def D6 (t:MS):Prop:= ∀x∈t,∀n,x.1= .num n->n<1000000000000000000
theorem D6.drop (h:D6 t) (k:FC):D6 (t.drop k):=λx hx=>h x (Uj hx)
def Po {α:Type}(p:P α) (Q:α->Prop):Prop:= ∀t a r,D6 t->p t= .ok (a,r)->Q a/\D6 r
section
variable {α β:Type}{p:P α}{Q:α->Prop}{R:β->Prop}
theorem Po.bind {f:α->P β}(h:Po p Q) (g: ∀a,Q a->Po (f a) R):Po (p>>=f) R:=by
 intro t b r nb e;have e':(match p t with
  | .error z=> .error z
  | .ok (a,s)=>f a s)=Except.ok (b,r):=by
  rw[<-e];show _=(p t>>=λx=>f x.1 x.2)
  cases p t<;>rfl
 cases z:p t with
 |error c=>rw[z] at e';cases e'
 |ok x=>
  rw[z] at e';obtain⟨q,n⟩:=h t x.1 x.2 nb z;exact g x.1 q x.2 b r n e'
theorem Po.pure {a:α}(h:Q a):Po (pure a:P α) Q:=by
 intro t b r nb e;cases e;exact#[h,nb]
theorem Po.mono {Q':α->Prop}(h:Po p Q) (g: ∀a,Q a->Q' a):Po p Q':=λt a r nb e=>#[g a (h t a r nb e).1,(h t a r nb e).2]
theorem Po.fail:Po (FJ n:P α) Q:=λt a r nb e=>by unfold FJ at e;cases e
theorem Po.ite {c:MS->Gu}{p q:P α}(h1:Po p Q) (h2:Po q Q):Po (λt=>if c t=FM then p t else q t) Q:=λt a r nb e=>by
 dsimp only at e;split at e
 .exact h1 t a r nb e
 .exact h2 t a r nb e
end
theorem dG:Po next λ_=>True:=λt a r nb e=>by unfold next at e;cases e;exact#[trivial,nb.drop 1]
theorem fV (w:String):Po (key w) λ_=>True:=λt a r nb e=>by
 unfold key at e;split at e
 .cases e;exact#[trivial,nb.drop 1]
 .unfold FJ at e;cases e
theorem bI (w:String):Po (sign w) λ_=>True:=λt a r nb e=>by
 unfold sign at e;split at e
 .cases e;exact#[trivial,nb.drop 1]
 .unfold FJ at e;cases e
theorem iY (w:String):Po (ifSign w) λ_=>True:=λt a r nb e=>by
 unfold ifSign at e;split at e
 .cases e;exact#[trivial,nb.drop 1]
 .cases e;exact#[trivial,nb]
theorem zt (d:FC):Po (deeper d) λ_=>True:=λt a r nb e=>by
 unfold deeper at e;split at e
 .unfold FJ at e;cases e
 .cases e;exact#[trivial,nb]
theorem kI (l:E9 String):Po (Lz l) λo=> ∀s,o=Fa s->s∈l.map text:=λt a r nb e=>by
 unfold Lz at e;split at e
 .split at e
  .rename_i h
   cases e;exact#[λs z=>by cases z;exact Gn.mp h,nb.drop 1]
  .cases e;exact#[λs z=>(nomatch z),nb]
 .cases e;exact#[λs z=>(nomatch z),nb]
theorem jA:Po anyName λ_=>True:=λt a r nb e=>by
 unfold anyName at e;split at e
 .split at e
  .unfold FJ at e;cases e
  .cases e;exact#[trivial,nb.drop 1]
 .unfold FJ at e;cases e
theorem dW (K:Known):Po (newName K) λx=>x∉K.values/\(∀g∈K.funs,g.1≠x):=λt a r nb e=>by
 unfold newName at e;split at e
 .cases e
 .rename_i w s h
  split at e
  .unfold FJ at e;cases e
  .rename_i hk
   cases e;unfold Known.taken at hk;rw[Mt,VV] at hk;exact#[#[λz=>hk.1 (Gn.mpr z),λg hg z=>hk.2 (LZ.mpr #[g,hg,by rw[z];exact G7 _])],(jA t _ _ nb h).2]
structure PoA (k:FC):Prop where
 expr: ∀d K,Po (expr k d K) (WS K.values K.funs)
 moreOr: ∀d K,Po (moreOr k d K) (ox K.values K.funs)
 ands: ∀d K,Po (ands k d K) (WS K.values K.funs)
 moreAnd: ∀d K,Po (moreAnd k d K) (ox K.values K.funs)
 compared: ∀d K,Po (compared k d K) (WS K.values K.funs)
 added: ∀d K,Po (added k d K) (WS K.values K.funs)
 moreAdded: ∀d K,Po (moreAdded k d K) (uB ["+","-"] K.values K.funs)
 times: ∀d K,Po (times k d K) (WS K.values K.funs)
 moreTimes: ∀d K,Po (moreTimes k d K) (uB ["*","/","%"] K.values K.funs)
 unary: ∀d K,Po (unary k d K) (WS K.values K.funs)
 primary: ∀d K,Po (primary k d K) (WS K.values K.funs)
 arguments: ∀d K n,1<=n->Po (arguments k d K n) λl=>ox K.values K.funs l/\(k7 l).length=n
theorem uC: ∀k,PoA k
 |0=>by
  refine#[?_,?_,?_,?_,?_,?_,?_,?_,?_,?_,?_,?_]<;>intros<;>first|(unfold FT;exact Po.fail)|(unfold WX;exact Po.fail)|(unfold Zi;exact Po.fail)|(unfold Wx;exact Po.fail)|(unfold VR;exact Po.fail)|(unfold XM;exact Po.fail)|(unfold Vq;exact Po.fail)|(unfold XQ;exact Po.fail)|(unfold Vr;exact Po.fail)|(unfold GS;exact Po.fail)|(unfold GL;exact Po.fail)|(unfold Qa;exact Po.fail)
 |k+1=>by
  have I:=uC k;refine#[λd K=>?_,λd K=>?_,λd K=>?_,λd K=>?_,λd K=>?_,λd K=>?_,λd K=>?_,λd K=>?_,λd K=>?_,λd K=>?_,λd K=>?_,λd K n hn=>?_]
  .unfold FT
   refine Po.ite ?_ ?_
   .refine(zt d).bind λe _=>dG.bind λ_ _=>(I.expr e K).bind λc wc=>(fV _).bind λ_ _=>(I.expr e K).bind λx wx=>(fV _).bind λ_ _=>(I.expr e K).bind λy wy=>Po.pure ?_
    unfold WS;exact#[wc,wx,wy]
   .refine(I.ands d K).bind λx wx=>(I.moreOr d K).bind λl wl=>Po.pure ?_
    cases l with
    |nil=>exact wx
    |cons y s=>dsimp only;unfold WS;exact#[wx,#[y,s,Gc],wl]
  .unfold WX
   refine(iY _).bind λm _=>?_;split
   .refine(I.ands d K).bind λx wx=>(I.moreOr d K).bind λl wl=>Po.pure ?_
    unfold ox;exact#[wx,wl]
   .refine Po.pure ?_
    unfold ox;trivial
  .unfold Zi
   refine(I.compared d K).bind λx wx=>(I.moreAnd d K).bind λl wl=>Po.pure ?_;cases l with
   |nil=>exact wx
   |cons y s=>dsimp only;unfold WS;exact#[wx,#[y,s,Gc],wl]
  .unfold Wx
   refine(iY _).bind λm _=>?_;split
   .refine(I.compared d K).bind λx wx=>(I.moreAnd d K).bind λl wl=>Po.pure ?_
    unfold ox;exact#[wx,wl]
   .refine Po.pure ?_
    unfold ox;trivial
  .unfold VR
   refine(I.added d K).bind λx wx=>(kI _).bind λs hs=>?_;cases s with
   |none=>exact Po.pure wx
   |some op=>
    refine(I.added d K).bind λy wy=>Po.pure ?_;unfold WS;exact#[hs op Gc,wx,wy]
  .unfold XM
   refine(I.times d K).bind λx wx=>(I.moreAdded d K).bind λl wl=>Po.pure ?_;cases l with
   |nil=>exact wx
   |cons op y s=>dsimp only;unfold WS;exact#[wx,#[op,y,s,Gc],wl]
  .unfold Vq
   refine(kI _).bind λs hs=>?_;cases s with
   |none=>refine Po.pure ?_;unfold uB;trivial
   |some op=>
    refine(I.times d K).bind λy wy=>(I.moreAdded d K).bind λr wr=>Po.pure ?_;unfold uB;exact#[hs op Gc,wy,wr]
  .unfold XQ
   refine(I.unary d K).bind λx wx=>(I.moreTimes d K).bind λl wl=>Po.pure ?_;cases l with
   |nil=>exact wx
   |cons op y s=>dsimp only;unfold WS;exact#[wx,#[op,y,s,Gc],wl]
  .unfold Vr
   refine(kI _).bind λs hs=>?_;cases s with
   |none=>refine Po.pure ?_;unfold uB;trivial
   |some op=>
    refine(I.unary d K).bind λy wy=>(I.moreTimes d K).bind λr wr=>Po.pure ?_;unfold uB;exact#[hs op Gc,wy,wr]
  .unfold GS
   refine Po.ite ?_ (Po.ite ?_ (I.primary d K))
   .intro t a r nb e
    dsimp only at e;split at e
    .rename_i n hn
     cases e;have nn:n<1000000000000000000:=by
      unfold peek at hn;cases z:(t.drop 1).head? with
      |none=>rw[z] at hn;cases hn
      |some y=>rw[z] at hn;exact nb y (Uj (VM z)) n hn
     exact#[by unfold WS;unfold WS;exact nn,nb.drop 2]
    .refine(show Po (deeper d>>=λe=>next>>=λ_=>GS k e K>>=λa=>pure (.neg a):P Exp) (WS K.values K.funs) from ?_) t a r nb e
     exact(zt d).bind λe _=>dG.bind λ_ _=>(I.unary e K).bind λx wx=>Po.pure (by unfold WS;exact wx)
   .exact(zt d).bind λe _=>dG.bind λ_ _=>(I.unary e K).bind λx wx=>Po.pure (by unfold WS;exact wx)
  .unfold GL
   intro t a r nb e;dsimp only at e;split at e
   .rename_i n hn
    cases e;have nn:n<1000000000000000000:=by
     unfold peek at hn;cases z:t.head? with
     |none=>rw[z] at hn;cases hn
     |some y=>rw[z] at hn;exact nb y (VM z) n hn
    exact#[by unfold WS;exact nn,nb.drop 1]
   .split at e
    .refine(show Po (deeper d>>=λe=>next>>=λ_=>FT k e K>>=λa=>sign ")">>=λ_=>pure a:P Exp) (WS K.values K.funs) from ?_) t a r nb e
     exact(zt d).bind λe _=>dG.bind λ_ _=>(I.expr e K).bind λx wx=>(bI _).bind λ_ _=>Po.pure wx
    .unfold FJ at e;cases e
   .rename_i w hw
    split at e
    .refine(show Po (deeper d>>=λe=>next>>=λ_=>sign "(">>=λ_=>newName K>>=λx=>key "in">>=λ_=>FT k e K>>=λlo=>sign "..">>=λ_=>FT k e K>>=λhi=>sign ":">>=λ_=>FT k e (K.with x)>>=λa=>sign ")">>=λ_=>pure (.sum x lo hi a):P Exp) (WS K.values K.funs) from ?_) t a r nb e
     refine(zt d).bind λe _=>dG.bind λ_ _=>(bI _).bind λ_ _=>(dW K).bind λx wx=>(fV _).bind λ_ _=>(I.expr e K).bind λlo wlo=>(bI _).bind λ_ _=>(I.expr e K).bind λhi whi=>(bI _).bind λ_ _=>(I.expr e (K.with x)).bind λy wy=>(bI _).bind λ_ _=>Po.pure ?_;unfold WS;exact#[wx.1,wlo,whi,wy]
    split at e
    .unfold FJ at e;cases e
    split at e
    .rename_i f hf
     have fw:f.1=w:=by have:=Q3 hf;exact beq_iff_eq.mp this
     refine(show Po (deeper d>>=λe=>next>>=λ_=>sign "(">>=λ_=>(if f.2=0 then(sign ")">>=λ_=>pure (.call w .nil)) else(Qa k e K f.2>>=λl=>pure (.call w l)):P Exp)) (WS K.values K.funs) from ?_) t a r nb e
     refine(zt d).bind λe _=>dG.bind λ_ _=>(bI _).bind λ_ _=>?_;split
     .rename_i h0
      refine(bI _).bind λ_ _=>Po.pure ?_;unfold WS;exact#[#[f,hf,h0.symm],by unfold ox;trivial]
     .rename_i h0
      refine(I.arguments e K f.2 (by lia)).bind λl wl=>Po.pure ?_;unfold WS;exact#[#[f,hf,wl.2],wl.1]
    .split at e
     .rename_i hv
      cases e;exact#[by unfold WS;exact Gn.mp hv,nb.drop 1]
     .unfold FJ at e;cases e
   .unfold FJ at e;cases e
  .unfold Qa
   refine Po.ite Po.fail ((I.expr d K).bind λx wx=>?_);split
   .rename_i h1
    refine Po.ite Po.fail ((bI _).bind λ_ _=>Po.pure ?_);refine#[by unfold ox;exact#[wx,by unfold ox;trivial],?_];show 1=n;lia
   .rename_i h1
    refine Po.ite Po.fail ((bI _).bind λ_ _=>(I.arguments d K (n-1) (by lia)).bind λl wl=>Po.pure ?_);refine#[by unfold ox;exact#[wx,wl.1],?_];show(k7 l).length+1=n;rw[wl.2];lia
end OS
namespace OS
open Vbemac
theorem tM: ∀(w:Gm) (n k:FC),(∀c∈w,digit c=FM)->n<10 ^ k->w.foldl (λn c=>10*n+(c.toNat-48)) n<10 ^ (k+w.length)
 |[],n,k,_,h=>h
 |c::w,n,k,hd,h=>by
  rw[E9.foldl_cons];have hc:c.toNat<=57:=by
   have:=hd c (Fq ..);unfold digit at this;rw[GR,Gg,Gg] at this;exact Jc.le_iff_toNat_le.mp this.2
  have z:=tM w (10*n+(c.toNat-48)) (k+1) (λx hx=>hd x (Fp _ hx)) (by rw[FC.pow_succ];lia)
  rw[show k+(c::w).length=k+1+w.length by rw[FA];lia];exact z
theorem tN: ∀(l:Gm),∀c∈l.takeWhile digit,digit c=FM
 |[],_,h=>nomatch h
 |x::l,c,h=>by
  rw[JU] at h;split at h
  .rename_i hx
   rcases Fy.mp h with z|z
   .rw[z];exact hx
   .exact tN l c z
  .cases h
theorem ly: ∀(k:FC) (p:Pos) (b:Gm),D6 (lex k p b)
 |0,p,b=>by intro x hx n e;unfold lex at hx;rw[FN.mp hx] at e;cases e
 |k+1,p,[]=>by intro x hx n e;unfold lex at hx;rw[FN.mp hx] at e;cases e
 |k+1,p,c::r=>by
  have one: ∀ {y:Tok}{t:MS},(∀n,y= .num n->n<1000000000000000000)->D6 t->D6 ((y,p)::t):=λh1 h2 x hx n e=>by
   rcases Fy.mp hx with z|z
   .rw[z] at e;exact h1 n e
   .exact h2 x z n e
  have nil:D6 []:=λx hx=>nomatch hx
  unfold lex;split
  .exact ly k _ _
  split
  .exact ly k _ _
  split
  .dsimp only
   split
   .exact one (λn e=>nomatch e) nil
   .exact one (λn e=>nomatch e) (ly k _ _)
  split
  .dsimp only
   split
   .exact one (λn e=>nomatch e) nil
   .rename_i h
    refine one (λn e=>?_) (ly k _ _);cases e;have z:=tM ((c::r).takeWhile digit) 0 0 (tN _) [01];rw[VV] at h;exact F5 z (FC.pow_le_pow_right [01] (show 0+((c::r).takeWhile digit).length<=18 by lia))
  .split
   .exact one (λn e=>nomatch e) (ly k _ _)
   .exact one (λn e=>nomatch e) nil
end OS
namespace OS
open Vbemac
def bnd (V:E9 Gm):Stmt->E9 Gm
 | .bind x _=>x::V
 |_=>V
mutual
def WT:FC->E9 Gm->E9 (Gm×FC)->Stmt->Prop
 |_,V,F, .bind x e=>x∉V/\WS V F e
 |d,V,F, .loop x lo hi l=>x∉V/\WS V F lo/\WS V F hi/\1<=d/\zI (d-1) (x::V) F l
 |d,V,F, .cond c a b=>WS V F c/\1<=d/\zI (d-1) V F a/\zI (d-1) V F b
 |_,V,F, .step _ z q p top am=>WS V F z/\WS V F q/\WS V F p/\(∀e,top=Fa e->WS V F e)/\WS V F am
 |_,V,F, .block _ _ z p x am _ g=>x∉V/\WS V F z/\WS V F p/\WS (x::V) F am/\ ∀e,g=Fa e->WS V F e
def zI:FC->E9 Gm->E9 (Gm×FC)->Stmts->Prop
 |_,_,_, .nil=>True
 |d,V,F, .cons s l=>WT d V F s/\zI d (bnd V s) F l
end
def wV:E9 Gm->E9 (Gm×FC)->Sheet->Prop
 |_,_,[]=>True
 |V,F, .const x e::r=>x∉V/\WS V F e/\wV (x::V) F r
 |V,F, .func x ps e::r=>F.length<=8/\(∀g∈F,g.1≠x)/\ps.Nodup/\ps.length<=6/\WS (ps++V) F e/\wV V ((x,ps.length)::F) r
 |V,F, .desk _ l::r=>zI 6 V F l/\wV V F r
theorem xA:Po side λ_=>True:=λt a r nb e=>by
 unfold side at e;split at e
 .cases e;exact#[trivial,nb.drop 1]
 split at e
 .cases e;exact#[trivial,nb.drop 1]
 .unfold FJ at e;cases e
theorem Aw (w:String):Po (ifKey w) λ_=>True:=λt a r nb e=>by
 unfold ifKey at e;split at e
 .cases e;exact#[trivial,nb.drop 1]
 .cases e;exact#[trivial,nb]
theorem kQ {α:Type}(w:String) {p:P α}{Q:α->Prop}(h:Po p Q):Po (behind w p) λo=> ∀a,o=Fa a->Q a:=λt a r nb e=>by
 unfold behind at e;split at e
 .split at e
  .cases e
  .rename_i x s z
   cases e;have:=h _ _ _ (nb.drop 1) z;exact#[λa z=>by cases z;exact this.1,this.2]
 .cases e;exact#[nofun,nb]
theorem sK {f:Gm->Gu} :Po (λt=>match anyName t with
  | .error e=> .error e
  | .ok (w,r)=>if f w=b then fail n t else .ok (w,r):P Gm) λ_=>True:=λt a r nb e=>by
 dsimp only at e;split at e
 .cases e
 .rename_i w s h
  split at e
  .unfold FJ at e;cases e
  .cases e;exact#[trivial,(jA t _ _ nb h).2]
theorem BX (B:Blocks):Po (knownBlock B) λ_=>True:=λt a r nb e=>by
 unfold knownBlock at e;split at e
 .cases e
 .rename_i w s h
  split at e
  .cases e;exact#[trivial,(jA t _ _ nb h).2]
  .unfold FJ at e;cases e
theorem Cf (B:Blocks):Po (maybeName B) λ_=>True:=λt a r nb e=>by
 unfold maybeName at e;split at e
 .cases e;exact#[trivial,nb]
 .split at e
  .cases e
  .rename_i w s h
   cases e;exact#[trivial,(sK (f:=λw=>B.contains w) (n:=4) (b:=FM) t _ _ nb h).2]
theorem xa (d:FC):Po (deeper d) λe=>e=d-1/\1<=d:=λt a r nb e=>by
 unfold deeper at e;split at e
 .unfold FJ at e;cases e
 .cases e;exact#[#[Gc,by lia],nb]
abbrev StQ (d:FC) (K:Known) (r:Stmt×Known×Blocks):Prop:=WT d K.values K.funs r.1/\r.2.1.values=bnd K.values r.1/\r.2.1.funs=K.funs
theorem gS: ∀k d K B,Po (stmts k d K B) (λr=>zI d K.values K.funs r.1)/\Po (stmt k d K B) (StQ d K)
 |0,d,K,B=>#[by unfold stmts;exact Po.fail,by unfold stmt;exact Po.fail]
 |k+1,d,K,B=>by
  have E:=(uC k).expr;constructor
  .unfold stmts
   refine Po.ite (λt a r nb e=>by cases e;exact#[by unfold zI;trivial,nb.drop 1]) ((gS k d K B).2.bind λs hs=>(gS k d s.2.1 s.2.2).1.bind λl hl=>Po.pure ?_)
   .unfold zI
    rw[hs.2.1,hs.2.2] at hl;exact#[hs.1,hl]
  .unfold stmt
   refine Po.ite ?_ (Po.ite ?_ (Po.ite ?_ (Po.ite ?_ ?_)))
   .refine dG.bind λ_ _=>(dW K).bind λx hx=>(bI _).bind λ_ _=>(E DEEP K).bind λe he=>(bI _).bind λ_ _=>Po.pure #[?_,Gc,Gc]
    unfold WT;exact#[hx.1,he]
   .refine(xa d).bind λn hn=>dG.bind λ_ _=>(dW K).bind λx hx=>(fV _).bind λ_ _=>(E DEEP K).bind λlo hlo=>(bI _).bind λ_ _=>(E DEEP K).bind λhi hhi=>(bI _).bind λ_ _=>(gS k n (K.with x) B).1.bind λl hl=>Po.pure #[?_,Gc,Gc]
    unfold WT;rw[hn.1] at hl;exact#[hx.1,hlo,hhi,hn.2,hl]
   .refine(xa d).bind λn hn=>dG.bind λ_ _=>(E DEEP K).bind λc hc=>(bI _).bind λ_ _=>(gS k n K B).1.bind λx hx=>(Aw _).bind λm _=>?_
    rw[hn.1] at hx;split
    .refine(bI _).bind λ_ _=>(gS k n K x.2).1.bind λy hy=>Po.pure #[?_,Gc,Gc]
     unfold WT;rw[hn.1] at hy;exact#[hc,hn.2,hx,hy]
    .refine Po.pure #[?_,Gc,Gc]
     unfold WT;exact#[hc,hn.2,hx,by unfold zI;trivial]
   .refine dG.bind λ_ _=>(Cf B).bind λm _=>xA.bind λ_ _=>(fV _).bind λ_ _=>(E DEEP K).bind λz hz=>(fV _).bind λ_ _=>(E DEEP K).bind λp hp=>(fV _).bind λ_ _=>(dW K).bind λx hx=>(bI _).bind λ_ _=>(E DEEP (K.with x)).bind λq hq=>(kQ _ (BX B)).bind λ_ _=>(kQ _ (E DEEP K)).bind λg hg=>(bI _).bind λ_ _=>Po.pure #[?_,Gc,Gc]
    unfold WT;exact#[hx.1,hz,hp,hq,hg]
   .refine xA.bind λ_ _=>(fV _).bind λ_ _=>(E DEEP K).bind λz hz=>(fV _).bind λ_ _=>(E DEEP K).bind λq hq=>(fV _).bind λ_ _=>(E DEEP K).bind λp hp=>(kQ _ (E DEEP K)).bind λtop ht=>(fV _).bind λ_ _=>(E DEEP K).bind λam ha=>(bI _).bind λ_ _=>Po.pure #[?_,Gc,Gc]
    unfold WT;exact#[hz,hq,hp,ht,ha]
theorem Po.itp {α:Type}{Q:α->Prop}{c:MS->Prop} [∀t,Decidable (c t)] {p q:P α}(h1:Po p Q) (h2:Po q Q):Po (λt=>if c t then p t else q t) Q:=λt a r nb e=>by
 dsimp only at e;split at e
 .exact h1 t a r nb e
 .exact h2 t a r nb e
theorem Po.itd {α:Type}{Q:α->Prop}{c:Prop} [Decidable c] {p q:P α}(h1:c->Po p Q) (h2: ¬c->Po q Q):Po (λt=>if c then p t else q t) Q:=λt a r nb e=>by
 dsimp only at e;split at e
 .rename_i h;exact h1 h t a r nb e
 .rename_i h;exact h2 h t a r nb e
theorem qk: ∀k n K,Po (params k n K) λps=>ps.Nodup/\ps.length<=n/\ ∀p∈ps,p∉K.values
 |0,n,K=>by unfold params;exact Po.fail
 |k+1,0,K=>by
  unfold params;intro t a r nb e;dsimp only at e;rw[Fm Gc] at e;unfold FJ at e;cases e
 |k+1,n+1,K=>by
  unfold params;refine Po.itp (c:=λ_=>n+1=0) Po.fail ((dW K).bind λx hx=>(iY _).bind λm _=>?_);split
  .refine(qk k n (K.with x)).bind λl hl=>Po.pure #[Gk.mpr #[λz=>hl.2.2 x z Fq,hl.1],Hi hl.2.1,λp hp=>?_]
   rcases Fy.mp hp with z|z
   .rw[z];exact hx.1
   .exact λy=>hl.2.2 p z (Fp _ y)
  .refine(bI _).bind λ_ _=>Po.pure #[Gk.mpr #[nofun, .nil],Hi (F3 _),λp hp=>?_]
   rw[FN.mp hp];exact hx.1
theorem ms: ∀k K n D,K.funs.length+n=9->Po (tops k K n D) (wV K.values K.funs)
 |0,K,n,D,_=>by unfold tops;exact Po.fail
 |k+1,K,n,D,hn=>by
  have E:=(uC k).expr;unfold tops;refine Po.itp (c:=λt=>peek t= .eof) (λt a r nb e=>by cases e;exact#[by unfold wV;trivial,nb]) (Po.ite ?_ (Po.ite (Po.itd (c:=n=0) (λ_=>Po.fail) λn0=>?_) (Po.ite ?_ Po.fail)))
  .refine dG.bind λ_ _=>(dW K).bind λx hx=>(bI _).bind λ_ _=>(E DEEP K).bind λe he=>(bI _).bind λ_ _=>(ms k (K.with x) n D hn).bind λl hl=>Po.pure ?_
   unfold wV;exact#[hx.1,he,hl]
  .refine dG.bind λ_ _=>(dW K).bind λx hx=>(bI _).bind λ_ _=>(iY _).bind λm _=>(show Po (if m=FM then give [] else params k PARAMS (K.with x)) (λps=>ps.Nodup/\ps.length<=6) by
     split
     .exact Po.pure #[.nil,F3 _]
     .exact(qk k PARAMS (K.with x)).mono λ_ z=>#[z.1,z.2.1]).bind λps hp=>(bI _).bind λ_ _=>(E DEEP { K with values:=ps++K.values }).bind λe he=>(bI _).bind λ_ _=>(ms k { K with funs:=(x,ps.length)::K.funs } (n-1) D (by show K.funs.length+1+(n-1)=9;lia)).bind λl hl=>Po.pure ?_
   unfold wV;exact#[by lia,hx.2,hp.1,hp.2,he,hl]
  .refine dG.bind λ_ _=>(sK (f:=λw=>D.contains w) (n:=4) (b:=FM)).bind λx _=>(bI _).bind λ_ _=>(gS k NEST K []).1.bind λl hl=>(ms k K n (x::D) hn).bind λr hr=>Po.pure ?_
   unfold wV;exact#[hl,hr]
end OS
namespace OS
open PySem PySem.Spec L2
open PyProof.Rows hiding St
variable {P:Ga}{w:GN}{K:Fe}{mg:FR->Ft Fh}{base:GY}{a:bf}
theorem Ow.bas {B H:Hp}{o:HO}(O:Ow B L H) (h:B p≠FB\/H p=FB):Ow (aF B p o) L (aF H p o):=by
 refine#[λb u e=>?_,λx hx=>?_,O.nd]
 .by_cases hb:b=p
  .rw[hb,ae] at e ⊢; exact e
  .rw[ac hb] at e ⊢; exact O.same b u e
 .have h1:=O.at_ x hx
  have ne:x.1≠p:=λz=>by
   rcases h with h|h
   .exact h (by rw[<-z];exact h1.2)
   .rw[<-z,h1.1] at h;cases h
  rw[ac ne,ac ne];exact h1
theorem fj.up {a:bf}{M:Fi->Prop}{H:Hp}{o:HO}{x:Ho}{v:V}(m:M p) (h:fj a M H x v):fj a M (aF H p o) x v:=fj.HV (λb u e n=>#[n,by rw[ac λz=>n (by rw[z];exact m)];exact e]) x h
theorem DE.up {a:bf}{M:Fi->Prop}{B:Hp}{o:HO}(m:M p) (h:DE a #[M,B] F ff):DE a #[M,aF B p o] F ff:=by
 refine#[h.1,λf=>?_];have:=h.2 f;split
 .rename_i g hg
  rw[hg] at this;obtain⟨v,h1,h2⟩:=this;exact#[v,h1,h2.up m]
 .rename_i hg
  rw[hg] at this;exact this
abbrev Cv (b:Gu):V:= .int (O7 b)
def abn:Ft FC->V
 |some k=> .int (k:FC)
 |none=> .int (-1)
abbrev E8 (H:Hp) (C:Fi) (fs:E9 (FR×V)) (v:V):Prop:=bF (λ_=>False) H C fs v
def iO (a:bf) (ol:Fi) (H:Hp) (v:V):GC->Prop
 | .step d z t b p q am=>E8 H a.Hz [("desk", .int d),("zone", .int z),("quarter", .int t),("side",Cv b),("low", .int p),("high", .int q),("amount", .int am)] v
 | .block d z b p g u l=> ∃q,q≠ol/\E8 H a.HB [("desk", .int d),("zone", .int z),("side",Cv b),("price", .int p),("group", .int g),("parent",abn u),("amounts", .ref q)] v/\H q=Fa (.lst (l.map V.int))/\l.length<=4
abbrev pL.at_ (c:pL) (z:FC):pL:=#[c.wk,c.dw,c.fa,c.sl,c.tl,z]
structure Zx where
 a:bf
 E:XK
 x:Fi
 dx:Fi
 m:Fi
 dm:Fi
 ol:Fi
 c:pL
 N:Hp
 K:Kd
 S:Ia
 F0:E9 (Fb×FC)
 d:Int
abbrev Zx.M (Z:Zx):Fi->Prop:=λp=>Z.N p=FB
abbrev xF (m w o:Fi) (d:Int) (nd:Fi):E9 (FR×V):=[("market", .ref m),("worker", .ref w),("orders", .ref o),("desk", .int d),("named", .ref nd)]
abbrev mF (K:Kd):E9 (FR×V):=[("zones", .int K.zones),("quarters", .int K.quarters),("low", .int K.lo),("high", .int K.hi)]
structure EB (Z:Zx) (B:Hp) (w:Gy) (nd:Fi) (kk:E9 (a8×V)) (os:E9 V):Prop where
 sm:aS Z.N B
 hx:B Z.x=Fa (.ins Z.a.Gr Z.dx (xF Z.m Z.c.wk Z.ol Z.d nd))
 hm:B Z.m=Fa (.ins Z.a.J7 Z.dm (mF Z.K))
 ho:B Z.ol=Fa (.lst os)
 hn:B nd=Fa (.dK kk)
 nx:Z.N Z.x=FB/\Z.N Z.ol=FB/\Z.N nd=FB
 po:Paired (λv o=>iO Z.a Z.ol B v o) os w.orders
 le:w.orders.length<=48
 pn: ∀u,bO kk (nk u)=(w.names.find? λa=>a.1 == u).map λa=>V.int (a.2:FC)
 ln:kk.length<=w.names.length
 nl:w.names.length<=w.orders.length
 q4:Z.K.quarters<=4
inductive cP (Z:Zx) (j:FC) (B H:Hp) (U:E9 Fb) (en:Hq) (w:Gy) (n:FC):Prop
 |mk {r:V}{b:FC}{ff:E9 (a8×V)}{d:rL}{s:fm}{nd:Fi}{kk:E9 (a8×V)}{os:E9 V}(FO:gy Z.S Z.F0) (W:eW Z.a ⟨Z.M,B⟩ H (Z.c.at_ (60000-j)) Z.S.funs r b ff [d] [] [] [s] n) (A:Ag Z.S U en [s]) (gs:xR [s]) (eb:EB Z B w nd kk os) (hj:j<=50000):cP Z j B H U en w n
inductive ES (Z:Zx) (j:FC) (H:Hp) (U:E9 Fb) (en:Hq) (w:Gy) (n:FC):Prop
 |mk {B:Hp}(_:cP Z j B H U en w n):ES Z j H U en w n
abbrev Qe (Z:Zx) (c:Int):Prop:= ∀H',aS Z.N H'->o8 Z.a Z.E H' c
structure EX (X:Cx) (a:bf) (E:XK):Prop where
 T:aW X.K X.mg a
 C:XW X.K a
 KX:mh X.K a
 hr:bZ 9 X.A
 up:dh (fY X.prog X.w) X E
section
variable {X:Cx}{Z:Zx}{i j n m k:FC}{B H H':Hp}{U:E9 Fb}{en:Hq}{w:Gy}{σ:L2.St}{Q:VK}{o e f:HH}{to te tf:TE}{v:V}{x:Fs}{y:Fb}{z:Int}{p1 p2 p3 p4:Pos}
theorem eW.zz {a:bf}{B:ug}(W:eW a B H c F r b ff ds us ts sc n) (h:b+5*n<=z') (h':z'<=60000):eW a B H (c.at_ z') F r b ff ds us ts sc n:=#[W.O,W.fn,W.sq,W.tk,W.bn.VB,W.bn.tl,W.bn.sl,W.bn.b6,h,h']
theorem cP.same (R:cP Z j B H U en w n):aS Z.N H:=by
 obtain⟨_,W,_,_,eb,_⟩:=R;exact λb o e=>W.O.same b o (eb.sm b o e)
theorem cP.less (R:cP Z i B H U en w n) (h:j<=i):cP Z j B H U en w n:=by
 obtain⟨FO,W,A,gs,eb,hj⟩:=R;exact#[FO,W.zz (by have:_<=60000-i:=W.bn.bn;lia) (by lia),A,gs,eb,by lia]
theorem cP.unset {B0 H0:Hp}(R:cP Z j B H (y::U) ((y,z)::en) w n) (ny:y∉U) (R0:cP Z j0 B0 H0 U en w0 n0):cP Z j B H U en w n:=by
 obtain⟨FO,W,A,gs,eb,hj⟩:=R;obtain⟨_,_,A0,_,_,_⟩:=R0;exact#[FO,W,A.unset ny A0.big λ_=>A0.low Gc,gs,eb,hj]
theorem cP.wk (R:cP Z j B H U en w n) (T:aW X.K X.mg Z.a) (q:Q (.ref Z.c.wk) H):dC X.K "worker" Q (.ref Z.x) H:=by
 obtain⟨_,W,_,_,eb,_⟩:=R;exact#[Z.x,_,Z.dx,_,_,Gc,W.O.same _ _ eb.hx,T.HI,T.Mo,Gc,q]
theorem nP (Y:EX X Z.a Z.E) (R:cP Z j B H U en w n) (ho:PE X o to) (hvo: ∀Q:VK,Q (.ref Z.c.wk) H->to σ H Q) (he:PE X e te) (hv: ∀Q:VK,Q v H->te σ H Q) (ex:au Z.a Z.M Z.N x v) (ws:WS U Z.F0 x) (hk:3*n+1<=k) (er: ∀c,LM k Z.S en x n= .error c->Qe Z c) (q: ∀y m H',LM k Z.S en x n= .ok (y,m)->m<n->dB y->cP Z j B H' U en w m->Q (.int y) H')
  (Kq:FK [e] X.env=[[001]]) (ht:eval (.Call (.Attribute o "work_out" p2) [e] [] p4) X.env=(do
   let ov<-eval o X.env
   standAt p2.atName
   let (f,first)<-holding [ov] (K7 ov "work_out" (do return (<-PQ o X.env).getD FM))
   NN p4 f first (IV p4 (FK [e] X.env)) (KR p4 (Jq [] X.env)))):Pe X (.Call (.Attribute o "work_out" p2) [e] [] p4) σ H Q:=by
 obtain @⟨r,b,ff,d,s,nd,kk,os,FO,W,A,gs,eb,hj⟩:=R;refine#[_,cy ho Y.T.Ih Y.T.ZN.c (ui Y.T Y.C Y.KX) Y.hr Y.up (aa he ag Kq) Kq Gc ht,hvo _ #[Z.c.wk,Z.c.dw,_,Gc,W.ins,Gc,hv _ (.mk (B:=#[Z.M,B]) (c:=Z.c.at_ (60000-j)) Gc FO ws (λ_ _ h=>h) A gs #[W] (au.HV (λb o e m=>#[m,eb.sm b o e]) x ex) hk (λc h H' s'=>er c h H' λb o e=>s' b o (eb.sm b o e)) λy m h hm hb H' b' s' A' gs' W'=>?_)]];obtain @⟨ff',ds',Wo,W'⟩:=W';have sq:=W'.sq;have tk:=W'.tk;cases tk;cases sq with
 |cons h1 h2=>cases h2;exact q y m H' h hm hb #[FO,W',A',gs',eb,hj]
theorem uY (Y:EX X Z.a Z.E) (R:cP Z j B H U en w n) (ho:PE X o to) (hvo: ∀Q:VK,Q (.ref Z.c.wk) H->to σ H Q) (j5:j+5<=50000) (er:n=0->Qe Z (-13)) (q: ∀m H',n=m+1->cP Z (j+5) B H' U en w m->Q .IJ H')
  (ht:eval (.Call (.Attribute o "take_step" p2) [] [] p4) X.env=(do
   let ov<-eval o X.env
   standAt p2.atName
   let (f,first)<-holding [ov] (K7 ov "take_step" (do return (<-PQ o X.env).getD FM))
   NN p4 f first (IV p4 (FK [] X.env)) (KR p4 (Jq [] X.env)))):Pe X (.Call (.Attribute o "take_step" p2) [] [] p4) σ H Q:=by
 obtain @⟨r,b,ff,d,s,nd,kk,os,FO,W,A,gs,eb,hj⟩:=R;refine#[_,bS ho Y.T.Ih Y.T.V4.c (h8 Y.T Y.C) (Y.hr.mono [01]) Y.up ht,hvo _ #[Z.c.wk,Z.c.dw,_,Gc,W.ins,Gc, .mk (c:=Z.c.at_ (60000-j)) Gc W (λz=>er z H λb o e=>W.O.same b o (eb.sm b o e)) λm hm H' W'=>q m H' hm #[FO,W'.zz ?_ (by lia),A,gs,eb,j5]]];have:b+5*n<=60000-j:=W.bn.bn;lia
theorem vz (Y:EX X Z.a Z.E) (R:cP Z (j+1) B H U en w n) (ho:PE X o to) (hvo: ∀Q:VK,Q (.ref Z.c.wk) H->to σ H Q) (he:PE X e te) (hv: ∀Q:VK,Q (.str (sb y)) H->te σ H Q) (q:Pe X f σ H λu H'=> ∃(B':Hp) (z:Int) (w':Gy) (n':FC),u= .int z/\cP Z (j+1) B' H' U en w' n'/\y∉U/\dB z/\ ∀H2,cP Z j B' H2 (y::U) ((y,z)::en) w' n'->Q .IJ H2)
  (Kq:FK [e,f] X.env=[[001],(FS,eval f X.env)]) (UA:FK [f] X.env=[(FS,eval f X.env)]) (ht:eval (.Call (.Attribute o "set_value" p2) [e,f] [] p4) X.env=(do
   let ov<-eval o X.env
   standAt p2.atName
   let (g,first)<-holding [ov] (K7 ov "set_value" (do return (<-PQ o X.env).getD FM))
   NN p4 g first (IV p4 (FK [e,f] X.env)) (KR p4 (Jq [] X.env)))):Pe X (.Call (.Attribute o "set_value" p2) [e,f] [] p4) σ H Q:=by
 obtain @⟨r,b,ff,d,s,nd,kk,os,FO,W,A,gs,eb,hj⟩:=R;refine#[_,cy ho Y.T.Ih Y.T.W3.c (ko Y.T) (Y.hr.mono [01]) aQ (aa he (aa du ag UA) (by rw[Kq,UA])) (by rw[Kq,UA]) (by rw[UA];rfl) ht,hvo _ #[Z.c.wk,Z.c.dw,_,Gc,W.ins,Gc,hv _ (q.mono λu H' ⟨B',z,w',n',hu,R',ny,bz,k⟩=>?_)]];obtain @⟨r,b,ff,d,s,nd,kk,os,FO,W,A,gs,eb,hj⟩:=R';subst hu;have bn:b+5*n'<=60000-(j+1):=W.bn.bn;exact .mk (c:=Z.c.at_ (60000-j)) Gc (W.zz (c:=Z.c.at_ _) (by lia) (by lia)) (show b+1+5*n'<=60000-j by lia) λH2 W2=>k H2 #[FO,W2,A.set ny bz,AG gs bz,eb,by lia]
end
theorem ahU {X:Cx}{σ:L2.St}{H:Hp}{R:Gu->Hp->Prop}{t1 t2 t3:TE}{lo x hi:Int}(h1:PE X e1 t1) (h2:PE X e2 t2) (h3:PE X e3 t3) (v1: ∀Q:VK,Q (.int lo) H->t1 σ H Q) (v2: ∀Q:VK,Q (.int x) H->t2 σ H Q) (v3: ∀Q:VK,Q (.int hi) H->t3 σ H Q) (q:R (FI x lo hi) H) (hm:Vo [.LtE, .LtE] [e2,e3]=FS:=by with_unfolding_all rfl):
  Pt X (.Compare e1 [.LtE, .LtE] [e2,e3] p) σ H R:=by
 refine#[_,Ct eP eP h1 h2 h3 hm,v1 _ (v2 _ #[_,_,Gc,Gc,_,Gc,?_])];unfold FI at q;by_cases h:lo<=x
 .rw[GJ h,Je] at q
  rw[GJ h];exact cc (v3 _ #[_,_,Gc,Gc,_,Gc,q])
 .rw[Gb h,Jk] at q
  rw[Gb h];exact bN #[_,Gc,q]
inductive xJ (a:bf) (vs:E9 V) (H:Hp) (Q:VK) (E:XK):Prop
 |mk (x lo hi:Int) (_:vs=[.int x, .int lo, .int hi]) (_:FI x lo hi=FS->o8 a E H (-14)) (_:FI x lo hi=FM->Q .IJ H):xJ a vs H Q E
theorem ahV (T:aW K mg a) (XC:XW K a):T.ZR.O P w base 4 (xJ a):=by
 refine fP T.ZR.F agM [03] [02];obtain⟨x,lo,hi,rfl,h1,h2⟩:=h;refine bH (jn (ahU (pv 1) (pv 0) (pv 2) [05] [05] [05] ?_));cases e:FI x lo hi with
 |true=>exact bN (cf (h2 e))
 |false=>exact cc (aR (eX eF XC.NT (jC T XC) hr (by rfl) T.OK T.ZD.c.b) #[F3 _,_,#[Gc,Gc],h1 e _ (.tail _ (.tail _ (.tail _ (.head _))))])
theorem Ow.ahW {B H H':Hp}{p:Fi}{o:HO}(O:Ow B L H) (k:aS H H') (h:H p=FB) (e:H' p=Fa o):Ow (aF B p o) L H':=by
 refine#[λb u z=>?_,λx hx=>?_,O.nd]
 .by_cases hb:b=p
  .rw[hb,ae] at z;rw[hb,e];exact z
  .rw[ac hb] at z;exact k _ _ (O.same b u z)
 .have h1:=O.at_ x hx
  have ne:x.1≠p:=ai h1.1 h;rw[ac ne];exact#[k _ _ h1.1,h1.2]
theorem AD {B:Hp}{C p:Fi}{fs:E9 (FR×V)}{v:V}{o:HO}(i:E8 B C fs v) (h: ∀C d,B p≠Fa (.ins C d fs)):E8 (aF B p o) C fs v:=by
 obtain⟨q,dx,rfl,m,e⟩:=i;exact#[q,dx,Gc,m,by rw[ac λz=>h _ _ (by rw[<-z];exact e)];exact e]
theorem mU {a:bf}{B:Hp}{v:V}{p:Fi}{o:HO} : ∀ {x:GC},iO a ol B v x->(∀C d fs,fs.length=7->B p≠Fa (.ins C d fs))->(p=ol\/ ∀l,B p≠Fa (.lst l))->iO a ol (aF B p o) v x
 | .step ..,h,hi,_=>AD h λC d=>hi C d _ Gc
 | .block ..,⟨q,nq,h,e,le⟩,hi,hl=>#[q,nq,AD h λC d=>hi C d _ Gc,by
  rw[ac λz=>?_]
  .exact e
  .rcases hl with hl|hl
   .exact nq (z.trans hl)
   .exact hl _ (by rw[<-z];exact e),le]
section
variable {B H H':Hp}{w:Gy}{Q:VK}
theorem EB.new {nd:Fi}{kk:E9 (a8×V)}{os:E9 V}(eb:EB Z B w nd kk os) (hB:B p=FB):EB Z (aF B p o) w nd kk os:=by
 have up: ∀ {b:Fi}{u:HO},B b=Fa u->aF B p o b=Fa u:=λe=>by rw[ac (ai e hB)];exact e
 exact#[λb u e=>up (eb.sm b u e),up eb.hx,up eb.hm,up eb.ho,up eb.hn,eb.nx,dZ eb.po λv x z=>mU z (λ_ _ _ _ z=>by rw[hB] at z;cases z) (.inr λ_ z=>by rw[hB] at z;cases z),eb.le,eb.pn,eb.ln,eb.nl,eb.q4]
theorem cP.fresh (R:cP Z j B H U en w n) (h:H p=FB):B p=FB/\Z.N p=FB/\p≠Z.ol:=by
 obtain⟨_,W,_,_,eb,_⟩:=R;have hB:B p=Tq:=by
  cases z:B p with
  |none=>rfl
  |some u=>rw[W.O.same _ _ z] at h;cases h
 refine#[hB,?_,λz=>by rw[z,eb.ho] at hB;cases hB];cases z:Z.N p with
 |none=>rfl
 |some u=>rw[eb.sm _ _ z] at hB;cases hB
theorem cP.new (R:cP Z j B H U en w n) (k:aS H H') (h:H p=FB) (e:H' p=Fa o):cP Z j (aF B p o) H' U en w n:=by
 obtain⟨hB,hN,_⟩:=R.fresh h;obtain @⟨r,b,ff,d,s,nd,kk,os,FO,W,A,gs,eb,hj⟩:=R;exact#[FO,#[W.O.ahW k h e,W.fn.up hN,W.sq, .nil,W.bn],A,gs,eb.new hB,hj]
theorem cP.chg {o':HO}{nd:Fi}{kk:E9 (a8×V)}{os:E9 V}(R:cP Z j (aF B p o) H U en w n) (hB:B p=FB) (hN:Z.N p=FB) (eb:EB Z B w nd kk os):cP Z j (aF B p o') (aF H p o') U en w n:=by
 obtain @⟨r,b,ff,d,s,VC,kk',os',FO,W,A,gs,_,hj⟩:=R;have O:=W.O.bas (p:=p) (o:=o') (.inl (by show aF B p o p≠FB;rw[ae];exact TJ _));have F:=W.fn.up (o:=o') hN;rw[Et] at O F;exact#[FO,#[O,F,W.sq, .nil,W.bn],A,gs,eb.new hB,hj]
end
theorem cP.put {Z:Zx}{j n b:FC}{B H:Hp}{U:E9 Fb}{en:Hq}{w:Gy}{r:V}{ff:E9 (a8×V)}{d:rL}{s:fm}{nd p:Fi}{kk:E9 (a8×V)}{os:E9 V}{o o':HO}(FO:gy Z.S Z.F0) (W:eW Z.a #[Z.M,B] H (Z.c.at_ (60000-j)) Z.S.funs r b ff [d] [] [] [s] n) (A:Ag Z.S U en [s]) (gs:xR [s]) (hj:j<=50000) (h:B p=Fa o) (hN:Z.N p=FB) (eb:EB Z (aF B p o') w nd kk os):cP Z j (aF B p o') (aF H p o') U en w n:=#[FO,#[W.O.bas (.inl (by show B p≠FB;rw[h];exact TJ _)),W.fn.up hN,W.sq, .nil,W.bn],A,gs,eb,hj]
theorem mH {α β:Type}{F:α->β->Prop}{x:α}{y:β}(h:F x y): ∀ {l:E9 α}{m:E9 β},Paired F l m->Paired F (l++[x]) (m++[y])
 |_,_, .nil=> .cons h .nil
 |_,_, .cons r t=> .cons r (mH h t)
inductive YE (a:bf) (vs:E9 V) (H:Hp) (Q:VK) (E:XK):Prop
 |mk {Z:Zx}{j:FC}{B:Hp}{U:E9 Fb}{en:Hq}{w:Gy}{n:FC}{v:V}{o:GC}(_:vs=[.ref Z.x,v]) (_:Z.a=a) (_:Z.E=E) (_:cP Z j B H U en w n) (_:iO Z.a Z.ol B v o) (_:48<=w.orders.length->Qe Z (-15)) (_:w.orders.length<48-> ∀B' H',cP Z j B' H' U en { w with orders:=w.orders++[o] } n->Q .IJ H'):YE a vs H Q E
theorem ahX (T:aW K mg a) (XC:XW K a):T.d_W.O P w base 4 (YE a):=by
 refine fP T.d_W.F alq [03] [02];obtain @⟨Z,j,B,U,en,w',n,v,o,rfl,rfl,rfl,R,ho,h1,h2⟩:=h;have sm:=R.same;obtain @⟨r,b,ff,d,s,nd,kk,os,FO,W,A,gs,eb,hj⟩:=R;have hl:=bA eb.po;have fl: ∀ {Q:VK},Q (.ref Z.ol) H->dC K "orders" Q (.ref Z.x) H:=λq=>#[Z.x,_,Z.dx,_,_,Gc,W.O.same _ _ eb.hx,T.HI,T.JP,Gc,q]
 have Rx:=W.O.same _ _ eb.ho;refine bH (jm (iA T.Kj Rx [08] (λ_ q=>fl q) #[_,aT (by rfl) T.Rh,_,_,Gc,Gc,dA (λz=>?_) λz=>?_]))
 .exact aR (eX eF XC.Mb (ik T XC) hr (by rfl) T.Nu T.ZE.c.b) #[F3 _,_,#[Gc,Gc],h1 (by lia) H sm _ (.tail _ (.tail _ (.tail _ (.tail _ (.head _)))))]
 .have lt:w'.orders.length<48:=by have:=eb.le;lia
  have ne: ∀ {b:Fi}{u:HO},B b=Fa u->u≠ .lst os->aF B Z.ol (.lst (os++[v])) b=Fa u:=λe n=>by rw[ac (pS e eb.ho n)];exact e
  have ni: ∀C d fs,fs.length=7->B Z.ol≠Fa (.ins C d fs):=λ_ _ _ _ z=>by rw[eb.ho] at z;cases z
  have eb':EB Z (aF B Z.ol (.lst (os++[v]))) { w' with orders:=w'.orders++[o] } nd kk (os++[v]):=#[λb u e=>by rw[ac λz=>by rw[z,eb.nx.2.1] at e;cases e];exact eb.sm b u e,ne eb.hx nofun,ne eb.hm nofun,ae,ne eb.hn nofun,eb.nx,mH (mU ho ni (.inl Gc)) (dZ eb.po λv x z=>mU z ni (.inl Gc)),by rw[FL];exact lt,eb.pn,eb.ln,by rw[FL];exact NH eb.nl,eb.q4]
  exact iN [08] (λ_ q=>fl q) Rx (bB 1 #[_,Rx,by rw[hl,Ic];lia,cf (h2 lt _ _ (cP.put FO W A gs hj eb.ho eb.nx.2.1 eb'))])
inductive Ad (vs:E9 V) (H:Hp) (Q:VK) (_E:XK):Prop
 |mk (b:Gu) (_:vs=[jW b]) (_:Q (Cv b) H):Ad vs H Q _E
theorem ahY (T:aW K mg a):T.d_M.U P w base 1 Ad:=by
 refine T.d_M.F.ok ak8 [03] [02];obtain⟨b,rfl,q⟩:=h;refine aM #[_,df (a0 b9 (pv 0) dH (aL _)) (aT (by rfl) T.Xp) (aT (by rfl) T.aai),Gc,_,Gc,?_];cases b with
 |true=>rw[show decide (jW FM=V.str "sell")=FS by decide+kernel];exact bN q
 |false=>rw[show decide (jW FS=V.str "sell")=FM by decide+kernel];exact cc q
section
variable {X:Cx}{Z:Zx}{j n m k iw:FC}{B H H':Hp}{U:E9 Fb}{en:Hq}{w:Gy}{σ:L2.St}{Q:VK}{D:eA}{ss:E9 Stmt}{e1 e2 e3:HH}{t1 t2 t3:TE}{v u:V}{x:Fs}{y nm f:FR}{C:Fi}{fs:E9 (FR×V)}{lo z hi:Int}{p0 p1 p2 p3 p4 p5 p6:Pos}
theorem Pa.mono {Q Q':E9 V->Hp->Prop}(h:Pa X es σ H Q) (im: ∀b H,Q b H->Q' b H):Pa X es σ H Q':=by
 obtain⟨t,ht,q⟩:=h;refine#[λσ H Q'=> ∃Q:E9 V->Hp->Prop,(∀b H,Q b H->Q' b H)/\t σ H Q,λpos pins s σ H Q' I h=>?_,Q,im,q];obtain⟨Q,im,q⟩:=h;exact b8 (ht pos pins s σ H Q I q) λc s' ⟨v,H',I',r,q⟩=>#[v,H',I',r,im _ _ q]
theorem abo {C:Fi}{fs:E9 FR}(nb:NB X c C fs) (hr:bZ 2 X.A) (q:Pa X (e::es) σ H λws H1=>ws.length=fs.length/\ ∀x dx H2,H1 x=FB->aS H1 H2->H2 x=Fa (.ins C dx (fs.zip ws))->Q (.ref x) H2)
  (hg:Gl X c:=by rfl) (hx:(c == [003])=FS:=by decide) (he:FK (e::es) X.env=[001]::FK es X.env:=by rfl) (MT:(IV p4 (FK es X.env)).any (·.1)=FS:=by rfl):Pe X (.Call (.Name c p1) (e::es) [] p4) σ H Q:=by
 obtain⟨M,G,b,hm⟩:=nb;refine#[_,gT M G hr hg hm b .nil aQ sX hx he MT,q.mono λws H1 ⟨hl,q⟩ x dx h1 h2 ne=>?_];rw[Hc];exact#[x,dx,ws,Gc,hl,ae,λH2 e k=>#[Gc,q x dx H2 h1 (λb o e=>k b o (by rw[ac (ai e h1),ac (ai e h2)];exact e) (ai e h1)) e]]
theorem gk (i iw:FC) (Y:EX X Z.a Z.E) (nd:X.N.Nodup) (R:cP Z j B H U en w n) (hw:σ[iw]?=Fa (Fa (.ref Z.c.wk))) (hn:σ[1]?=Fa (Fa v)) (ins:bF Z.M Z.N C fs v) (cl:gM X.K C) (no:ao X.K C f) (hl:fs.lookup f=Fa u) (ex:au Z.a Z.M Z.N x u) (ws:WS U Z.F0 x) (hk:3*n+1<=k) (er: ∀c,LM k Z.S en x n= .error c->Qe Z c)
  (q: ∀y m H',LM k Z.S en x n= .ok (y,m)->m<n->dB y->cP Z j B H' U en w m->Bd X ss D (σ.set i (Fa (.int y))) H') (hp:ip p2 p4:=by rfl) (nw:X.N[iw]?=Fa ("worker":FR):=by rfl) (vw:oU X.env.scope "worker":=by exact G9 Gc) (n1:X.N[1]?=Fa nm:=by rfl) (v1:oU X.env.scope nm:=by exact G9 Gc) (hd:(nm == [003])=FS:=by decide) (Sy:(nm == ("__classdict__":FR))=FS:=by decide) (h:Sl X i y:=by exact#[Gc,G9 Gc,Gc]):
  Bd X (.Assign [.Name y p0] (.Call (.Attribute (.Name "worker" p1) "work_out" p2) [.Attribute (.Name nm p3) f p6] [] p4) p5::ss) D σ H:=
 aN i nd (nP Y R (dR nw vw) (λ_ q=>mM q hw) (ah (dR n1 v1 hd Sy) Gc) (λ_ q=>mM (ins.fld R.same cl no hl q) hn) ex ws hk er q Gc (eM hp Gc)) h
theorem pk (Y:EX X Z.a Z.E) (R:cP Z j B H U en w n) (h1:PE X e1 t1) (h2:PE X e2 t2) (h3:PE X e3 t3) (v1: ∀Q:VK,Q (.int z) H->t1 σ H Q) (v2: ∀Q:VK,Q (.int lo) H->t2 σ H Q) (v3: ∀Q:VK,Q (.int hi) H->t3 σ H Q) (er:FI z lo hi=FS->Qe Z (-14)) (q:FI z lo hi=FM->Bd X ss D σ H) (hg:Gl X "need_range":=by rfl) (hs1:FK [e1,e2,e3] X.env=(FS,eval e1 X.env)::FK [e2,e3] X.env:=by rfl) (UA:FK [e2,e3] X.env=(FS,eval e2 X.env)::FK [e3] X.env:=by rfl) (hs3:FK [e3] X.env=[(FS,eval e3 X.env)]:=by rfl):
  Bd X (.Expr (.Call (.Name "need_range" p1) [e1,e2,e3] [] p4) p5::ss) D σ H:=
 bD #[_,aG (ahV Y.T Y.C) (Y.hr.mono [01]) hg Y.T.ZR.c Y.up (aa h1 (aa h2 (aa h3 ag hs3) UA) hs1) [01] hs1 (by rw[UA,hs3];rfl),v1 _ (v2 _ (v3 _ #[z,lo,hi,Gc,λh=>er h H R.same,q]))] Gc
theorem cP.Xx (R:cP Z j B H U en w n) (T:aW X.K X.mg Z.a) (no:ao X.K Z.a.J7 f) (hl:(mF Z.K).lookup f=Fa v) (q:Q v H):dC X.K f Q (.ref Z.m) H:=by
 obtain⟨_,W,_,_,eb,_⟩:=R;exact#[Z.m,_,Z.dm,_,_,Gc,W.O.same _ _ eb.hm,T.Rw,no,hl,q]
theorem cP.mk2 (R:cP Z j B H U en w n) (T:aW X.K X.mg Z.a) (q:Q (.ref Z.m) H):dC X.K "market" Q (.ref Z.x) H:=by
 obtain⟨_,W,_,_,eb,_⟩:=R;exact#[Z.x,_,Z.dx,_,_,Gc,W.O.same _ _ eb.hx,T.HI,T.Mn,Gc,q]
theorem cP.dk (R:cP Z j B H U en w n) (T:aW X.K X.mg Z.a) (q:Q (.int Z.d) H):dC X.K "desk" Q (.ref Z.x) H:=by
 obtain⟨_,W,_,_,eb,_⟩:=R;exact#[Z.x,_,Z.dx,_,_,Gc,W.O.same _ _ eb.hx,T.HI,T.Lg,Gc,q]
end
inductive jU (a:bf) (lv:FC) (ok:Hb->Prop) (vs:E9 V) (H:Hp) (Q:VK) (E:XK):Prop
 |mk {Z:Zx}{B:Hp}{U:E9 Fb}{en:Hq}{w:Gy}{n k dk:FC}{st:Hb}{v:V}(_:vs=[.ref Z.x,v]) (_:Z.a=a) (_:Z.E=E) (_:Z.d=dk) (_:ok st) (_:cP Z 5 B H U en w n) (_:a7 Z.a Z.M Z.N st v) (_:WT lv U Z.F0 st) (_:3*n+4<=k) (_: ∀c,IZ k Z.S Z.K dk en st w n= .error c->Qe Z c) (_: ∀u m H',IZ k Z.S Z.K dk en st w n= .ok (u,m)->m<=n->ES Z 0 H' U en u m->Q .IJ H'):jU a lv ok vs H Q E
theorem wj {x He y:FR}{st:Stmt}{f:Fi}{fd:Gs}{N:E9 FR}{lv:FC}{ok:Hb->Prop}(T:aW K mg a) (XC:XW K a) (KX:mh K a) (hk:9<=kl) (F:oX K x He st f fd) (S:az N ["expansion",y] (af st))
  (JG: ∀(GU:Fh) (A:GV) (outer:E9 Env) (s:Fn) (H:Hp) (Z:Zx) (B:Hp) (U:E9 Fb) (en:Hq) (w':Gy) (n k dk:FC) (sm:Hb) (v:V) (Q:VK),bZ kl (A.deeper (JJ He (af st) s.heap.objs.size f GU))->Z.a=a->Z.d=dk->ok sm->cP Z 5 B H U en w' n->a7 Z.a Z.M Z.N sm v->WT lv U Z.F0 sm->3*n+3<=k->(∀c,IZ (k+1) Z.S Z.K dk en sm w' n= .error c->Qe Z c)->(∀u m H',IZ (k+1) Z.S Z.K dk en sm w' n= .ok (u,m)->m<=n->ES Z 0 H' U en u m->Q .IJ H')->
   let X:=e8 (fY P w) P w K mg base N He (af st) f GU A outer s H Z.E
   let D:eA:= { nx:=λ_ H'=>Q .IJ H',rt:=Q }
   EX X Z.a Z.E->Bd X (be st) D (L2.start N [.ref Z.x,v]) H):bU P w K mg base (fY P w) (kl+1) f fd ["expansion",y] (jU a lv ok):=by
 refine fP F S [03] [02];obtain @⟨Z,B,U,en,w',n,k,dk,sm,v,rfl,ha,rfl,hd,ho,R,sa,wt,hk',er,q⟩:=h;obtain⟨k,rfl⟩: ∃k',k=k'+1:=#[k-1,by lia];exact JG GU A outer s H Z B U en w' n k dk sm v Q hr ha hd ho R sa wt (by lia) er q (by subst ha;exact#[T,XC,KX,hr.mono hk,aA])
section
variable {X:Cx}{Z:Zx}{j n m k:FC}{B H H':Hp}{U:E9 Fb}{en:Hq}{w:Gy}{σ:L2.St}{Q:VK}{x:Ft Fs}{u:V}{o e0 e1 e2:HH}{to t0 t1 t2:TE}{z:Int}{p2 p4 p5 p7 p8:Pos}{jj:FC}{R':Gu->Hp->Prop}
theorem YF {e:HH}(q:Pe X e σ H λv H1=>R' (decide (v= .IJ)) H1):Pt X (.Compare e [.Is] [.Constant .none jj p7] p8) σ H R':=cO aaz (q.mono λv H1 q=>mB #[Gc,_,Gc,q]) (aL _)
theorem YG (Y:EX X Z.a Z.E) (R:cP Z j B H U en w n) (ho:PE X o to) (hvo: ∀Q:VK,Q (.ref Z.c.wk) H->to σ H Q) (h1:PE X e1 t1) (v1: ∀Q:VK,Q u H->t1 σ H Q) (h2:PE X e2 t2) (v2: ∀Q:VK,Q u H->t2 σ H Q) (h0:PE X e0 t0) (v0: ∀Q:VK,Q (.int z) H->t0 σ H Q) (ex:jl Z.a Z.M Z.N x u) (ws: ∀e,x=Fa e->WS U Z.F0 e) (hk:3*n+1<=k) (er: ∀c,XS k Z.S en z x n= .error c->Qe Z c) (q: ∀y m H',XS k Z.S en z x n= .ok (y,m)->m<=n->cP Z j B H' U en w m->Q (.int y) H')
  (Kq:FK [e2] X.env=[(FS,eval e2 X.env)]) (ht:eval (.Call (.Attribute o "work_out" p2) [e2] [] p4) X.env=(do
   let ov<-eval o X.env
   standAt p2.atName
   let (f,first)<-holding [ov] (K7 ov "work_out" (do return (<-PQ o X.env).getD FM))
   NN p4 f first (IV p4 (FK [e2] X.env)) (KR p4 (Jq [] X.env)))):Pe X (.IfExp (.Compare e1 [.Is] [.Constant .none jj p7] p8) e0 (.Call (.Attribute o "work_out" p2) [e2] [] p4) p5) σ H Q:=by
 refine#[_,df jp h0 du,YF #[_,h1,v1 _ ?_]];cases x with
 |none=>
  obtain rfl:u= .IJ:=ex;exact cc (v0 _ (q z n H Gc (FF n) R))
 |some e=>
  obtain⟨⟨p,dx,rfl,_⟩,_⟩:=xk ex;exact bN (nP Y R ho hvo h2 v2 ex (ws e Gc) hk er (λy m H' h hm _ R'=>q y m H' h (KD hm) R') Kq ht)
end
section
variable {kl lv:FC}
theorem ahZ (T:aW K mg a) (XC:XW K a) (KX:mh K a) (Tv:9<=kl):T.ZT.O P w base (kl+1) (jU a lv λs=> ∃b z t p top q,s= .step b z t p top q):=by
 refine wj T XC KX Tv T.ZT.F Yq λGU A outer s H Z B U en w' n k dk sm v Q hr ha hd ho R sa wt hk er q=>?_;intro X D Y;obtain⟨b,ez,et,ep,top,eq,rfl⟩:=ho;have T:=Y.T;unfold a7 at sa;obtain⟨u1,u2,u3,u4,u5,i,a1,a2,a3,a4,a5⟩:=sa;unfold WT at wt;obtain⟨w1,w2,w3,w4,w5⟩:=wt;generalize GW:IZ (k+1) Z.S Z.K dk en (.step b ez et ep top eq) w' n=res at er q;unfold IZ at GW;dsimp only at GW;have nd:=Yq.nd;refine aN 2 nd (cn (bB 0 (R.wk T ?_)) Gc);refine gk (k:=k) 3 2 Y nd R Gc Gc i T.Ms T.Pq Gc a1 w1 (by lia) (λc h=>er c (by rw[<-GW,h])) λz n1 H h l1 _ R=>?_;rw[h] at GW;dsimp only at GW;refine gk (k:=k) 4 2 Y nd R Gc Gc i T.Ms T.NZ Gc a2 w2 (by lia) (λc h=>er c (by rw[<-GW,h])) λt n2 H h l2 _ R=>?_;rw[h] at GW;dsimp only at GW;refine gk (k:=k) 5 2 Y nd R Gc Gc i T.Ms T.OM Gc a3 w3 (by lia) (λc h=>er c (by rw[<-GW,h])) λlo n3 H h l3 _ R=>?_;rw[h] at GW;dsimp only at GW;refine aN 6 nd (YG (k:=k) Y R (pv 2) [05] (ah (pv 1) Gc) (λ_ q=>i.fld R.same T.Ms T.LG Gc q) (ah (pv 1) Gc) (λ_ q=>i.fld R.same T.Ms T.LG Gc q) (pv 5) [05] a4 w4 (by lia) (λc h=>er c (by rw[<-GW,h])) (λhi n4 H h l4 R=>?_) Gc (eM Gc Gc));rw[h] at GW;dsimp only at GW;refine gk (k:=k) 7 2 Y nd R Gc Gc i T.Ms T.Of Gc a5 w5 (by lia) (λc h=>er c (by rw[<-GW,h])) λam n5 H h l5 _ R=>?_;rw[h] at GW;dsimp only at GW;refine aN 8 nd (cn (bB 0 (R.mk2 T ?_)) Gc);have bad:(Ja Z.K z&&(FI t 0 ((Z.K.quarters:Int)-1)&&(FI lo Z.K.lo Z.K.hi&&(FI hi lo Z.K.hi&&(decide (hi-lo<=PK)&&FI am 0 Jg)))))=FS->Qe Z (-14):=λh=>er (-14) (by rw[<-GW];unfold Wy;rw[Fm h]);subst ha;refine pk Y R (pv 3) ak (bW cX (ah (pv 8) Gc) ak) [05] [05] (λ_ q=>R.Xx T T.L7 Gc #[_,_,Gc,Gc,q]) (λh=>bad (by unfold Ja;rw[h];rfl)) λc1=>?_;refine pk Y R (pv 4) ak (bW cX (ah (pv 8) Gc) ak) [05] [05] (λ_ q=>R.Xx T T.K0 Gc #[_,_,Gc,Gc,q]) (λh=>bad (by simp only[h,Jk,IQ])) λc2=>?_;refine pk Y R (pv 5) (ah (pv 8) Gc) (ah (pv 8) Gc) [05] (λ_ q=>R.Xx T T.Ni Gc q) (λ_ q=>R.Xx T T.Lf Gc q) (λh=>bad (by simp only[h,Jk,IQ])) λc3=>?_;refine pk Y R (pv 6) (pv 5) (ah (pv 8) Gc) [05] [05] (λ_ q=>R.Xx T T.Lf Gc q) (λh=>bad (by simp only[h,Jk,IQ])) λc4=>?_;refine pk Y R (bW cX (pv 6) (pv 5)) ak (aT (by rfl) T.Ri) (λ_ q=>#[_,_,Gc,Gc,q]) [05] [05] (λh=>bad ?_) λc5=>?_
 .unfold FI at h c4
  rw[GR,Gg] at c4;rw[GJ (show(0:Int)<=hi-lo by lia),Je] at h;rw[show decide (hi-lo<=PK)=FS from h];simp only[Jk,IQ]
 refine pk Y R (pv 7) ak (aT (by rfl) T.OR) [05] [05] [05] (λh=>bad (by rw[show FI am 0 Jg=FS from h];simp only[IQ])) λc6=>?_;have good: ¬(Ja Z.K z&&(FI t 0 ((Z.K.quarters:Int)-1)&&(FI lo Z.K.lo Z.K.hi&&(FI hi lo Z.K.hi&&(decide (hi-lo<=PK)&&FI am 0 Jg)))))=FS:=λh=>by
  have c5:decide (hi-lo<=PK)=FM:=(GR _ _▸c5:_/\_).2
  have c6:FI am 0 Jg=FM:=c6
  have c1:Ja Z.K z=FM:=c1;rw[c1,c2,c3,c4,c5,c6] at h;cases h
 unfold Wy at GW;rw[Fj good] at GW;refine cr (cO gb (bB 7 (cN #[_,_,Gc,Gc,_,Gc,dA (λh=>?_) λh=>?_])))
 .rw[Fj (by lia)] at GW
  refine aN 9 nd #[_,aG (ahY T) (hr.mono (by lia)) (by rfl) T.d_M.c aQ (aa (ah (pv 1) Gc) ag),i.fld R.same T.Ms T.Pp Gc #[b,Gc,?_]];refine fk (bL (aP (bB 0 (aP (abo (qz T) (hr.mono (by lia)) (aP (cn (bB 0 (R.dk T (aP (bB 3 (aP (bB 4 (aP (bB 9 (aP (bB 5 (aP (bB 6 (aP (bB 7 (cF #[Gc,λx dx H2 hx sm e=>cF ?_]))))))))))))))) Gc)))))) (ahX T Y.C) (hr.mono (by lia)) T.d_W.c aA) Gc;have z0:0<=z:=by unfold FI at c1;rw[GR,Gg] at c1;exact c1.1
  have t0:0<=t:=by unfold FI at c2;rw[GR,Gg] at c2;exact c2.1
  unfold WY UY at GW;refine .mk (o:= .step dk z.toNat t.toNat b lo hi am) Gc Gc Gc (R.new sm hx e) #[x,dx,Gc,λz=>z,?_] (λh=>er (-15) (by rw[<-GW,Fm h])) λh B' H' R'=>q _ n5 H' (by rw[<-GW,Fj (FC.not_le.mpr h)]) (by lia) #[R'.less (F3 _)];rw[ae,hd,MH z0,MH t0]
  rfl
 .have am0:am=0:=by unfold FI at c6;rw[GR,Gg] at c6;lia
  rw[Fm am0] at GW;exact cf (q _ n5 H GW.symm (by lia) #[R.less (F3 _)])
end
section
variable {H:Hp}{te:TE}
theorem D7 (i n:FC) (hp:P8 (model X.prog X.w) X.A X.env X.xe) (nd:X.N.Nodup) (hm:X.mg "range"=FB) (he:PE X e te) (hv: ∀R:VK,R (.int n) H->te σ H R) (hn:n<=1000) (I:FC->L2.St->Hp->Prop) (h0:I 0 σ H) (hs: ∀j σ H,j<n->I j σ H->Bd X A (D.lp X ss (I (j+1))) (σ.set i (Fa (.int j))) H) (hd: ∀σ H,I n σ H->Bd X ss D σ H)
  (hg:Gl X "range":=by rfl) (hc:X.calm=FM:=by rfl) (h:Sl X i y:=by exact#[Gc,G9 Gc,Gc]) (Kq:FK [e] X.env=[[001]]:=by rfl) (hf: ∀x,L4 (.Call (.Name "range" p1) [e] [] p2) X.env x=pure x:=by intro _;rfl):Bd X (.For (.Name y p0) (.Call (.Name "range" p1) [e] [] p2) A [] p5::ss) D σ H:=
 aR (vo hp hc (zo hg hm (aa he ag Kq) Kq) (jc nd h.hi h.hx (.inl h.hf)) iu hf) (hv _ #[n,Gc,by lia,by lia,yO (n:=n) I h0 (λj σ H lt z=>by rw[Int.zero_add];exact hs j σ H lt z) hd])
end
structure LB (Z:Zx) (B:Hp) (L:Fi) (l:E9 Int):Prop where
 h:B L=Fa (.lst (l.map V.int))
 n:Z.N L=FB
 o:L≠Z.ol
inductive ah0 (a:bf) (vs:E9 V) (H:Hp) (Q:VK) (E:XK):Prop
 |mk {Z:Zx}{B:Hp}{U:E9 Fb}{en:Hq}{w:Gy}{n k:FC}{x:Fb}{e:Fs}{v:V}(_:vs=[.ref Z.x,v]) (_:Z.a=a) (_:Z.E=E) (_:cP Z 5 B H U en w n) (_:sA Z.a Z.M Z.N (x,e) v) (_:x∉U) (_:WS (x::U) Z.F0 e) (_:3*n+1<=k) (_: ∀c,Iz k Z.S en x e (Jx Z.K.quarters) n= .error c->Qe Z c)
  (_: ∀l m B' H' L,Iz k Z.S en x e (Jx Z.K.quarters) n= .ok (l,m)->m<=n->LB Z B' L l->cP Z 0 B' H' U en w m->Q (.ref L) H'):ah0 a vs H Q E
theorem cP.q4 {B H:Hp}{w:Gy}(R:cP Z j B H U en w n):Z.K.quarters<=4:=by
 obtain⟨_,_,_,_,eb,_⟩:=R;exact eb.q4
theorem xy {e:Fs} :Iz k S en x e (t::l) n=(match LM k S ((x,(t:Int))::en) e n with
  | .error c=> .error c
  | .ok (a,m)=>match Iz k S en x e l m with
   | .error c=> .error c
   | .ok (b,o)=> .ok (a::b,o)):=rfl
theorem ww {e:Fs} : ∀ {L:E9 FC}{n:FC}{l:E9 Int}{m:FC},Iz k S en x e L n= .ok (l,m)->l.length=L.length
 |[],n,l,m,h=>by
  unfold Iz at h;cases h
  rfl
 |t::L,n,l,m,h=>by
  rw[xy] at h;cases h1:LM k S ((x,(t:Int))::en) e n with
  |error c=>rw[h1] at h;cases h
  |ok z=>
   obtain⟨z1,z2⟩:=z;rw[h1] at h;dsimp only at h;cases h2:Iz k S en x e L z2 with
   |error c=>rw[h2] at h;cases h
   |ok y=>
    rw[h2] at h;cases h;exact Gq (· +1) (ww h2)
theorem al6 (T:aW K mg a) (XC:XW K a) (KX:mh K a) (Tv:9<=kl):T.d_F.O P w base (kl+1) (ah0 a):=by
 refine fP T.d_F.F agN [03] [02];obtain @⟨Z,B,U,en,w',n,k,x,e,v,rfl,rfl,rfl,R,⟨u,i,ex⟩,nx,ws,hk,er,q⟩:=h;have nd:=agN.nd;have Y:EX (e8 (fY P w) P w K mg base ["expansion","amounts","found","quarter"] "work_out_amounts" (af s_F) Z.a.f_F GU A outer s H Z.E) Z.a Z.E:=#[T,XC,KX,hr.mono Tv,aA];refine aN 2 nd (mq λL hL=>?_);obtain⟨hB,hN,hO⟩:=R.fresh hL;obtain⟨nn,kk,os,eb⟩: ∃nn kk os,EB Z B w' nn kk os:=by obtain⟨_,_,_,_,eb,_⟩:=R;exact#[_,_,_,eb]
 have R1:=R.new (o:= .lst []) (a9 hL) hL ae
 have q4:=R.q4;refine D7 3 Z.K.quarters Jf nd T.Xq (ah [08] Gc) (λ_ q=>R1.mk2 T (R1.Xx T T.K0 Gc q)) (by lia) (λt σ H=> ∃(done:E9 Int) (m:FC) (y:Ft V),σ=[Fa (.ref Z.x),Fa v,Fa (.ref L),y]/\done.length=t/\m<=n/\cP Z (5-t) (aF B L (.lst (done.map V.int))) H U en w' m/\(∀c,Iz k Z.S en x e ((Jx Z.K.quarters).drop t) m= .error c->Qe Z c)/\ ∀l m',Iz k Z.S en x e ((Jx Z.K.quarters).drop t) m= .ok (l,m')->Iz k Z.S en x e (Jx Z.K.quarters) n= .ok (done++l,m')) #[[],n,FB,Gc,Gc,FF n,R1,er,λ_ _ h=>h] ?_ ?_
 .rintro t σ H3 lt ⟨done,m,y,rfl,dl,lm,R3,er3,q3⟩
  have dr:(Jx Z.K.quarters).drop t=t::(Jx Z.K.quarters).drop (t+1):=by rw[Hs (by rw[P7];exact lt),E9.getElem_range]
  rw[dr] at er3 q3;rw[xy] at er3 q3;rw[show 5-t=(4-t)+1 by lia] at R3;refine bD (vz Y R3 [08] (λ_ q=>R3.wk T q) (ah (pv 1) Gc) (λ_ q=>i.fld R3.same T.OV T.N0 Gc q) (bB 3 #[_,(t:Int),w',m,Gc,R3,nx,by unfold dB Kp;lia,λH4 R4=>?_]) Gc Gc Gc);have hl4:H4 L=Fa (.lst (done.map V.int)):=by obtain⟨_,W,_,_,_,_⟩:=R4;exact W.O.same _ _ ae
  refine iN (pv 2) [05] hl4 (nP (k:=k) Y R4 [08] (λ_ q=>R4.wk T q) (ah (pv 1) Gc) (λ_ q=>i.fld R4.same T.OV T.Og Gc q) ex ws (by lia) (λc h=>er3 c (by rw[h])) (λz m5 H5 h hm _ R5=>?_) Gc Gc);rw[h] at er3 q3;dsimp only at er3 q3;have hl5:H5 L=Fa (.lst (done.map V.int)):=by obtain⟨_,W,_,_,_,_⟩:=R5;exact W.O.same _ _ ae
  refine#[_,hl5,by rw[Fx,dl,Ic];lia,gm #[done++[z],m5,_,Gc,by rw[FL,dl];rfl,by lia,?_,λc h=>er3 c (by rw[h]),λl m' h=>?_]]
  .have R6:=(R5.unset nx R).chg (o':= .lst ((done++[z]).map V.int)) hB hN eb
   rw[Hk] at R6 ⊢;rw[show 5-(t+1)=4-t by lia];exact R6
  .rw[q3 (z::l) m' (by rw[h]),GG]
   rfl
 .rintro σ H3 ⟨done,m,y,rfl,dl,lm,R3,er3,q3⟩
  rw[Ka (by rw[P7];exact FF _)] at q3;have:=q3 [] m Gc;rw[Hc] at this;exact aM (bB 2 (q done m _ H3 L this lm #[ae,hN,hO] (R3.less (F3 _))))
def yi (w:Gy):Ft Fb->Except Int (Ft FC)
 |none=> .ok FB
 |some u=>match w.names.find? λa=>a.1 == u with
  |some a=> .ok (Fa a.2)
  |none=> .error (-16)
def BB (w:Gy) (o:GC):Ft Fb->Gy
 |some x=> { w with orders:=w.orders++[o],names:=(x,w.orders.length)::w.names }
 |none=> { w with orders:=w.orders++[o] }
inductive YH (a:bf) (vs:E9 V) (H:Hp) (Q:VK) (E:XK):Prop
 |mk {Z:Zx}{j:FC}{B:Hp}{U:E9 Fb}{en:Hq}{w:Gy}{n:FC}{fs:E9 (FR×V)}{un:Ft Fb}{v:V}(_:vs=[.ref Z.x,v]) (_:Z.a=a) (_:Z.E=E) (_:cP Z j B H U en w n) (_:bF Z.M Z.N Z.a.JF fs v) (_:fs.lookup ("under":FR)=Fa (ic un)) (_: ∀c,yi w un= .error c->Qe Z c) (_: ∀p,yi w un= .ok p->Q (abn p) H):YH a vs H Q E
theorem ah1 (T:aW K mg a) (XC:XW K a):T.ZV.O P w base 4 (YH a):=by
 refine fP T.ZV.F agO [03] [02];obtain @⟨Z,j,B,U,en,w',n,fs,un,v,rfl,rfl,rfl,R,i,hl,er,q⟩:=h;have fl: ∀ {Q:VK},Q (ic un) H->dC K "under" Q v H:=λq=>i.fld R.same T.KI T.Oi hl q
 have sm:=R.same;obtain⟨_,W,_,_,eb,_⟩:=R
 have nm: ∀ {Q:VK},Q (.ref _) H->dC K "named" Q (.ref Z.x) H:=λq=>#[Z.x,_,Z.dx,_,_,Gc,W.O.same _ _ eb.hx,T.HI,T.J5,Gc,q]
 refine bH (YF (cn (bB 1 (fl ?_)) Gc));cases un with
 |none=>exact cc (aM #[_,dL cK ak,_,Gc,q FB Gc])
 |some u=>
  have g:=gw.k (k:=nk u) (W.O.same _ _ eb.hn);rw[eb.pn] at g;refine bN (bH #[_,fB (iV (dn hr) (ah (pv 1) Gc) [08]),fl (nm #[_,_,Gc,g,_,Gc,?_])]);cases hf:w'.names.find? λa=>a.1 == u with
  |none=>exact cc (aR (eX eF XC.OZ (lj T XC) hr (by rfl) T.Qk T.ZF.c.b) #[F3 _,_,#[Gc,Gc],er (-16) (by unfold yi;dsimp only;rw[hf]) H sm _ (.tail _ (.tail _ (.tail _ (.tail _ (.tail _ (.head _))))))])
  |some p=>
   rw[hf] at g;exact bN (aM #[_,jM (dn hr) [08] (ah (pv 1) Gc) [002],nm (fl #[_,_,Gc,g,q (Fa p.2) (by unfold yi;dsimp only;rw[hf])])])
inductive zX (a:bf) (vs:E9 V) (H:Hp) (Q:VK) (E:XK):Prop
 |mk {Z:Zx}{j:FC}{B:Hp}{U:E9 Fb}{en:Hq}{w:Gy}{n:FC}{v:V}{nm:Ft Fb}{o:GC}(_:vs=[.ref Z.x,ic nm,v]) (_:Z.a=a) (_:Z.E=E) (_:cP Z j B H U en w n) (_:iO Z.a Z.ol B v o) (_:48<=w.orders.length->Qe Z (-15)) (_:w.orders.length<48-> ∀B' H',cP Z j B' H' U en (BB w o nm) n->Q .IJ H'):zX a vs H Q E
theorem ah2 (T:aW K mg a) (XC:XW K a):T.ZW.O P w base 5 (zX a):=by
 refine fP T.ZW.F agP [03] [02];obtain @⟨Z,j,B,U,en,w',n,v,nm,o,rfl,rfl,rfl,R,ho,h1,h2⟩:=h;refine bD (bL (aP (bB 0 (aP (bB 2 (cF (.mk Gc Gc Gc R ho h1 λlt B' H' R'=>?_)))))) (ahX T XC) hr T.d_W.c aA);have h2:=h2 lt;have nl:w'.names.length<=w'.orders.length:=by obtain⟨_,_,_,_,eb,_⟩:=R;exact eb.nl
 refine cr (cO DV (bB 1 (mB #[Gc,_,Gc,?_])));cases nm with
 |none=>exact bN (cf (h2 _ _ R'))
 |some x=>
  obtain @⟨r,b,ff,d,s,nd,kk,os,FO,W,A,gs,eb,hj⟩:=R';have Rx:=W.O.same _ _ eb.ho;have kl:kk.length<=48:=FP eb.ln (FP eb.nl eb.le);have ne: ∀ {b:Fi}{u:HO},B' b=Fa u->(∀k,u≠ .dK k)->aF B' nd (.dK (dz kk (nk x) (.int w'.orders.length))) b=Fa u:=λe n=>by rw[ac (pS e eb.hn (n _))];exact e
  have ni: ∀C d fs,fs.length=7->B' nd≠Fa (.ins C d fs):=λ_ _ _ _ z=>by rw[eb.hn] at z;cases z
  have eb':EB Z (aF B' nd (.dK (dz kk (nk x) (.int w'.orders.length)))) (BB w' o (Fa x)) nd (dz kk (nk x) (.int w'.orders.length)) os:=by
   refine#[λb u e=>by rw[ac λz=>by rw[z,eb.nx.2.2] at e;cases e];exact eb.sm b u e,ne eb.hx nofun,ne eb.hm nofun,ne eb.ho nofun,ae,eb.nx,dZ eb.po λv x z=>mU z ni (.inr λ_ z=>by rw[eb.hn] at z;cases z),eb.le,λu=>?_,FP (cH _ _ _) (Hi eb.ln),?_,eb.q4]
   .rw[gB]
    show _=Ft.map _ (E9.find? _ ((x,w'.orders.length)::w'.names))
    rw[Hj];by_cases hu:x=u
    .rw[Fm (by rw[hu]),show(x == u)=FM from beq_iff_eq.mpr hu];rfl
    .rw[Fj λz=>hu (eu (JE z)).symm,show(x == u)=FS from beq_eq_false_iff_ne.mpr hu];exact eb.pn u
   .show _+1<=(w'.orders++[o]).length;rw[FL];exact Hi nl
  refine cc (d8 (g9 (dn hr) [08] (pv 1) (bW cX (bw bJ (by rfl) T.Kj HN (aa [08] ag)) ak) Gc) #[Z.x,_,Z.dx,_,_,Gc,W.O.same _ _ eb.hx,T.HI,T.JP,Gc,Z.ol,_,Gc, .inl (cB.of Rx),_,_,Gc,Gc,Z.x,_,Z.dx,_,_,Gc,W.O.same _ _ eb.hx,T.HI,T.J5,Gc,nd,_,Gc,sH.k (k:=nk x) (W.O.same _ _ eb.hn) (by rw[Ic];lia),?_]);have e:(os.length:Int)-1=w'.orders.length:=by rw[bA eb.po];show((w'.orders++[o]).length:Int)-1=_;rw[FL];show((w'.orders.length+1:FC):Int)-1=_;lia
  rw[e];exact h2 _ _ (cP.put FO W A gs hj eb.hn eb.nx.2.2 eb')
theorem mV (h:FI x 0 hi=FM):0<=x:=by unfold FI at h;rw[GR,Gg] at h;exact h.1
theorem BE {w:Gy}(h:(Ja M z&&(FI p M.lo M.hi&&(l.all (λq=>FI q 0 Jg)&&FI g 0 9)))=FS):KU M d nm b z p l un g w= .error (-14):=by unfold KU;rw[Fm h]
theorem zj {w:Gy}(h: ¬(Ja M z&&(FI p M.lo M.hi&&(l.all (λq=>FI q 0 Jg)&&FI g 0 9)))=FS) (h0:l.all (λq=>q == 0)=FM):KU M d nm b z p l un g w= .ok w:=by unfold KU;rw[Fj h,Fm h0]
theorem Ec {w:Gy}(h: ¬(Ja M z&&(FI p M.lo M.hi&&(l.all (λq=>FI q 0 Jg)&&FI g 0 9)))=FS) (h0: ¬l.all (λq=>q == 0)=FM):
  KU M d nm b z p l un g w=(match yi w un with
   | .error c=> .error c
   | .ok par=>if 48<=w.orders.length then .error (-15) else .ok (BB w (.block d z.toNat b p g.toNat par l) nm)):=by
 unfold KU yi;rw[Fj h,Fj h0];unfold WY UY;cases un with
 |none=>
  dsimp only;split
  .rename_i h;split at h<;>cases h;rename_i z;rw[Fm z]
  .rename_i h;split at h<;>cases h;rename_i z;rw[Fj z];cases nm<;>rfl
 |some u=>
  dsimp only;cases w.names.find? λa=>a.1 == u with
  |none=>rfl
  |some a=>
   dsimp only;split
   .rename_i h;split at h<;>cases h;rename_i z;rw[Fm z]
   .rename_i h;split at h<;>cases h;rename_i z;rw[Fj z];cases nm<;>rfl
theorem w9: ∀ {l:E9 Int},(∀q∈l,0<=q)->(0<l.sum ↔ ¬l.all (λq=>q == 0)=FM)/\0<=l.sum
 |[],_=>by simp
 |x::l,h=>by
  obtain⟨h1,h2⟩:=w9 λq hq=>h q (Fp _ hq);have hx:=h x Fq;rw[Zc,NK,GR,beq_iff_eq];refine#[#[λz y=>h1.mp (by lia) y.2,λz=>?_],by lia];by_cases y:x=0
  .have:=h1.mpr λw=>z #[y,w];lia
  .lia
theorem ah3 (T:aW K mg a) (XC:XW K a) (KX:mh K a) (Tv:10<=kl):T.ZU.O P w base (kl+1) (jU a lv λs=> ∃nm b z p x q u g,s= .block nm b z p x q u g):=by
 refine wj T XC KX (Lx Tv) T.ZU.F Yr λGU A outer s H Z B U en w' n k dk sm v Q hr ha hd ho R sa wt hk er q=>?_;intro X D Y;subst ha;obtain⟨nm,b,ez,ep,x,eq,un,eg,rfl⟩:=ho;unfold a7 at sa;obtain⟨u1,u2,u3,u4,i,a1,a2,a3,a4⟩:=sa;unfold WT at wt;obtain⟨nx,w1,w2,w3,w4⟩:=wt;generalize GW:IZ (k+1) Z.S Z.K dk en (.block nm b ez ep x eq un eg) w' n=res at er q;unfold IZ at GW;dsimp only at GW;have nd:=Yr.nd;refine aN 2 nd (cn (bB 0 (R.wk T ?_)) Gc);refine gk (k:=k) 3 2 Y nd R Gc Gc i T.KI T.OP Gc a1 w1 (by lia) (λc h=>er c (by rw[<-GW,h])) λz n1 H h l1 _ R=>?_;rw[h] at GW;dsimp only at GW;refine gk (k:=k) 4 2 Y nd R Gc Gc i T.KI T.Oh Gc a2 w2 (by lia) (λc h=>er c (by rw[<-GW,h])) λp n2 H h l2 _ R=>?_;rw[h] at GW;dsimp only at GW;refine aN 5 nd (bL (aP (bB 0 (aP (cn (bB 1 (i.fld R.same T.KI T.NA Gc (cF (.mk (k:=k) Gc Gc Gc R a3 nx w3 (by lia) (λc h=>er c (by rw[<-GW,h])) λl n3 B H L h l3 hL R=>?_)))) Gc)))) (al6 T XC KX (FF 9)) (hr.mono Tv) T.d_F.c aA);have ll:l.length<=4:=by
  obtain⟨_,_,_,_,eb,_⟩:=R;rw[ww h,P7];exact eb.q4
 rw[h] at GW;dsimp only at GW;refine aN 6 nd (YG (k:=k) Y R (pv 2) [05] (ah (pv 1) Gc) (λ_ q=>i.fld R.same T.KI T.Mz Gc q) (ah (pv 1) Gc) (λ_ q=>i.fld R.same T.KI T.Mz Gc q) ak [05] a4 w4 (by lia) (λc h=>er c (by rw[<-GW,h])) (λg n4 H h l4 R=>?_) Gc (eM Gc Gc));rw[h] at GW;dsimp only at GW;have bad:(Ja Z.K z&&(FI p Z.K.lo Z.K.hi&&(l.all (λq=>FI q 0 Jg)&&FI g 0 9)))=FS->Qe Z (-14):=λh=>er (-14) (by rw[<-GW,BE h])
 refine pk Y R (pv 3) ak (bW cX (ah [08] Gc) ak) [05] [05] (λ_ q=>R.mk2 T (R.Xx T T.L7 Gc #[_,_,Gc,Gc,q])) (λh=>bad (by unfold Ja;rw[h];rfl)) λc1=>?_;refine pk Y R (pv 4) (ah [08] Gc) (ah [08] Gc) [05] (λ_ q=>R.mk2 T (R.Xx T T.Ni Gc q)) (λ_ q=>R.mk2 T (R.Xx T T.Lf Gc q)) (λh=>bad (by rw[h,Jk,IQ])) λc2=>?_;have hL':H L=Fa (.lst (l.map V.int)):=by obtain⟨_,W,_,_,_,_⟩:=R;exact W.O.same _ _ hL.h
 refine jK 7 Jf nd (pv 5) [05] (λj σ H'=>H'=H/\(∃y,σ=[Fa (.ref Z.x),Fa v,Fa (.ref Z.c.wk),Fa (.int z),Fa (.int p),Fa (.ref L),Fa (.int g),y,FB,FB])/\ ∀q∈l.take j,FI q 0 Jg=FM) #[Gc,#[_,Gc],by rw[XH];exact nofun] (λj σ H' _ h=>by rw[h.1];exact hL') ?_ ?_
 .rintro j y σ H' hj ⟨rfl,⟨y',rfl⟩,ha⟩
  rw[Gw] at hj;obtain⟨c,hc,rfl⟩:=Gj.mp hj;refine pk Y R (pv 7) ak (aT (by rfl) T.OR) [05] [05] [05] (λh=>bad ?_) λc3=>gm #[Gc,#[_,Gc],λq hq=>?_]
  .rw[show l.all (λq=>FI q 0 Jg)=FS by
    rw[E9.all_eq_false];exact#[c,G8 hc,by rw[show FI c 0 Jg=FS from h];exact Fd],Jk,IQ,IQ]
  .rw[Lo,hc] at hq
   rcases FY.mp hq with z|z
   .exact ha q z
   .rw[FN.mp z];exact c3
 .rintro σ H' ⟨rfl,⟨y',rfl⟩,ha⟩
  rw[Fx,LY] at ha;refine pk Y R (pv 6) ak (aT (by rfl) T.RU) [05] [05] [05] (λh=>bad (by rw[h,IQ,IQ,IQ])) λc4=>?_;have al:l.all (λq=>FI q 0 Jg)=FM:=LW.mpr ha
  have good: ¬(Ja Z.K z&&(FI p Z.K.lo Z.K.hi&&(l.all (λq=>FI q 0 Jg)&&FI g 0 9)))=FS:=λh=>by
   rw[show Ja Z.K z=FM from c1,c2,al,c4] at h;cases h
  obtain⟨sp,_⟩:=w9 (l:=l) λq hq=>mV (ha q hq);refine cr (cO gb #[_,bw (aaG Gc) (by rfl) T.afo boot_sum (aa (pv 5) ag),L,l,Gc,cB.of hL',cN #[_,_,Gc,Gc,_,Gc,dA (λh=>?_) λh=>?_]])
  .rw[Ec good (sp.mp h)] at GW
   refine aN 8 nd (bL (aP (bB 0 (aP (bB 1 (cF (.mk Gc Gc Gc R i Gc (λc h=>er c (by rw[<-GW,h])) λpar h=>?_)))))) (ah1 T XC) (hr.mono (by lia)) T.ZV.c aA);rw[h] at GW;dsimp only at GW;refine aN 9 nd #[_,aG (ahY T) (hr.mono (by lia)) (by rfl) T.d_M.c aQ (aa (ah (pv 1) Gc) ag),i.fld R.same T.KI T.OO Gc #[b,Gc,?_]];refine fk (bL (aP (bB 0 (aP (cn (bB 1 (i.fld R.same T.KI T.ON Gc ?_)) Gc)))) (ah2 T XC) (hr.mono (by lia)) T.ZW.c aA) Gc;refine aP (abo (oZ T) (hr.mono (by lia)) (aP (cn (bB 0 (R.dk T ?_)) Gc)));refine aP (bB 3 (aP (bB 9 (aP (bB 4 (aP (bB 6 (aP (bB 8 (aP (bB 5 (cF #[Gc,λy dx H2 hy sm e=>cF ?_]))))))))))));have hB:=(R.fresh hy).1;refine .mk (nm:=nm) (o:= .block dk z.toNat b p g.toNat par l) Gc Gc Gc (R.new sm hy e) #[L,hL.o,#[y,dx,Gc,λz=>z,?_],?_,ll] (λh=>er (-15) (by rw[<-GW,Fm h])) λh B' H' R'=>q _ n4 H' (by rw[<-GW,Fj (FC.not_le.mpr h)]) (by lia) #[R'.less (F3 _)]
   .rw[ae,hd,MH (mV c1),MH (mV c4)]
    rfl
   .rw[ac (ai hL.h hB)];exact hL.h
  .rw[zj good (Classical.byContradiction λz=>h (sp.mpr z))] at GW
   exact cf (q _ n4 H' GW.symm (by lia) #[R.less (F3 _)])
section
open Vbemac (ev runOne)
def uL (k:FC) (S:Ia) (M:Kd) (d:FC) (v:Hq) (s:Hb) (w:Gy) (n:FC):Vbemac.Res (Hq×Gy):=match s with
 | .bind x e=>(match ev k S v e n with
  | .error c=> .error c
  | .ok (a,m)=> .ok (((x,a)::v,w),m))
 |s=>(match runOne k S M d v s w n with
  | .error c=> .error c
  | .ok (u,m)=> .ok ((v,u),m))
theorem zZ {w:Gy} :JL (k+1) S M d v (.cons s r) w (n+1)=(match uL k S M d v s w n with
  | .error c=> .error c
  | .ok (x,m)=>JL k S M d x.1 r x.2 m):=by
 conv=>lhs;unfold JL
 unfold uL;cases s<;>dsimp only
 .cases ev k S v _ n<;>rfl
 all_goals cases runOne k S M d v _ w n<;>rfl
inductive EL (S:Ia) (U:E9 Fb) (en:Hq):E9 Fb->Hq->Prop
 |refl:EL S U en U en
 |cons {U':E9 Fb}{Uc:Hq}{x:Fb}{z:Int}(_:EL S U en U' Uc) (_:x∉U') (_: ∀y,dB (Q4 Uc y)) (_: ∀y∈S.consts.map (·.1),y∈U'):EL S U en (x::U') ((x,z)::Uc)
theorem cP.back {Z:Zx}{U:E9 Fb}{en:Hq}{U':E9 Fb}{Uc:Hq}(x:EL Z.S U en U' Uc): ∀ {j n:FC}{B H:Hp}{w:Gy},cP Z j B H U' Uc w n->cP Z j B H U en w n:=by
 induction x with
 |refl=>exact λR=>R
 |cons _ ny bg lo ih=>
  intro j n B H w R;obtain⟨FO,W,A,gs,eb,hj⟩:=R;exact ih #[FO,W,A.unset ny bg λ_=>lo,gs,eb,hj]
theorem cP.ext {B H:Hp}{w:Gy}(E:EL Z.S U en U' Uc) (R:cP Z j B H U' Uc w n) (ny:x∉U'):EL Z.S U en (x::U') ((x,z)::Uc):=by
 obtain⟨_,_,A,_,_,_⟩:=R;exact .cons E ny A.big (A.low Gc)
inductive CL (K:Fe) (a:bf) (vs:E9 V) (H:Hp) (Q:VK) (E:XK):Prop
 |mk {Z:Zx}{j:FC}{B:Hp}{U:E9 Fb}{en:Hq}{w:Gy}{n k:FC}{C:Fi}{x:Fb}{e:Fs}{u v:V}(_:vs=[.ref Z.c.wk,v]) (_:Z.a=a) (_:Z.E=E) (_:cP Z (j+1) B H U en w n) (_:bF Z.M Z.N C [("name", .str (sb x)),("exp",u)] v) (_:gM K C) (_:ao K C "name") (_:ao K C "exp") (_:au Z.a Z.M Z.N e u) (_:x∉U) (_:WS U Z.F0 e) (_:3*n+1<=k) (_: ∀c,ev k Z.S en e n= .error c->Qe Z c) (_: ∀y m H',ev k Z.S en e n= .ok (y,m)->m<n->dB y->cP Z j B H' (x::U) ((x,y)::en) w m->Q .IJ H'):CL K a vs H Q E
theorem ah4 (T:aW K mg a) (XC:XW K a) (KX:mh K a) (Tv:9<=kl):T.d_z.O P w base (kl+1) (CL K a):=by
 refine fP T.d_z.F alo [03] [02];obtain @⟨Z,j,B,U,en,w',n,k,C,x,e,u,v,rfl,rfl,rfl,R,i,cl,n1,n2,ex,nx,ws,hk,er,q⟩:=h;have Y:EX (e8 (fY P w) P w K mg base ["worker","given"] "give_value" (af s_z) Z.a.f_z GU A outer s H Z.E) Z.a Z.E:=#[T,XC,KX,hr.mono Tv,aA];exact fk (vz Y R (pv 0) [05] (ah (pv 1) Gc) (λ_ q=>i.fld R.same cl n1 Gc q) (nP (k:=k) Y R (pv 0) [05] (ah (pv 1) Gc) (λ_ q=>i.fld R.same cl n2 Gc q) ex ws hk er (λy m H' h hm hb R'=>#[B,y,w',m,Gc,R',nx,hb,λH2 R2=>q y m H2 h hm hb R2]) Gc (eM Gc Gc)) Gc Gc (eM Gc Gc)) Gc
inductive tW (a:bf) (lv:FC) (vs:E9 V) (H:Hp) (Q:VK) (E:XK):Prop
 |mk {Z:Zx}{j:FC}{B:Hp}{U:E9 Fb}{en:Hq}{w:Gy}{n k dk:FC}{l:Jd}{v:V}(_:vs=[.ref Z.x,v]) (_:Z.a=a) (_:Z.E=E) (_:Z.d=dk) (_:cP Z j B H U en w n) (_:on Z.a Z.M Z.N l v) (_:zI lv U Z.F0 l) (_:3*n+2<=k) (_: ∀c,JL k Z.S Z.K dk en l w n= .error c->Qe Z c) (_: ∀u m B' H',JL k Z.S Z.K dk en l w n= .ok (u,m)->m<=n->cP Z 0 B' H' U en u m->Q .IJ H'):tW a lv vs H Q E
inductive B3 (a:bf) (lv:FC) (vs:E9 V) (H:Hp) (Q:VK) (E:XK):Prop
 |mk {Z:Zx}{B:Hp}{U:E9 Fb}{en:Hq}{w:Gy}{n k dk:FC}{st:Hb}{v:V}(_:vs=[.ref Z.x,v]) (_:Z.a=a) (_:Z.E=E) (_:Z.d=dk) (_:cP Z 5 B H U en w n) (_:a7 Z.a Z.M Z.N st v) (_:WT lv U Z.F0 st) (_:3*n+4<=k) (_: ∀c,uL k Z.S Z.K dk en st w n= .error c->Qe Z c) (_: ∀x m B' H',uL k Z.S Z.K dk en st w n= .ok (x,m)->m<=n->cP Z 0 B' H' (bnd U st) x.1 x.2 m->(∀ {U0 en0},EL Z.S U0 en0 U en->EL Z.S U0 en0 (bnd U st) x.1)->Q .IJ H'):B3 a lv vs H Q E
theorem al7 (T:aW K mg a) (XC:XW K a) (KX:mh K a) (Tv:9<=kl) (G:T.W5.O P w base kl (tW a (lv-1))):T.d_E.O P w base (kl+1) (jU a lv λs=> ∃c x y,s= .cond c x y):=by
 refine wj T XC KX Tv T.d_E.F agL λGU A outer s H Z B U en w' n k dk sm v Q hr ha hd ho R sa wt hk er q=>?_;intro X D Y;subst ha;obtain⟨ec,l1,l2,rfl⟩:=ho;unfold a7 at sa;obtain⟨u,q1,us,q2,vs,i,ex,h1,h2,h3,h4⟩:=sa;unfold WT at wt;obtain⟨w1,lv1,w2,w3⟩:=wt;generalize GW:runOne (k+1) Z.S Z.K dk en (.cond ec l1 l2) w' n=res at er q;unfold runOne at GW;dsimp only at GW;refine cr (cO qf (nP (k:=k) Y R [08] (λ_ q=>R.wk T q) (ah (pv 1) Gc) (λ_ q=>i.fld R.same T.SJ T.NY Gc q) ex w1 (by lia) (λc h=>er c (by rw[<-GW,h])) (λz m H h hm _ R=>cN #[Gc,_,Gc,?_]) Gc Gc));rw[h] at GW;dsimp only at GW;rw[cj,<-decide_not];refine dA (λhz=>?_) λhz=>?_
 .rw[Fm hz] at GW
  exact fk (bL (aP (bB 0 (aP (cn (bB 1 (i.fld R.same T.SJ T.Nz Gc (cF (.mk (k:=k) Gc Gc Gc hd R #[us,h1,h2] w2 (by lia) (λc h=>er c (GW.symm.trans h)) λu m' B' H' h P5 R'=>q u m' H' (GW.symm.trans h) (by lia) #[R'])))) Gc)))) G hr T.W5.c aA) Gc
 .rw[Fj hz] at GW
  exact fk (bL (aP (bB 0 (aP (cn (bB 1 (i.fld R.same T.SJ T.Lu Gc (cF (.mk (k:=k) Gc Gc Gc hd R #[vs,h3,h4] w3 (by lia) (λc h=>er c (GW.symm.trans h)) λu m' B' H' h P5 R'=>q u m' H' (GW.symm.trans h) (by lia) #[R'])))) Gc)))) G hr T.W5.c aA) Gc
end
def stx:Hb->FC
 | .bind .. =>7
 | .loop .. =>8
 | .cond .. =>9
 | .step .. =>10
 | .block .. =>11
theorem BK {a:bf}{M:Fi->Prop}{H:Hp}(h:a7 a M H s v):Nd1 a M H (stx s) v:=by
 cases s<;>unfold a7 at h
 .obtain⟨_,h,_⟩:=h;exact#[h,Gc]
 .obtain⟨_,_,_,_,h,_⟩:=h;exact#[h,Gc]
 .obtain⟨_,_,_,_,_,h,_⟩:=h;exact#[h,Gc]
 .obtain⟨_,_,_,_,_,h,_⟩:=h;exact#[h,Gc]
 .obtain⟨_,_,_,_,h,_⟩:=h;exact#[h,Gc]
theorem al8 (T:aW K mg a) (XC:XW K a) (KX:mh K a) (Tv:9<=kl) (G:T.W5.O P w base kl (tW a (lv-1))):T.d_A.O P w base (kl+1) (jU a lv λs=> ∃x lo hi l,s= .loop x lo hi l):=by
 refine wj T XC KX Tv T.d_A.F aaW λGU A outer s H Z B U en w' n k dk sm v Q hr ha hd ho R sa wt hk er q=>?_;intro X D Y;subst ha;obtain⟨x,lo,hi,l,rfl⟩:=ho;unfold a7 at sa;obtain⟨u1,u2,ql,us,i,a1,a2,h1,h2⟩:=sa;unfold WT at wt;obtain⟨nx,w1,w2,lv1,w3⟩:=wt;generalize GW:IZ (k+1) Z.S Z.K dk en (.loop x lo hi l) w' n=res at er q;unfold IZ at GW;dsimp only at GW;have nd:=aaW.nd;refine aN 2 nd (cn (bB 0 (R.wk T ?_)) Gc);refine gk (k:=k) 3 2 Y nd R Gc Gc i T.P0 T.Pn Gc a1 w1 (by lia) (λc h=>er c (by rw[<-GW,h])) λt n1 H h l1 bt R=>?_;rw[h] at GW;dsimp only at GW;refine gk (k:=k) 4 2 Y nd R Gc Gc i T.P0 T.Qq Gc a2 w2 (by lia) (λc h=>er c (by rw[<-GW,h])) λlast n2 H h l2 bl R=>?_;rw[h] at GW;dsimp only at GW;clear h;refine fS Jf (λi σ H=> ∃(t:Int) (B:Hp) (w'':Gy) (k:FC),σ=[Fa (.ref Z.x),Fa v,Fa (.ref Z.c.wk),Fa (.int t),Fa (.int last)]/\ -Kp<=t/\i<=n/\3*i+3<=k/\cP Z 0 B H U en w'' i/\Wz k Z.S Z.K dk en x t last l w'' i=res) n2 #[t,B,w',k,Gc,bt.1,by lia,by lia,R.less (F3 _),GW] ?_;rintro m σ H3 ⟨t,B,w3',k,rfl,bt,hm,hk,R,GW⟩;obtain⟨k,rfl⟩: ∃k',k=k'+1:=#[k-1,by lia];unfold Wz at GW;refine cO eP (bB 3 (bB 4 #[_,_,Gc,Gc,_,Gc,dA (λz=>?_) λz=>?_]))
 .rw[Fj (by lia)] at GW
  refine bD (uY Y R (pv 2) [05] [01] (λh=>er (-13) (by rw[<-GW,h])) (λm' H' h R'=>?_) (eM Gc Gc));subst h;dsimp only at GW;refine bD (vz (j:=4) Y R' (pv 2) [05] (ah (pv 1) Gc) (λ_ q=>i.fld R'.same T.P0 T.Qp Gc q) (bB 3 #[_,t,w3',m',Gc,R',nx,#[bt,Int.le_trans z bl.2],λH2 R2=>?_]) Gc Gc (eM Gc Gc));refine bD (bL (aP (bB 0 (aP (cn (bB 1 (i.fld R2.same T.P0 T.MY Gc (cF (.mk (k:=k) Gc Gc Gc hd R2 #[us,h1,h2] w3 (by lia) (λc h=>er c (by rw[<-GW,h])) λu m2 B2 H4 h hm2 R4=>?_)))) Gc)))) G hr T.W5.c aA);rw[h] at GW;dsimp only at GW;exact aR (kY (i:=3) nd Gc (G9 Gc) ak lq) #[_,Gc,_,_,Gc,Gc,cf #[m2,by lia,t+1,B2,u,k,Gc,by lia,by lia,by lia,R4.unset nx R,GW]]
 .rw[Fm (by lia)] at GW
  exact cf (q w3' m H3 GW.symm hm #[R])
theorem BM {w:Gy}(h:stx s≠7):uL k S M d v s w n=(match IZ k S M d v s w n with
  | .error c=> .error c
  | .ok (u,m)=> .ok ((v,u),m))/\ ∀U,bnd U s=U:=by
 cases s<;>first|exact FH Gc h|exact#[Gc,λ_=>rfl]
theorem ah5 (T:aW K mg a) (XC:XW K a) (KX:mh K a) (Tv:11<=kl)
  (G1:T.d_A.O P w base kl (jU a lv λs=> ∃x lo hi l,s= .loop x lo hi l))
  (G2:T.d_E.O P w base kl (jU a lv λs=> ∃c x y,s= .cond c x y)):
  T.d_V.O P w base (kl+1) (B3 a lv):=by
 refine okL T.d_V.F alp [03] [02];intro X D;obtain @⟨Z,B,U,en,w',n,k,dk,st,v,rfl,rfl,rfl,hd,R,sa,wt,hk,er,q⟩:=h;have nd:=BK sa;have one: ∀ {ok:Hb->Prop},ok st->stx st≠7->jU Z.a lv ok [.ref Z.x,v] H (λ_ H'=>Q .IJ H') Z.E:=λho h7=>by
  obtain⟨e1,e2⟩:=BM (k:=k) (S:=Z.S) (M:=Z.K) (d:=dk) (v:=en) (w:=w') (n:=n) h7;refine .mk (k:=k) Gc Gc Gc hd ho R sa wt hk (λc h=>er c (by rw[e1,h])) λu m H' h hm ⟨R'⟩=>q (en,u) m _ H' (by rw[e1,h]) hm (by rw[e2];exact R') λx=>by rw[e2];exact x
 have is: ∀ {cl:FR}{C:Fi}{A' T9:E9 Stmt}{p1 p2 p3 p4 p5:Pos}(j:FC),mg cl=Fa (.ref C)->(yB Z.a)[j]?=Fa C->Gl X cl->(cl == [003])=FS->(stx st=j->Bd X A' D [Fa (.ref Z.x),Fa v] H)->(stx st≠j->Bd X T9 D [Fa (.ref Z.x),Fa v] H)->Bd X [.If (.Call (.Name "isinstance" p1) [.Name "statement" p2, .Name cl p3] [] p4) A' T9 p5] D [Fa (.ref Z.x),Fa v] H:=λj hm hj hg hx yes no=>cr (vM KX T.Lh nd R.same hj hm (pv 1) [05] (dA yes no) (by rfl) hg hx)
 refine is 7 T.TU Gc Gc [01] (λz=>?_) λz7=>?_
 .cases st<;>first|cases z|skip
  rename_i x e;unfold a7 at sa;obtain⟨u,i,ex⟩:=sa;unfold WT at wt;refine fk (bL (aP (cn (bB 0 (R.wk T (aP (bB 1 (cF (.mk (k:=k) (j:=4) Gc Gc Gc R i T.RM T.Oe T.QQ ex wt.1 wt.2 (by lia) (λc h=>er c (by unfold uL;dsimp only;rw[h])) λy m H' h hm hb R'=>?_)))))) Gc)) (ah4 T XC KX (FF 9)) (hr.mono (by lia)) T.d_z.c aA) Gc;exact q ((x,y)::en,w') m _ H' (by unfold uL;dsimp only;rw[h]) (by lia) (R'.less (F3 _)) λX=>cP.ext X R wt.1
 refine is 8 T.V1 Gc Gc [01] (λz=>?_) λz8=>?_
 .exact fk (bL (aP (bB 0 (aP (bB 1 (cF (one (by cases st<;>first|exact#[_,_,_,_,Gc]|cases z) z7)))))) G1 hr T.d_A.c aA) Gc
 refine is 9 T.X6 Gc Gc [01] (λz=>?_) λz9=>?_
 .exact fk (bL (aP (bB 0 (aP (bB 1 (cF (one (by cases st<;>first|exact#[_,_,_,Gc]|cases z) z7)))))) G2 hr T.d_E.c aA) Gc
 refine is 10 T.Ux Gc Gc [01] (λz=>?_) λz10=>?_
 .exact fk (bL (aP (bB 0 (aP (bB 1 (cF (one (by cases st<;>first|exact#[_,_,_,_,_,_,Gc]|cases z) z7)))))) (ahZ T XC KX (FF 9)) (hr.mono (by lia)) T.ZT.c aA) Gc
 exact fk (bL (aP (bB 0 (aP (bB 1 (cF (one (by cases st<;>first|exact#[_,_,_,_,_,_,_,_,Gc]|exact FH Gc z7|exact FH Gc z8|exact FH Gc z9|exact FH Gc z10) z7)))))) (ah3 T XC KX (FF 10)) (hr.mono Tv) T.ZU.c aA) Gc
theorem ah6 (T:aW K mg a) (XC:XW K a) (KX:mh K a) (Tv:9<=kl) (G:T.d_V.O P w base kl (B3 a lv)):
  T.W5.O P w base (kl+1) (tW a lv):=by
 refine okL T.W5.F agK [03] [02];intro X D;obtain @⟨Z,j,B,U,en,w',n,k,dk,l,v,rfl,rfl,rfl,hd,R,⟨us,⟨L,rfl,_,hL⟩,sa⟩,wt,hk,er,q⟩:=h;have Y:EX X Z.a Z.E:=#[T,XC,KX,hr.mono Tv,aA];generalize GW:JL k Z.S Z.K dk en l w' n=res at er q;refine jK 2 Jf agK.nd (pv 1) [05] (λi σ H=> ∃(U':E9 Fb) (Uc:Hq) (B:Hp) (w'':Gy) (n' k':FC) (r:Jd) (y:Ft V),σ=[Fa (.ref Z.x),Fa (.ref L),y]/\EL Z.S U en U' Uc/\cP Z 0 B H U' Uc w'' n'/\bE Z.a Z.M Z.N r (us.drop i)/\zI lv U' Z.F0 r/\3*n'+2<=k'/\n'<=n/\JL k' Z.S Z.K dk Uc r w'' n'=res) #[U,en,B,w',n,k,l,_,Gc, .refl,R.less (F3 _),sa,wt,hk,FF n,GW] (λi σ H _ ⟨_,_,_,_,_,_,_,_,_,_,R,_⟩=>R.same _ _ hL) ?_ ?_
 .rintro i v σ H2 hi ⟨U',Uc,B,w2,n2,k2,r,y,rfl,xt,R,sa,wt,hk,hn,GW⟩
  obtain⟨lt,hv⟩:=Gh.mp hi;rw[Hs lt,hv] at sa;cases r with
  |nil=>unfold bE at sa;cases sa
  |cons st r=>
  unfold bE at sa;obtain⟨u,vs,e,s1,s2⟩:=sa;cases e;unfold zI at wt;obtain⟨k,rfl⟩: ∃k',k2=k'+1:=#[k2-1,by lia];refine bD (uY Y R [08] (λ_ q=>R.wk T q) [01] (λh=>er (-13) (by rw[<-GW,h];unfold JL;rfl)) (λm' H' h R'=>?_) Gc);subst h;rw[zZ] at GW;refine bD (bL (aP (bB 0 (aP (bB 2 (cF (.mk (k:=k) Gc Gc Gc hd R' s1 wt.1 (by lia) (λc h=>er c (by rw[<-GW,h])) λx m B' H' h hm R2 xt'=>?_)))))) G hr T.d_V.c aA);rw[h] at GW;exact gm #[_,x.1,B',x.2,m,k,r,_,Gc,xt' xt,R2,s2,wt.2,by lia,by lia,GW]
 .rintro σ H2 ⟨U',Uc,B,w2,n2,k2,r,y,rfl,xt,R,sa,wt,hk,hn,GW⟩
  rw[Ka (FF _)] at sa;cases r with
  |cons st r=>unfold bE at sa;obtain⟨_,_,e,_⟩:=sa;cases e
  |nil=>
  obtain⟨k,rfl⟩: ∃k',k2=k'+1:=#[k2-1,by lia];unfold JL at GW;exact cf (q w2 n2 B H2 GW.symm hn (R.back xt))
theorem BF (T:aW K mg a) (XC:XW K a) (KX:mh K a): ∀lv,T.W5.O P w base (13+3*lv) (tW a lv)
 |0=>ah6 T XC KX (by decide) (ah5 T XC KX (FF 11)
   (fP T.d_A.F aaW (λvs H Q E h=>by obtain⟨rfl,_⟩:=h;rfl) λGU A outer s H vs Q E hr h=>by
    obtain⟨_,_,_,_,⟨x,lo,hi,l,rfl⟩,_,_,wt,_⟩:=h;unfold WT at wt;exact FH wt.2.2.2.1 [01])
   (fP T.d_E.F agL (λvs H Q E h=>by obtain⟨rfl,_⟩:=h;rfl) λGU A outer s H vs Q E hr h=>by
    obtain⟨_,_,_,_,⟨c,x,y,rfl⟩,_,_,wt,_⟩:=h;unfold WT at wt;exact FH wt.2.1 [01]))
 |lv+1=>by
  have G:=BF T XC KX lv
  have:=ah6 T XC KX (by lia) (ah5 T XC KX (by lia) (al8 (lv:=lv+1) T XC KX (by lia) G) (al7 (lv:=lv+1) T XC KX (by lia) G));exact this.mono (by lia)
section
open Vbemac (ev runAll DOWN)
def Di (M:Kd) (t:Ho) (d:FC) (S:Ia) (l:E9 GC) (n:FC):Vbemac.Res (FC×Ia×E9 GC):=match t with
 | .const x e=>(match n with
  |0=> .error (-13)
  |n+1=>match ev DOWN S S.consts e n with
   | .error c=> .error c
   | .ok (a,m)=> .ok ((d,{ S with consts:=(x,a)::S.consts },l),m))
 | .func x ps e=> .ok ((d,{ S with funs:=(x,ps,e)::S.funs },l),n)
 | .desk _ b=>match runAll DOWN S M d S.consts b ⟨l,[]⟩ n with
  | .error c=> .error c
  | .ok (w,m)=> .ok ((d+1,S,w.orders),m)
theorem zw {d n:FC} :Nb M (t::r) d S l n=(match Di M t d S l n with
  | .error c=> .error c
  | .ok (x,m)=>Nb M r x.1 x.2.1 x.2.2 m):=by
 conv=>lhs;unfold Nb
 unfold Di;cases t with
 |const x e=>
  cases n with
  |zero=>rfl
  |succ n=>dsimp only;cases ev DOWN S S.consts e n<;>rfl
 |func x ps e=>rfl
 |desk x b=>dsimp only;cases runAll DOWN S M d S.consts b #[l,[]] n<;>rfl
theorem ah7 {s:fm} :look [s] x=s x:=by
 show(match s x with|some a=>Fa a|none=>s x)=s x
 cases s x<;>rfl
abbrev Zx.to (Z:Zx) (S:Ia) (F:E9 (Fb×FC)) (d:Int):Zx:= { Z with S:=S,F0:=F,d:=d }
theorem xP {Z:Zx}{j n:FC}{B H:Hp}{U:E9 Fb}{w:Gy}(R:cP Z j B H (x::U) ((x,y)::Z.S.consts) w n) (lo: ∀z∈Z.S.consts.map (·.1),z∈U):cP (Z.to { Z.S with consts:=(x,y)::Z.S.consts } Z.F0 Z.d) j B H (x::U) ((x,y)::Z.S.consts) w n:=by
 obtain @⟨r,b,ff,d,s,nd,kk,os,FO,W,A,gs,eb,hj⟩:=R;have sub: ∀z∈(((x,y)::Z.S.consts).map λa:Fb×Int=>a.1),z∈x::U:=λz hz=>by
  rcases Fy.mp hz with h|h
  .rw[h];exact Fq
  .exact Fp _ (lo z h)
 refine#[#[λf p hf=>?_,A.big],W,#[A.val,λz hz=>?_,λ_=>sub,A.big],gs,#[eb.sm,eb.hx,eb.hm,eb.ho,eb.hn,eb.nx,eb.po,eb.le,eb.pn,eb.ln,eb.nl,eb.q4],hj]
 .rcases FO.all f p hf with⟨g,h1,h2,⟨Kg,Fg,h3,h4,h5⟩,h6,h7⟩|h
  .exact .inl #[g,h1,h2,#[Kg,Fg,h3,λz hz=>Fp _ (h4 z hz),h5],h6,h7]
  .exact .inr h
 .have:=A.val z (sub z hz)
  rw[ah7] at this;exact this
theorem gR {α:Type}{F:E9 (Fb×α)}{x f:Fb}{y:α} :(((x,y)::F).find? λh=>h.1 == f)=if x=f then Fa (x,y) else F.find? λh=>h.1 == f:=by
 rw[Hj];by_cases h:x=f
 .rw[Fm h,show((x,y).1 == f)=FM from beq_iff_eq.mpr h]
 .rw[Fj h,show((x,y).1 == f)=FS from beq_eq_false_iff_ne.mpr h]
theorem yE {S:Ia}{F:E9 (Fb×FC)}{x:Fb}{ps:E9 Fb}{e:Fs}{U:E9 Fb}(FO:gy S F) (nx: ∀g∈F,g.1≠x) (nd:ps.Nodup) (l6:ps.length<=6) (ws:WS (ps++U) F e) (vc: ∀z∈U,z∈S.consts.map (·.1)):gy { S with funs:=(x,ps,e)::S.funs } ((x,ps.length)::F):=by
 have sub:Sub F ((x,ps.length)::F):=λf p h=>by
  rw[gR,Fj λz=>nx p (Kz h) (by have:=Q3 h;rw[z];exact beq_iff_eq.mp this)];exact h
 refine#[λf p hf=>?_,FO.ahE];rw[gR] at hf;by_cases h:x=f
 .rw[Fm h] at hf
  cases hf;exact .inl #[(x,ps,e),by show E9.find? _ ((x,ps,e)::S.funs)=_;rw[gR,Fm h],Gc,#[U,F,ws,vc,sub],nd,l6]
 .rw[Fj h] at hf
  have e1:(((x,ps,e)::S.funs).find? λh=>h.1 == f)=S.funs.find? λh=>h.1 == f:=by rw[gR,Fj h]
  rcases FO.all f p hf with⟨g,h1,h2,⟨Kg,Fg,h3,h4,h5⟩,h6,h7⟩|⟨h1,h2⟩
  .exact .inl #[g,e1.trans h1,h2,#[Kg,Fg,h3,h4,λf p h=>sub f p (h5 f p h)],h6,h7]
  .exact .inr #[e1.trans h1,h2]
section
variable {B H:Hp}{w:Gy}
theorem EB.ah8 {nd VC:Fi}{kk kk':E9 (a8×V)}{os:E9 V}{w':Gy}{d':Int}(eb:EB Z B w nd kk os) (hn:aF B Z.x (.ins Z.a.Gr Z.dx (xF Z.m Z.c.wk Z.ol d' VC)) VC=Fa (.dK kk')) (hN:Z.N VC=FB) (ho:w'.orders=w.orders) (pn: ∀u,bO kk' (nk u)=(w'.names.find? λa=>a.1 == u).map λa=>V.int (a.2:FC)) (ln:kk'.length<=w'.names.length) (nl:w'.names.length<=w'.orders.length):EB (Z.to Z.S Z.F0 d') (aF B Z.x (.ins Z.a.Gr Z.dx (xF Z.m Z.c.wk Z.ol d' VC))) w' VC kk' os:=by
 have ne: ∀ {b:Fi}{u:HO},B b=Fa u->(∀C d fs,fs.length=5->u≠ .ins C d fs)->aF B Z.x (.ins Z.a.Gr Z.dx (xF Z.m Z.c.wk Z.ol d' VC)) b=Fa u:=λe n=>by rw[ac (pS e eb.hx (n _ _ _ Gc))];exact e
 have n7: ∀C d fs,fs.length=7->B Z.x≠Fa (.ins C d fs):=λC d fs hl z=>by
  rw[eb.hx] at z;have:=Gq OG (HO.ins.inj (FG z)).2.2;rw[hl] at this;cases this
 refine#[λb u e=>by rw[ac λz=>by rw[z,eb.nx.1] at e;cases e];exact eb.sm b u e,ae,ne eb.hm λC d fs hl z=>?_,ne eb.ho nofun,hn,#[eb.nx.1,eb.nx.2.1,hN],by rw[ho];exact dZ eb.po λv x z=>mU z n7 (.inr λ_ z=>by rw[eb.hx] at z;cases z),by rw[ho];exact eb.le,pn,ln,nl,eb.q4]
 .have:=Gq OG (HO.ins.inj z).2.2
  rw[hl] at this;cases this
theorem cP.desk (R:cP Z j B H U en w n): ∃nd,H Z.x=Fa (.ins Z.a.Gr Z.dx (xF Z.m Z.c.wk Z.ol Z.d nd))/\ ∀d',cP (Z.to Z.S Z.F0 d') j (aF B Z.x (.ins Z.a.Gr Z.dx (xF Z.m Z.c.wk Z.ol d' nd))) (aF H Z.x (.ins Z.a.Gr Z.dx (xF Z.m Z.c.wk Z.ol d' nd))) U en w n:=by
 obtain @⟨r,b,ff,d,s,nd,kk,os,FO,W,A,gs,eb,hj⟩:=R;refine#[nd,W.O.same _ _ eb.hx,λd'=>cP.put (Z:=Z.to Z.S Z.F0 d') FO W A gs hj eb.hx eb.nx.1 (eb.ah8 (by rw[ac (pS eb.hn eb.hx nofun)];exact eb.hn) eb.nx.2.2 Gc eb.pn eb.ln eb.nl)]
theorem cP.reset (R:cP Z j B H U en w n) (h:H p=FB): ∃nd,aF H p (.dK []) Z.x=Fa (.ins Z.a.Gr Z.dx (xF Z.m Z.c.wk Z.ol Z.d nd))/\ ∃B',cP Z j B' (aF (aF H p (.dK [])) Z.x (.ins Z.a.Gr Z.dx (xF Z.m Z.c.wk Z.ol Z.d p))) U en #[w.orders,[]] n:=by
 obtain⟨hB,hN,_⟩:=R.fresh h;have R:=R.new (o:= .dK []) (a9 h) h ae;obtain @⟨r,b,ff,d,s,nd,kk,os,FO,W,A,gs,eb,hj⟩:=R;exact#[nd,W.O.same _ _ eb.hx,_,cP.put FO W A gs hj eb.hx eb.nx.1 (eb.ah8 (Z:=Z) (d':=Z.d) (w':=#[w.orders,[]]) (kk':=[]) (by rw[ac (pS ae eb.hx nofun),ae]) hN Gc (λ_=>rfl) (F3 _) (F3 _))]
end
def tpx:Ho->FC
 | .const .. =>12
 | .func .. =>13
 | .desk .. =>14
theorem Ev {a:bf}{M:Fi->Prop}{H:Hp} : ∀ {t:Ho}{v:V},fj a M H t v->Nd1 a M H (tpx t) v
 | .const ..,_,⟨_,h,_⟩=>#[h,Gc]
 | .func ..,_,⟨_,_,h,_⟩=>#[h,Gc]
 | .desk ..,_,⟨_,_,h,_⟩=>#[h,Gc]
inductive TS (Z:Zx) (H:Hp) (U:E9 Fb) (l:E9 GC) (n d:FC) (r:Jr):Prop
 |mk (B:Hp) (nm:E9 (Fb×FC)) (_:cP Z 0 B H U Z.S.consts ⟨l,nm⟩ n) (_: ∀z∈U,z∈Z.S.consts.map (·.1)) (_:Z.d+1=d) (_:Z.S.funs.length<=Z.F0.length) (_:wV U Z.F0 r):TS Z H U l n d r
inductive YI (a:bf) (vs:E9 V) (H:Hp) (Q:VK) (E:XK):Prop
 |mk {Z:Zx}{U:E9 Fb}{l:E9 GC}{n d:FC}{t:Ho}{r:Jr}{v:V}(_:vs=[.ref Z.x,v]) (_:Z.a=a) (_:Z.E=E) (_:TS Z H U l n d (t::r)) (_:n<=10000) (_:fj Z.a Z.M Z.N t v) (_: ∀c,Di Z.K t d Z.S l n= .error c->Qe Z c) (_: ∀x m H' U' F',Di Z.K t d Z.S l n= .ok (x,m)->m<=n->TS (Z.to x.2.1 F' ((x.1:Int)-1)) H' U' x.2.2 m x.1 r->Q .IJ H'):YI a vs H Q E
theorem ah9 (T:aW K mg a) (XC:XW K a) (KX:mh K a):T.ZQ.O P w base 32 (YI a):=by
 refine okL T.ZQ.F agJ [03] [02];intro X D;obtain @⟨Z,U,l,n,d,t,r,v,rfl,rfl,rfl,⟨B,nm,R,vc,hd,fl,wt⟩,hn,ta,er,q⟩:=h;have Y:EX X Z.a Z.E:=#[T,XC,KX,hr.mono [01],aA];have nd:=Ev ta;have is: ∀ {cl:FR}{C:Fi}{A' T9:E9 Stmt}{p1 p2 p3 p4 p5:Pos}(j:FC),mg cl=Fa (.ref C)->(yB Z.a)[j]?=Fa C->Gl X cl->(cl == [003])=FS->(tpx t=j->Bd X A' D [Fa (.ref Z.x),Fa v] H)->(tpx t≠j->Bd X T9 D [Fa (.ref Z.x),Fa v] H)->Bd X [.If (.Call (.Name "isinstance" p1) [.Name "top" p2, .Name cl p3] [] p4) A' T9 p5] D [Fa (.ref Z.x),Fa v] H:=λj hm hj hg hx yes no=>cr (vM KX T.Lh nd R.same hj hm (pv 1) [05] (dA yes no) (by rfl) hg hx)
 generalize GW:Di Z.K t d Z.S l n=res at er q;refine is 12 T.SG Gc Gc [01] (λz=>?_) λz12=>?_
 .cases t<;>first|cases z|skip
  rename_i x e;obtain⟨u,i,ex⟩:=ta;unfold wV at wt;obtain⟨nx,ws,wr⟩:=wt;unfold Di at GW;dsimp only at GW;refine bD (uY Y R [08] (λ_ q=>R.wk T q) [01] (λh=>er (-13) (by rw[<-GW,h])) (λm H1 h R1=>?_) Gc);subst h;dsimp only at GW;refine fk (bL (aP (cn (bB 0 (R1.wk T (aP (bB 1 (cF (.mk (k:=DOWN) (j:=4) Gc Gc Gc R1 i T.QR T.OQ T.Pu ex nx ws (by show 3*m+1<=34000;lia) (λc h=>er c (by rw[<-GW,h])) λy m' H' h hm hb R'=>?_)))))) Gc)) (ah4 T XC KX (FF 9)) [07] T.d_z.c aA) Gc;rw[h] at GW;have lo: ∀z∈Z.S.consts.map (·.1),z∈U:=by obtain⟨_,_,A,_,_,_⟩:=R;exact A.low Gc
  have e1:((d:Int)-1)=Z.d:=by lia
  refine q (d,_,l) m' H' (x::U) Z.F0 GW.symm (by lia) #[B,nm,?_,λz hz=>?_,?_,fl,wr]
  .show cP (Z.to _ Z.F0 ((d:Int)-1)) 0 B H' _ _ _ m'
   rw[e1];exact(xP R' lo).less (F3 _)
  .rcases Fy.mp hz with h|h
   .rw[h];exact Fq
   .exact Fp _ (vc z h)
  .show(d:Int)-1+1=d;lia
 refine is 13 T.V3 Gc Gc [01] (λz=>?_) λz13=>?_
 .cases t<;>first|cases z|skip
  rename_i x ps e;have ta':=ta;obtain⟨ql,u,i,_⟩:=ta;unfold wV at wt;obtain⟨f8,nx,VC,l6,ws,wr⟩:=wt;unfold Di at GW;have wk: ∀ {Q:VK},Q (.ref Z.c.wk) H->dC K "worker" Q (.ref Z.x) H:=λq=>R.wk (X:=X) T q
  have sm:=R.same;obtain @⟨r',b,ff,sd,sco,nn,kk,os,FO,W,A,gs,eb,hj⟩:=R
  have e1:((d:Int)-1)=Z.d:=by lia
  refine d8 (g9 (dn hr) (ah [08] Gc) (ah (pv 1) Gc) (pv 1) Gc) (wk (W.fld T T.Ky Gc (i.fld sm T.QS T.Qr Gc #[Z.c.fa,_,Gc,sH.k (k:=nk x) (W.O.get 3 Gc) (by rw[Ic];have:=W.fn.1;lia),?_])));refine q (d,_,l) n _ U ((x,ps.length)::Z.F0) GW.symm (FF n) #[B,nm,?_,vc,?_,Hi fl,wr]
  .show cP (Z.to _ _ ((d:Int)-1)) 0 B _ _ _ _ n
   rw[e1];refine#[yE FO nx VC l6 ws vc,#[W.O.put (L1:=[_,_,_]),#[FP (cH _ _ _) (Hi W.fn.1),λf=>?_],W.sq, .nil,W.bn],#[A.val,A.bot,A.low,A.big],gs,#[eb.sm,eb.hx,eb.hm,eb.ho,eb.hn,eb.nx,eb.po,eb.le,eb.pn,eb.ln,eb.nl,eb.q4],hj];rw[gR,gB];by_cases hf:x=f
   .rw[Fm hf,Fm (by rw[hf])]
    exact#[v,Gc,fj.HV (λb o e m=>#[m,eb.sm b o e]) _ ta']
   .rw[Fj hf,Fj λz=>hf (eu (JE z)).symm]
    exact W.fn.2 f
  .show(d:Int)-1+1=d;lia
 .cases t<;>first|exact FH Gc z12|exact FH Gc z13|skip
  rename_i x b;obtain⟨ql,us,i,h1,h2⟩:=ta;unfold wV at wt;unfold Di at GW;dsimp only at GW;refine is 14 T.Uy Gc Gc [01] (λ_=>?_) λz=>FH Gc z;obtain⟨nn,hx,R1⟩:=R.desk;have R1:=R1 d;refine aR (gO (pv 0) ak nN) #[Z.x,_,Z.dx,_,_,Gc,hx,T.HI,T.Lg,Gc,_,_,Gc,Gc,Z.dx,_,hx,(by show 5<1000;decide),?_];rw[hd];refine aR (b5 (pv 0) e9 Gc) λVC Yf=>?_;obtain⟨nn',hx',B',R2⟩:=R1.reset Yf;refine#[Z.x,_,Z.dx,_,Gc,hx',T.HI,T.J5,(by show 5<1000;decide),?_];refine fk (bL (aP (bB 0 (aP (cn (bB 1 (i.fld R2.same T.RN T.MA Gc (cF (.mk (Z:=Z.to Z.S Z.F0 d) (k:=DOWN) Gc Gc Gc Gc R2 #[us,h1,h2] wt.1 (by show 3*n+2<=34000;lia) (λc h=>er c (by rw[<-GW,h])) λu m B2 H2 h hm R3=>?_)))) Gc)))) (BF T XC KX 6) hr T.W5.c aA) Gc;rw[h] at GW;refine q (d+1,Z.S,u.orders) m H2 U Z.F0 GW.symm hm #[B2,u.names,?_,vc,?_,fl,wt.2]
  .show cP (Z.to _ _ (((d+1:FC):Int)-1)) 0 B2 _ _ _ _ m
   rw[show(((d+1:FC):Int)-1)=d by lia];exact R3
  .show((d+1:FC):Int)-1+1=_;lia
end
section
variable {B N H H':Hp}
theorem Ow.Ud (O:Ow B (c::L) H) (h:H p=FB):Ow B (c::(p,o)::L) (aF H p o):=
 (O.adds (N:=[(p,o)]) (a9 h) (λx hx=>by rw[FN.mp hx];exact#[h,ae]) (Gk.mpr #[nofun, .nil])).perm (.swap _ _ _)
theorem Ow.toB (O:Ow B (c::L) H):Ow (aF B c.1 c.2) L H:=by
 have h0:=O.at_ c Fq;obtain⟨n1,n2⟩:=Gk.mp O.nd;refine#[λb u e=>?_,λx hx=>#[(O.at_ x (Fp _ hx)).1,?_],n2]
 .by_cases hb:b=c.1
  .rw[hb,ae] at e;rw[hb,<-e];exact h0.1
  .rw[ac hb] at e;exact O.same b u e
 .rw[ac λz=>n1 (by show c.1∈_;rw[<-z];exact KN (f:=λx:kR=>x.1) hx)]
  exact(O.at_ x (Fp _ hx)).2
end
abbrev wk0 (a:bf) (c:pL) (sd:Fi):E9 kR:=wkL a c 10000 (.int 0) [] [(sd,[])] []
inductive YJ (a:bf) (vs:E9 V) (H:Hp) (Q:VK) (_E:XK):Prop
 |mk {N:Hp}{L:E9 kR}{p dx:Fi}(_:vs=[.ref p]) (_:Ow N ((p, .ins a.HC dx [])::L) H) (_: ∀fa sd sl tl H',Ow N (wk0 a ⟨p,dx,fa,sl,tl,0⟩ sd++L) H'->Q .IJ H'):YJ a vs H Q _E
theorem nH (T:aW K mg a):T.ZK.U P w mg base 1 (YJ a):=by
 refine T.ZK.F.ok agu [03] [02];obtain @⟨N,L,p,dx,rfl,O,q⟩:=h;refine aR (b5 (pv 0) ak Gc) #[p,_,dx,_,Gc,O.get 0 Gc,T.Ih,T.L6,(by show 0<1000;decide),?_];have O:=O.put (L1:=[]) (o':= .ins a.HC dx (Ib "taken" (.int 0) []));refine aR (b5 (pv 0) e9 Gc) λfa hfa=>#[p,_,dx,_,Gc,(O.Ud (c:=(_,_)) hfa).get 0 Gc,T.Ih,T.Ky,(by show 1<1000;decide),?_];have O:=(O.Ud (c:=(_,_)) (o:= .dK []) hfa).put (L1:=[]) (o':= .ins a.HC dx (Ib "functions" (.ref fa) (Ib "taken" (.int 0) [])));refine aR (b5 (pv 0) (fR (aa e9 ag)) Gc) λsd hsd=>#[by show 1<=F8;decide,λsl hsl=>?_];have O:=(O.Ud (c:=(_,_)) (o:= .dK []) hsd).Ud (c:=(_,_)) (o:= .lst [.ref sd]) hsl;refine#[p,_,dx,_,Gc,O.get 0 Gc,T.Ih,T.JQ,(by show 2<1000;decide),?_];have O:=O.put (L1:=[]) (o':= .ins a.HC dx (Ib "scopes" (.ref sl) (Ib "functions" (.ref fa) (Ib "taken" (.int 0) []))));refine aR (b5 (pv 0) (fR ag) Gc) #[F3 _,λtl htl=>?_];have O:=O.Ud (c:=(_,_)) (o:= .lst []) htl;refine#[p,_,dx,_,Gc,O.get 0 Gc,T.Ih,T.IS,(by show 3<1000;decide),?_];have O:=O.put (L1:=[]) (o':= .ins a.HC dx (Ib "tasks" (.ref tl) (Ib "scopes" (.ref sl) (Ib "functions" (.ref fa) (Ib "taken" (.int 0) [])))));refine d8 (b5 (pv 0) ak Gc) #[p,_,dx,_,Gc,O.get 0 Gc,T.Ih,T.LH,(by show 4<1000;decide),q fa sd sl tl _ ?_];have O:=O.put (L1:=[]) (o':= .ins a.HC dx (Ib "result" (.int 0) (Ib "tasks" (.ref tl) (Ib "scopes" (.ref sl) (Ib "functions" (.ref fa) (Ib "taken" (.int 0) []))))));exact O.perm (.cons _ (.cons _ (.cons _ (.swap _ _ _))))
inductive YK (a:bf) (vs:E9 V) (H:Hp) (Q:VK) (_E:XK):Prop
 |mk {N:Hp}{L:E9 kR}{p dx m:Fi}(_:vs=[.ref p, .ref m]) (_:Ow N ((p, .ins a.Gr dx [])::L) H) (_: ∀c sd ol nd H',Ow N ((p, .ins a.Gr dx (xF m c.wk ol (-1) nd))::(nd, .dK [])::(ol, .lst [])::(wk0 a c sd++L)) H'->Q .IJ H'):YK a vs H Q _E
theorem kG (T:aW K mg a):T.ZP.U P w mg base 3 (YK a):=by
 refine T.ZP.F.ok agI [03] [02];obtain @⟨N,L,p,dx,m,rfl,O,q⟩:=h;refine aR (b5 (pv 0) (pv 1) Gc) #[p,_,dx,_,Gc,O.get 0 Gc,T.HI,T.Mn,(by show 0<1000;decide),?_];have O:=O.put (L1:=[]) (o':= .ins a.Gr dx (Ib "market" (.ref m) []));refine aR (b5 (pv 0) (Al T.Vb (nH T) hr (by rfl) T.U6 T.ZK.c.b .nil aQ) Gc) λx dw hx hdw ne=>?_;have O:=O.adds (N:=[(x, .ins a.HC dw [])]) (H':=aF (aF (aF H p (.ins a.Gr dx (Ib "market" (.ref m) []))) dw (.own x)) x (.ins a.HC dw [])) (λb o e=>by rw[ac (ai e hx),ac (ai e hdw)];exact e) (λy hy=>by rw[FN.mp hy];exact#[hx,ae]) (Gk.mpr #[nofun, .nil]);refine .mk Gc O λfa sd sl tl H2 O=>#[Gc,?_];have O:=O.perm (Wt (l₁:=wk0 a #[x,dw,fa,sl,tl,0] sd));refine#[p,_,dx,_,Gc,O.get 0 Gc,T.HI,T.Mo,(by show 1<1000;decide),?_];have O:=O.put (L1:=[]) (o':= .ins a.Gr dx (Ib "worker" (.ref x) (Ib "market" (.ref m) [])));refine aR (b5 (pv 0) (fR ag) Gc) #[F3 _,λol hol=>?_];have O:=O.Ud (c:=(_,_)) (o:= .lst []) hol;refine#[p,_,dx,_,Gc,O.get 0 Gc,T.HI,T.JP,(by show 2<1000;decide),?_];have O:=O.put (L1:=[]) (o':= .ins a.Gr dx (Ib "orders" (.ref ol) (Ib "worker" (.ref x) (Ib "market" (.ref m) []))));refine aR (b5 (pv 0) (dL cK ak) Gc) #[_,Gc,p,_,dx,_,Gc,O.get 0 Gc,T.HI,T.Lg,(by show 3<1000;decide),?_];have O:=O.put (L1:=[]) (o':= .ins a.Gr dx (Ib "desk" (.int (-1)) (Ib "orders" (.ref ol) (Ib "worker" (.ref x) (Ib "market" (.ref m) [])))));refine d8 (b5 (pv 0) e9 Gc) λnd Du=>?_;have O:=O.Ud (c:=(_,_)) (o:= .dK []) Du;refine#[p,_,dx,_,Gc,O.get 0 Gc,T.HI,T.J5,(by show 4<1000;decide),q #[x,dw,fa,sl,tl,0] sd ol nd _ ?_];exact O.put (L1:=[]) (o':= .ins a.Gr dx (Ib "named" (.ref nd) (Ib "desk" (.int (-1)) (Ib "orders" (.ref ol) (Ib "worker" (.ref x) (Ib "market" (.ref m) []))))))
theorem abp:gy #[[],[]] Lj:=#[λf p h=> .inr #[Gc,h],λx=>by unfold Q4;exact#[by show-Kp<=0;decide,by show 0<=Kp;decide]]
theorem DO:Ag #[[],[]] [] [] [λ_=>FB]:=#[nofun,nofun,(λ_ x h=>by cases h),λx=>by unfold Q4;exact#[by show-Kp<=0;decide,by show 0<=Kp;decide]]
def dk1:Ho->FC
 | .desk .. =>1
 |_=>0
theorem El:Jt (t::r)=dk1 t+Jt r:=by
 unfold Jt;cases t with
 |desk x b=>show _+1=_;rw[KG];rfl
 |const x e=>exact(KH _).symm
 |func x p e=>exact(KH _).symm
theorem aia (h:Di M t d S l n= .ok (x,m)):x.1=d+dk1 t:=by
 unfold Di at h;cases t with
 |func y p e=>cases h;rfl
 |const y e=>
  dsimp only at h;split at h
  .cases h
  .split at h
   .cases h
   .cases h;rfl
 |desk y b=>
  dsimp only at h;split at h
  .cases h
  .cases h;rfl
inductive A5 (a:bf) (vs:E9 V) (H:Hp) (Q:VK) (E:XK):Prop
 |mk {m dm l:Fi}{us:E9 V}{ss:Jr}{G:Kd}(_:vs=[.ref m, .ref l]) (_:H m=Fa (.ins a.J7 dm (mF G))) (_:G.quarters<=4) (_:H l=Fa (.lst us)) (_:Paired (λs v=>fj a (λp=>H p=FB) H s v) ss us) (_:wV [] Lj ss) (_: ∀c,MI G ss= .error c-> ∀H',aS H H'->o8 a E H' c) (_: ∀Z H' U o n,MI G ss= .ok (o,n)->Z.a=a->Z.N=H->TS Z H' U o n (Jt ss) []->Q (.ref Z.x) H'):A5 a vs H Q E
theorem al9 (T:aW K mg a) (XC:XW K a) (KX:mh K a):T.d_U.O P w base 33 (A5 a):=by
 refine okL T.d_U.F aaV [03] [02];intro X D;obtain @⟨m,dm,l,us,ss,G,rfl,hm,q4,hl,tl,wt,er,q⟩:=h;refine aR (cC (i:=2) aaV.nd Gc (.inl Gc) (gT T.RQ (kG T) [07] (by rfl) T.RK T.ZP.c.b .nil aQ (aa (pv 0) ag))) λx dx hx Vf ne=>?_;have O:Ow H [(x, .ins a.Gr dx [])] (aF (aF H dx (.own x)) x (.ins a.Gr dx [])):=#[λb o e=>by rw[ac (ai e hx),ac (ai e Vf)];exact e,λy hy=>by rw[FN.mp hy];exact#[ae,hx],Gk.mpr #[nofun, .nil]];refine .mk Gc O λc sd ol nd H1 O=>#[Gc,?_];have nn: ∀ {c:kR},c∈_->H c.1=FB:=λh=>(O.at_ _ h).2
 have n1:=(O.at_ _ (Fq)).2
 have n2:=(O.at_ _ (Fp _ Fq)).2
 have n3:=(O.at_ _ (Fp _ (Fp _ Fq))).2
 have VC:=O.nd
 have O1:=O.toB.toB.toB;rw[Hc] at O1
 let Z:Zx:=#[a,E,x,dx,m,dm,ol,c,H,G,#[[],[]],Lj,-1]
 have T0:TS Z H1 [] [] 10000 0 ss:=by
  obtain⟨m1,nd2⟩:=Gk.mp VC;obtain⟨m2,_⟩:=Gk.mp nd2;have x1:x≠nd:=λz=>m1 (by show x∈_;rw[z];exact .head _);have x2:x≠ol:=λz=>m1 (by show x∈_;rw[z];exact .tail _ (.head _));have x3:nd≠ol:=λz=>m2 (by show nd∈_;rw[z];exact .head _);have sm:aS H (aF (aF (aF H x (.ins a.Gr dx (xF m c.wk ol (-1) nd))) nd (.dK [])) ol (.lst [])):=λb o e=>by rw[ac (ai e n3),ac (ai e n2),ac (ai e n1)];exact e
  have eb:EB Z (aF (aF (aF H x (.ins a.Gr dx (xF m c.wk ol (-1) nd))) nd (.dK [])) ol (.lst [])) ⟨[],[]⟩ nd [] []:=#[sm,by show aF _ _ _ x=_;rw[ac x2,ac x1,ae],sm _ _ hm,ae,by rw[ac x3,ae],#[n1,n3,n2], .nil,F3 _,λ_=>rfl,FF _,FF _,q4]
  refine#[_,[],#[abp,#[O1,#[F3 _,λf=>rfl], .cons #[λ_=>rfl,F3 6] .nil, .nil,#[by decide,nofun,by show 1+10000<=10002;decide,by decide,by show 6+5*10000<=60000-0;decide,by show 60000-0<=60000;decide]],DO,λs hs y z hz=>?_,eb,F3 _],nofun,Gc,F3 _,wt];rw[FN.mp hs] at hz;cases hz
 generalize GW:MI G ss=res at er q;refine jK (L:=l) (xs:=us) 3 Jf aaV.nd (pv 1) [05] (λj σ H'=> ∃y S F d U o n e,σ=[Fa (.ref m),Fa (.ref l),Fa (.ref x),y]/\TS (Z.to S F d) H' U o n e (ss.drop j)/\n<=10000/\e+Jt (ss.drop j)=Jt ss/\Nb G (ss.drop j) e S o n=res) #[_,_,_,_,_,_,_,_,Gc,T0,FF _,KH _,GW] ?_ ?_ ?_
 .rintro j σ H2 _ ⟨y,S,F,d,U,o,n,e,rfl,⟨B,nm,R,_⟩,_⟩
  exact R.same _ _ hl
 .rintro j v σ H2 hv ⟨y,S,F,d,U,o,n,e,rfl,TS1,hn,he,ht⟩
  obtain⟨t,ht',at_⟩:=iW tl hv;have dr:ss.drop j=t::ss.drop (j+1):=(Gh.mp ht').elim λh z=>by rw[<-z];exact Hs h
  rw[dr] at TS1 he ht;rw[zw] at ht;rw[El] at he;refine fk (bL (aP (bB 2 (aP (bB 3 (cF (.mk (Z:=Z.to S F d) Gc Gc Gc TS1 hn at_ (λc h=>er c ?_) λx' m' H3 U' F' h P5 TS2=>?_)))))) (ah9 T XC KX) [07] T.ZQ.c aA) Gc
  .rw[<-ht]
   show(match Di G t e S o n with| .error c=>_| .ok (x,m)=>_)=_
   rw[h]
  .rw[h] at ht
   have:=aia h;exact#[_,_,_,_,_,_,_,_,Gc,TS2,by lia,by lia,ht]
 .rintro σ H2 ⟨y,S,F,d,U,o,n,e,rfl,TS1,hn,he,ht⟩
  have dr:ss.drop us.length=[]:=by rw[<-bA tl,QF]
  rw[dr] at TS1 he ht;have:e=Jt ss:=he;subst this;exact aM (bB 2 (q (Z.to S F d) H2 U o n ht.symm Gc Gc TS1))
end OS
namespace OS
open Vbemac
def W {α:Type}(p:P α) (t:MS) (Qo:α->MS->Prop) (Qe:FC->Pos->Prop):Prop:=match p t with
 | .ok (a,r)=>Qo a r
 | .error e=>Qe e.1 e.2
section
variable {α β:Type}{p:P α}{f:α->P β}{Qo Qo':α->MS->Prop}{Qe Qe':FC->Pos->Prop}{Ro:β->MS->Prop}
theorem yV {a:α}(e:p t= .ok (a,r)):W p t Qo Qe=Qo a r:=by unfold W;rw[e]
theorem i5 (h:p t= .error e):W p t Qo Qe=Qe e.1 e.2:=by unfold W;rw[h]
theorem jz:W (p>>=f) t Ro Qe=W p t (λa r=>W (f a) r Ro Qe) Qe:=by
 have e:(p>>=f) t=(match p t with
  | .error x=> .error x
  | .ok (a,r)=>f a r):=by
  show(FU p f) t=_
  unfold FU;show(Except.bind (p t) _)=_;cases p t with
  |error x=>rfl
  |ok z=>rfl
 unfold W;rw[e];cases h:p t with
 |error x=>rfl
 |ok z=>rfl
theorem Cl {a:α} :W (pure a:P α) t Qo Qe=Qo a t:=rfl
theorem abq:W (fail n:P α) t Qo Qe=Qe (if peek t= .bad then 1 else n) (place t):=rfl
theorem W.mono (h:W p t Qo Qe) (ho: ∀a r,Qo a r->Qo' a r) (he: ∀n q,Qe n q->Qe' n q):W p t Qo' Qe':=by
 unfold W at h ⊢;cases e:p t with
 |error x=>rw[e] at h;exact he _ _ h
 |ok z=>rw[e] at h;exact ho _ _ h
end
def aK {α:Type}(p:P α):Prop:= ∀t,peek t= .bad->p t= .error (1,place t)
def hJ {α:Type}(p:P α):Prop:= ∀t,peek t= .bad->p t= .error (1,place t)\/ ∃a,p t= .ok (a,t)
theorem aK.PF {α:Type}{p:P α}(h:aK p):hJ p:=λt e=> .inl (h t e)
section
variable {α β:Type}{p:P α}{f:α->P β}{Qo:α->MS->Prop}{Qe:FC->Pos->Prop}{Ro:β->MS->Prop}
theorem aK.bind (h:aK p):aK (p>>=f):=λt e=>by
 show(FU p f) t=_
 unfold FU;rw[h t e]
 rfl
theorem hJ.bind (h:hJ p) (k: ∀a,hJ (f a)):hJ (p>>=f):=λt e=>by
 show(FU p f) t=_\/ ∃a,(FU p f) t=_
 unfold FU;rcases h t e with z|⟨a,z⟩
 .rw[z];exact .inl Gc
 .rw[z];exact k a t e
theorem hJ.strict (h:hJ p) (k: ∀a,aK (f a)):aK (p>>=f):=λt e=>by
 show(FU p f) t=_
 unfold FU;rcases h t e with z|⟨a,z⟩
 .rw[z];rfl
 .rw[z];exact k a t e
theorem aK.LK (h:aK p) (e:peek t= .bad) (w:W p t Qo Qe):Qe 1 (place t):=by
 rw[i5 (h t e)] at w;exact w
end
theorem cq {t:MS}(e:peek t= .bad) (w:String):HP t w=FS:=by unfold HP;rw[e];rfl
theorem cT {t:MS}(e:peek t= .bad) (w:String):L5 t w=FS:=by unfold L5;rw[e];rfl
theorem aH {α:Type}(n:FC):aK (fail n:P α):=λt e=>by unfold fail;rw[Fm e]
theorem eS (w:String):aK (key w):=λt e=>by unfold key;rw[cq e];exact aH 2 t e
theorem bi (w:String):aK (sign w):=λt e=>by unfold sign;rw[cT e];exact aH 2 t e
theorem d9:aK anyName:=λt e=>by unfold anyName;rw[e];exact aH 2 t e
theorem fN (K:Known):aK (newName K):=λt e=>by unfold newName;rw[d9 t e]
theorem kK (B:Blocks):aK (blockName B):=λt e=>by unfold blockName;rw[d9 t e]
theorem kH (B:Blocks):aK (knownBlock B):=λt e=>by unfold knownBlock;rw[d9 t e]
theorem lJ:aK side:=λt e=>by unfold side;rw[cq e,cq e];exact aH 2 t e
theorem gN (B:Blocks):aK (maybeName B):=λt e=>by
 unfold maybeName;rw[cq e,cq e,Fj (by simp),kK B t e]
theorem fJ {α:Type}(a:α):hJ (pure a:P α):=λt _=> .inr #[a,Gc]
theorem lE (w:String):hJ (ifSign w):=λt e=>by unfold ifSign;rw[cT e];exact .inr #[_,Gc]
theorem rW (l:E9 String):hJ (Lz l):=λt e=>by unfold Lz;rw[e];exact .inr #[_,Gc]
theorem gc {α:Type}(w:String) (p:P α):hJ (behind w p):=λt e=>by unfold behind;rw[cq e];exact .inr #[_,Gc]
theorem iQ (k d:FC) (K:Known):aK (primary k d K):=λt e=>by
 cases k with
 |zero=>rw[primary];exact aH 6 t e
 |succ k=>rw[primary];simp only[e];exact aH 2 t e
theorem j4 (k d:FC) (K:Known):aK (unary k d K):=λt e=>by
 cases k with
 |zero=>rw[unary];exact aH 6 t e
 |succ k=>rw[unary];simp only[cT e,IY,MO];exact iQ k d K t e
theorem qH (k d:FC) (K:Known):aK (times k d K):=by
 cases k with
 |zero=>rw[times];exact aH 6
 |succ k=>rw[times];exact(j4 k d K).bind
theorem kh (k d:FC) (K:Known):aK (added k d K):=by
 cases k with
 |zero=>rw[added];exact aH 6
 |succ k=>rw[added];exact(qH k d K).bind
theorem lZ (k d:FC) (K:Known):aK (compared k d K):=by
 cases k with
 |zero=>rw[compared];exact aH 6
 |succ k=>rw[compared];exact(kh k d K).bind
theorem sQ (k d:FC) (K:Known):aK (ands k d K):=by
 cases k with
 |zero=>rw[ands];exact aH 6
 |succ k=>rw[ands];exact(lZ k d K).bind
theorem lM (k d:FC) (K:Known):aK (expr k d K):=λt e=>by
 cases k with
 |zero=>rw[expr];exact aH 6 t e
 |succ k=>rw[expr];simp only[cq e,IY,MO];exact(sQ k d K).bind t e
theorem lB (k d:FC) (K:Known) (n:FC):aK (arguments k d K n):=λt e=>by
 cases k with
 |zero=>rw[arguments];exact aH 6 t e
 |succ k=>rw[arguments];simp only[cT e,IY,MO];exact(lM k d K).bind t e
theorem mG (k d:FC) (K:Known):hJ (moreTimes k d K):=by
 cases k with
 |zero=>rw[moreTimes];exact(aH 6).PF
 |succ k=>
  rw[moreTimes];intro t e;refine .inr #[.nil,?_];show(FU _ _) t=_;unfold FU Lz;rw[e]
  rfl
theorem og (k d:FC) (K:Known):hJ (moreAdded k d K):=by
 cases k with
 |zero=>rw[moreAdded];exact(aH 6).PF
 |succ k=>
  rw[moreAdded];intro t e;refine .inr #[.nil,?_];show(FU _ _) t=_;unfold FU Lz;rw[e]
  rfl
theorem qx (k d:FC) (K:Known):hJ (moreAnd k d K):=by
 cases k with
 |zero=>rw[moreAnd];exact(aH 6).PF
 |succ k=>
  rw[moreAnd];intro t e;refine .inr #[.nil,?_];show(FU _ _) t=_;unfold FU ifSign;rw[cT e]
  rfl
theorem tQ (k d:FC) (K:Known):hJ (moreOr k d K):=by
 cases k with
 |zero=>rw[moreOr];exact(aH 6).PF
 |succ k=>
  rw[moreOr];intro t e;refine .inr #[.nil,?_];show(FU _ _) t=_;unfold FU ifSign;rw[cT e]
  rfl
theorem lG (k d:FC) (K:Known) (B:Blocks):aK (stmt k d K B):=λt e=>by
 cases k with
 |zero=>rw[stmt];exact aH 6 t e
 |succ k=>rw[stmt];simp only[cq e,IY,MO];exact lJ.bind t e
theorem kD (k d:FC) (K:Known) (B:Blocks):aK (stmts k d K B):=λt e=>by
 cases k with
 |zero=>rw[stmts];exact aH 6 t e
 |succ k=>rw[stmts];simp only[cT e,IY,MO];exact(lG k d K B).bind t e
theorem jr (k n:FC) (K:Known):aK (params k n K):=λt e=>by
 cases k with
 |zero=>rw[params];exact aH 6 t e
 |succ k=>
  rw[params];dsimp only;by_cases h:n=0
  .rw[Fm h];exact aH 7 t e
  .rw[Fj h];exact(fN K).bind t e
theorem rT (k:FC) (K:Known) (n:FC) (D:E9 Gm):aK (tops k K n D):=λt e=>by
 cases k with
 |zero=>rw[tops];exact aH 6 t e
 |succ k=>rw[tops];simp only[e,reduceCtorEq,MO,cq e,IY];exact aH 2 t e
end OS
namespace OS
open PySem PySem.Spec L2
open PyProof.Rows hiding St
variable {P:Ga}{w:GN}{K:Fe}{mg:FR->Ft Fh}{base:GY}{a:bf}
structure YL where
 p:Fi
 c:E9 (a8×V)
 x:Fi->E9 V->Prop
instance:Coe YL Fi:=#[YL.p]
structure Rb where
 r:Fi
 q:Fi
 kd:Fi
 fn:Fi
 ds:YL
 bl:YL
def eQ (B:Rb) (b:Fi):Prop:=b=B.r\/b=B.kd\/b=B.fn\/b=B.ds.p\/b=B.bl.p\/ ∃xs,B.bl.x b xs
inductive YM (H:Hp) (kd:Fi) (Kn:Fl):Prop
 |mk (kk:E9 (a8×V)) (_:H kd=Fa (.dK kk)) (_:kk.length<=Kn.values.length) (_: ∀u,has kk u=Kn.values.contains u):YM H kd Kn
inductive YN (H:Hp) (fn:Fi) (Kn:Fl):Prop
 |mk (ff:E9 (a8×V)) (_:H fn=Fa (.dK ff)) (_: ∀u,bO ff (nk u)=(Kn.funs.find? λf=>f.1 == u).map λf=>V.int (f.2:FC)):YN H fn Kn
inductive Dif (k f d b:Fi):Prop
 |mk (_:k≠f) (_:k≠d) (_:k≠b) (_:f≠d) (_:f≠b) (_:d≠b):Dif k f d b
structure abr (H:Hp) (kd fn:Fi) (Kn:Fl) (room:FC):Prop where
 vals:YM H kd Kn
 funs:YN H fn Kn
 len:Kn.values.length+room<=4000
 ama: ∃ff,H fn=Fa (.dK ff)/\ff.length=Kn.funs.length
theorem abr.fl {H:Hp}(h:abr H kd fn Kn room) (e:H fn=Fa (.dK ff)):ff.length=Kn.funs.length:=by
 obtain⟨gg,g1,g2⟩:=h.ama;rw[e] at g1;cases g1;exact g2
structure fo (a:bf) (B:Rb) (H:Hp) (n:FC) (t:Ff) (Kn:Fl):Prop where
 rd:n9 a H B.r B.q B.kd B.fn B.ds.p B.bl.p n t
 wh:fL t
 kn:abr H B.kd B.fn Kn t.length
 S6:H B.ds.p=Fa (.dK B.ds.c)
 So:H B.bl.p=Fa (.dK B.bl.c)
 P4:Dif B.kd B.fn B.ds.p B.bl.p
 fr: ∀b xs,B.bl.x b xs->H b=Fa (.lst xs)
theorem rl (kk:E9 (a8×V)) (u v:Fb) (y:V):has (dz kk (nk u) y) v=(decide (v=u)||has kk v):=by
 unfold has;rw[gB];by_cases e:v=u
 .rw[Fm (by rw[e]),GJ e];rfl
 .rw[Fj (λz=>e (eu (JE z))),Gb e];rfl
theorem vH (kk:E9 (a8×V)) (k j:a8):bO (fD kk k) j=if j=k then FB else bO kk j:=by
 induction kk with
 |nil=>unfold fD bO;split<;>rfl
 |cons p r ih=>
  unfold fD at ih ⊢;rw[QC];by_cases e:p.1=k
  .rw[Fj (by simp [e]),ih]
   by_cases j1:j=k
   .rw[Fm j1,Fm j1]
   .rw[Fj j1,Fj j1,b4 λz=>j1 (z.symm.trans e)]
  .rw[Fm (by simp [e])]
   by_cases j1:p.1=j
   .rw[cg j1,cg j1,Fj λz=>e (j1.trans z)]
   .rw[b4 j1,b4 j1,ih]
theorem so (kk:E9 (a8×V)) (u v:Fb):has (fD kk (nk u)) v=(!decide (v=u)&&has kk v):=by
 unfold has;rw[vH];by_cases e:v=u
 .rw[Fm (by rw[e]),GJ e];rfl
 .rw[Fj (λz=>e (eu (JE z))),Gb e];rfl
theorem mX:lY v k=decide (vb k=Fa v):=by
 unfold lY;cases k with
 |word u=>exact decide_eq_decide.mpr #[λz=>Gq Fa (V.str.inj z),λz=>Gq V.str (FG z)]
 |num n=>exact decide_eq_decide.mpr #[(λz=>nomatch z),(λz=>nomatch z)]
 |sign u=>exact decide_eq_decide.mpr #[λz=>Gq Fa (V.str.inj z),λz=>Gq V.str (FG z)]
 |eof=>exact decide_eq_decide.mpr #[λz=>Gq Fa (V.str.inj z),λz=>Gq V.str (FG z)]
 |bad=>exact decide_eq_decide.mpr #[λz=>Gq Fa (V.str.inj z),λz=>Gq V.str (FG z)]
theorem b7 (ok:f9 k) (h:cV x u):lY x k=(k == .word u):=by
 rw[mX,Hd,Gg,beq_iff_eq];exact AX ok h
theorem cR (ok:f9 k) (h:d7 x u):lY x k=(k == .sign u):=by
 rw[mX,Hd,Gg,beq_iff_eq];exact tK ok h
inductive YO (t:Ff):Prop
 |mk (x:GH×Gx) (r:Ff) (_:t=x::r) (_:f9 x.1) (_:FE t=x.1) (_:Ip t=x.2) (_: ¬jy x->fL r):YO t
theorem fL.first (w:fL t):YO t:=by
 cases t with
 |nil=>exact FH Gc w.ne
 |cons x r=>
  refine#[x,r,Gc,?_,Gc,Gc,λh=>(w.tail h).2];by_cases h:jy x
  .rcases h with h|h
   .rw[h];exact Hl
   .rw[h];exact Hl
  .exact(w.tail h).1.2.2
section
variable {H H' H2:Hp}{M:Fi->Prop}
theorem aS.keeps (s:aS H H'):db M H H':=λb o e _=>s b o e
theorem db.trans (k:db M H H') (l:db M H' H2):db M H H2:=λb o e m=>l b o (k b o e m) m
theorem db.refl:db M H H:=λ_ _ e _=>e
theorem n9.same (R:n9 a H r q kd fn ds bl n t) (s:aS H H'):n9 a H' r q kd fn ds bl n t:=by
 obtain⟨dr,e⟩:=R.ins;obtain⟨as,all,h1,h2,h3⟩:=R.toks;exact#[#[dr,s _ _ e],as,all,s _ _ h1,Paired.MU h2 λb z k=>k.keep λb' o e _=>s b' o e,h3]
theorem fo.same (S:fo a B H n t Kn) (s:aS H H'):fo a B H' n t Kn:=by
 obtain⟨kk,k1,k2,k3⟩:=S.kn.vals;obtain⟨ff,f1,f2⟩:=S.kn.funs;exact#[S.rd.same s,S.wh,#[#[kk,s _ _ k1,k2,k3],#[ff,s _ _ f1,f2],S.kn.len,#[ff,s _ _ f1,S.kn.fl f1]],s _ _ S.S6,s _ _ S.So,S.P4,λb xs h=>s _ _ (S.fr b xs h)]
theorem vS (h:past a H B.r B.q B.kd B.fn B.ds.p B.bl.p n H'):db (eQ B) H H':=λb o e m=>by
 obtain⟨dr,e1,rfl⟩:=h;rw[ac λz=>m (.inl z)];exact e
theorem fo.past (S:fo a B H n (x::t) Kn) (hx: ¬jy x) (h:OS.past a H B.r B.q B.kd B.fn B.ds.p B.bl.p n H'):fo a B H' (n+1) t Kn:=by
 have R:=S.rd.step h;obtain⟨dr,e1,rfl⟩:=h;obtain⟨kk,k1,k2,k3⟩:=S.kn.vals;obtain⟨ff,f1,f2⟩:=S.kn.funs
 have hy:=S.S6
 have hz:=S.So
 have nk:B.kd≠B.r:=λw=>by rw[w,e1] at k1;cases k1
 have nf:B.fn≠B.r:=λw=>by rw[w,e1] at f1;cases f1
 have nd:B.ds.p≠B.r:=λw=>by rw[w,e1] at hy;cases hy
 have nb:B.bl.p≠B.r:=λw=>by rw[w,e1] at hz;cases hz
 refine#[R,(S.wh.tail hx).2,#[#[kk,by rw[ac nk];exact k1,k2,k3],#[ff,by rw[ac nf];exact f1,f2],?_,#[ff,by rw[ac nf];exact f1,S.kn.fl f1]],(by rw[ac nd];exact hy),(by rw[ac nb];exact hz),S.P4,λb xs h=>by
  have e2:=S.fr b xs h;rw[ac λw=>by rw[w,e1] at e2;cases e2]
  exact e2]
 have:=S.kn.len;rw[FA] at this;lia
theorem fo.aib (S:fo a B H n t Kn) (free:Kn.values.contains u=FS) (room:Kn.values.length+1+t.length<=4000) (e:H B.kd=Fa (.dK kk)):
  fo a B (aF H B.kd (.dK (dz kk (nk u) (.bl FM)))) n t (Kn.with u):=by
 obtain⟨dr,er⟩:=S.rd.ins;obtain⟨as,all,h1,h2,h3⟩:=S.rd.toks;obtain⟨kk',k1,k2,k3⟩:=S.kn.vals;obtain⟨ff,f1,f2⟩:=S.kn.funs;have hy:=S.S6;have hz:=S.So;obtain rfl:kk'=kk:=by rw[e] at k1;cases k1;rfl
 obtain⟨d1,d2,d3,d4,d5,d6⟩:=S.P4;have nr:B.r≠B.kd:=λw=>by rw[w,e] at er;cases er
 have nq:B.q≠B.kd:=λw=>by rw[w,e] at h1;cases h1
 refine#[#[#[dr,by rw[ac nr];exact er],as,all,by rw[ac nq];exact h1,Paired.MU h2 λb x ⟨dx,ex⟩=>#[dx,?_],h3],S.wh,#[#[_,ae,?_,λv=>?_],#[ff,by rw[ac d1.symm];exact f1,f2],by show Kn.values.length+1+t.length<=4000;exact room,#[ff,by rw[ac d1.symm];exact f1,S.kn.fl f1]],(by rw[ac d2.symm];exact hy),(by rw[ac d3.symm];exact hz),S.P4,λb xs h=>by
  have e2:=S.fr b xs h;rw[ac λw=>by rw[w,e] at e2;cases e2]
  exact e2]
 .rw[ac λw=>by rw[w,e] at ex;cases ex]
  exact ex
 .have:=cH kk' (nk u) (.bl FM)
  show _<=Kn.values.length+1
  lia
 .rw[rl,k3]
  show _=(u::Kn.values).contains v
  rw[GB]
  congr 1
  rw[Hd,Gg,beq_iff_eq]
theorem fo.forget (S:fo a B H n t (Kn.with u)) (free:Kn.values.contains u=FS) (e:H B.kd=Fa (.dK kk)):
  has kk u=FM/\fo a B (aF H B.kd (.dK (fD kk (nk u)))) n t Kn:=by
 obtain⟨dr,er⟩:=S.rd.ins;obtain⟨as,all,h1,h2,h3⟩:=S.rd.toks;obtain⟨kk',k1,k2,k3⟩:=S.kn.vals;obtain⟨ff,f1,f2⟩:=S.kn.funs;have hy:=S.S6;have hz:=S.So;obtain rfl:kk'=kk:=by rw[e] at k1;cases k1;rfl
 obtain⟨d1,d2,d3,d4,d5,d6⟩:=S.P4;have nr:B.r≠B.kd:=λw=>by rw[w,e] at er;cases er
 have nq:B.q≠B.kd:=λw=>by rw[w,e] at h1;cases h1
 have hu:has kk' u=FM:=by
  rw[k3];show(u::Kn.values).contains u=FM;rw[GB,G7]
  rfl
 have len:Kn.values.length+1+t.length<=4000:=S.kn.len
 have k2:kk'.length<=Kn.values.length+1:=k2;refine#[hu,#[#[dr,by rw[ac nr];exact er],as,all,by rw[ac nq];exact h1,Paired.MU h2 λb x ⟨dx,ex⟩=>#[dx,?_],h3],S.wh,#[#[_,ae,?_,λv=>?_],#[ff,by rw[ac d1.symm];exact f1,f2],by lia,#[ff,by rw[ac d1.symm];exact f1,S.kn.fl f1]],(by rw[ac d2.symm];exact hy),(by rw[ac d3.symm];exact hz),S.P4,λb xs h=>by
  have e2:=S.fr b xs h;rw[ac λw=>by rw[w,e] at e2;cases e2]
  exact e2]
 .rw[ac λw=>by rw[w,e] at ex;cases ex]
  exact ex
 .have:(fD kk' (nk u)).length<kk'.length:=by
   unfold fD;refine VF (Oq _ _) λw=>?_;rw[P6] at w;unfold has bO at hu;rw[Ig,Np] at hu;obtain⟨p,hp,e1⟩:=hu;have:=w p hp;simp only[N5] at this e1;exact this e1
  lia
 .rw[so,k3]
  show(!decide (v=u)&&(u::Kn.values).contains v)=_
  rw[GB];by_cases w:v=u
  .rw[w,GJ Gc,free];rfl
  .rw[Gb w,show(v == u)=FS from beq_eq_false_iff_ne.mpr w];rfl
theorem fo.fresh (S:fo a B H n t Kn) (h:H b=FB): ¬eQ B b:=by
 obtain⟨dr,e1⟩:=S.rd.ins;obtain⟨kk,k1,_⟩:=S.kn.vals;obtain⟨ff,f1,_⟩:=S.kn.funs;have hy:=S.S6;have hz:=S.So;rintro(rfl|rfl|rfl|rfl|rfl|⟨xs,hx⟩)
 .rw[e1] at h;cases h
 .rw[k1] at h;cases h
 .rw[f1] at h;cases h
 .rw[hy] at h;cases h
 .rw[hz] at h;cases h
 .rw[S.fr _ _ hx] at h;cases h
end
section
variable {H H' H0:Hp}{B:Rb}{n:FC}{t:Ff}{Kn:Fl}{M M':Fi->Prop}
def Rb.more (B:Rb) (l:Fi) (xs:E9 V):Rb:= { B with bl:=#[B.bl.p,B.bl.c,λb ys=>B.bl.x b ys\/(b=l/\ys=xs)] }
theorem fo.more (S:fo a B H n t Kn) (h:H l=Fa (.lst xs)):fo a (B.more l xs) H n t Kn:=
 #[S.rd,S.wh,S.kn,S.S6,S.So,S.P4,λb ys z=>z.elim (S.fr b ys) λ⟨e1,e2⟩=>by rw[e1,e2];exact h]
theorem fo.less (S:fo a (B.more l xs) H n t Kn):fo a B H n t Kn:=
 #[S.rd,S.wh,S.kn,S.S6,S.So,S.P4,λb ys z=>S.fr b ys (.inl z)]
theorem fo.QI (S:fo a (B.more l xs) H n t Kn):H l=Fa (.lst xs):=S.fr l xs (.inr #[Gc,Gc])
theorem cw (m:eQ B b):eQ (B.more l xs) b:=by
 rcases m with h|h|h|h|h|⟨ys,h⟩
 .exact .inl h
 .exact .inr (.inl h)
 .exact .inr (.inr (.inl h))
 .exact .inr (.inr (.inr (.inl h)))
 .exact .inr (.inr (.inr (.inr (.inl h))))
 .exact .inr (.inr (.inr (.inr (.inr #[ys, .inl h]))))
theorem de (m:eQ (B.more l xs) b):b=l\/eQ B b:=by
 rcases m with h|h|h|h|h|⟨ys,h|⟨h,_⟩⟩
 .exact .inr (.inl h)
 .exact .inr (.inr (.inl h))
 .exact .inr (.inr (.inr (.inl h)))
 .exact .inr (.inr (.inr (.inr (.inl h))))
 .exact .inr (.inr (.inr (.inr (.inr (.inl h)))))
 .exact .inr (.inr (.inr (.inr (.inr (.inr #[ys,h])))))
 .exact .inl h
theorem fg:eQ (B.more l xs) l:= .inr (.inr (.inr (.inr (.inr #[xs, .inr #[Gc,Gc]]))))
theorem eR (h:M l):db M H (aF H l o):=λb o' e m=>by
 rw[ac λz=>m (by rw[z];exact h)];exact e
theorem fo.write (S:fo a (B.more l xs) H n t Kn) (apart: ∀zs,¬B.bl.x l zs) (hq:l≠B.q):fo a (B.more l ys) (aF H l (.lst ys)) n t Kn:=by
 have hl:=S.QI;obtain⟨dr,er⟩:=S.rd.ins;obtain⟨as,all,h1,h2,h3⟩:=S.rd.toks;obtain⟨kk,k1,k2,k3⟩:=S.kn.vals;obtain⟨ff,f1,f2⟩:=S.kn.funs
 have up: ∀ {b:Fi}{o:HO},H b=Fa o->(∀zs,o≠ .lst zs)->aF H l (.lst ys) b=Fa o:=λe no=>by
  rw[ac λw=>by rw[w,hl] at e;exact no _ (FG e).symm];exact e
 refine#[#[#[dr,up er (λ_ z=>nomatch z)],as,all,(by show aF H l (.lst ys) B.q=_;rw[ac hq.symm];exact h1),Paired.MU h2 λb x ⟨dx,ex⟩=>#[dx,up ex (λ_ z=>nomatch z)],h3],S.wh,
  #[#[kk,up k1 (λ_ z=>nomatch z),k2,k3],#[ff,up f1 (λ_ z=>nomatch z),f2],S.kn.len,#[ff,up f1 (λ_ z=>nomatch z),S.kn.fl f1]],up S.S6 (λ_ z=>nomatch z),up S.So (λ_ z=>nomatch z),S.P4,λb zs z=>?_]
 rcases z with z|⟨e1,e2⟩
 .rw[ac λw=>apart zs (by rw[<-w];exact z)]
  exact S.fr b zs (.inl z)
 .rw[e1,e2]
  exact ae
end
theorem zr:aba=GD.map λu=>V.str (sb u):=by decide+kernel
theorem dF:cQ (.word u)=!Vbemac.KEYS.contains u:=by
 show(!uq (.str (sb u)) aba)=_
 congr 1
 rw[zr];unfold uq;rw[Tp,E9.contains_eq_any_beq]
 congr 1
 funext z
 show(sb z == sb u)=(u == z)
 rw[Hd,beq_iff_eq,beq_iff_eq];exact#[λe=>(eu e).symm,λe=>by rw[e]]
theorem Bt (T:aW K mg a) (XC:XT K a):T.Z3.O P w mg base 6 (wO a):=by
 have G_p:=mt (P:=P) (w:=w) (base:=base) T XC;refine fP T.Z3.F ag4 [03] [02];obtain⟨r,q,kd,fn,ds,bl,n,x,t,v,rfl,R,hb,hf,hg⟩:=h;obtain⟨dr,er⟩:=R.ins;refine#[_,(ax (cv (ld (cZ (cy (pv 0) T.F9 T.d_p.c G_p [07] aA (aa (pv 1) ag)))) (aj (aJ sr)) bo)
   (ax (gO (pv 0) ak nN)
   (aj (aJ sr)))),?_]
 refine#[r,dr,_,Gc,er,Gc,r,q,kd,fn,ds,bl,n,x,t,v,Gc,R,hb,λnb=>#[_,Gc,?_]];cases e:lY v x.1 with
 |false=>exact cc (hf nb e)
 |true=>
  refine bN ?_;exact#[r,_,dr,_,_,Gc,er,T.F9,T.Kw,Gc,_,_,Gc,Gc,dr,_,er,(by show 6<1000;decide),hg nb e _ #[dr,er,Gc]]
theorem jf (T:aW K mg a) (XC:XT K a):T.Z5.O P w mg base 7 (xr a):=by
 have G_B:=g7 (P:=P) (w:=w) (base:=base) T XC
 have Ua:=c8 (P:=P) (w:=w) (base:=base) T XC
 have Vg:=fE (P:=P) (w:=w) (base:=base) T XC
 have G_t:=qU (P:=P) (w:=w) (base:=base) T XC;refine fP T.Z5.F ag5 [03] [02];obtain⟨r,q,kd,fn,ds,bl,g,n,⟨x,xp⟩,t,gg,rfl,R,eg,hb,hn,h4,hg⟩:=h;obtain⟨dr,er⟩:=R.ins;refine#[_,(ax (bj (bS (pv 0) T.F9 T.d_B.c G_B [07] aA))
   (ax (cv (fB (oR (dn hr) (ah (bS (pv 0) T.F9 T.V5.c Ua [07] aA) Gc) (pv 1))) (aj (bj (cy (pv 0) T.F9 T.V6.c Vg [07] aA (aa (aT (by rfl) T.OX) ag)))) bo)
   (aj (aJ (bS (pv 0) T.F9 T.d_t.c G_t [07] aA))))),?_]
 refine#[r,dr,_,Gc,er,Gc,r,q,kd,fn,ds,bl,n,(x,xp),t,Gc,R,hb,hn,λnb e=>?_];cases x with
 |word u=>
  refine#[r,dr,_,Gc,er,Gc,r,q,kd,fn,ds,bl,n,(.word u,xp),t,Gc,R,hb,λ_ p ⟨dx,et⟩=>#[p,_,dx,_,_,Gc,et,T.II,T.Jv,Gc,?_]];refine#[g,_,Gc,gw.k (k:=nk u) eg,_,Gc,aO (λe1=>?_) λe1=>?_]
  .refine#[r,dr,_,Gc,er,Gc,r,q,kd,fn,ds,bl,n,(.word u,xp),t,4,Gc,R,?_]
   rw[Fj nb];exact h4 u Gc e e1
  .exact#[r,dr,_,Gc,er,Gc,r,q,kd,fn,ds,bl,n,(.word u,xp),t,Gc,R,hb,λ_=>hg u Gc e e1]
 |num m=>cases e
 |sign u=>cases e
 |eof=>cases e
 |bad=>exact FH Gc nb
theorem fF {α:Type}{p:Fv α}{n:FC}{t:Ff}{Qo:α->Ff->Prop}{Qe:FC->Gx->Prop}(e:p t=FJ n t) (nb:FE t≠ .bad) (h:W p t Qo Qe):Qe n (Ip t):=by
 have e:p t= .error (n,Ip t):=by rw[e];unfold FJ;rw[Fj nb]
 rw[i5 e] at h;exact h
theorem aic {α:Type}{p p':Fv α}{t:Ff}{Qo:α->Ff->Prop}{Qe:FC->Gx->Prop}(e:p t=p' t) (h:W p t Qo Qe):W p' t Qo Qe:=by
 unfold W at h ⊢;rw[<-e];exact h
abbrev QE (a:bf) (B:Rb) (H0:Hp) (E:XK):FC->Gx->Prop:=λk x=> ∀H',db (eQ B) H0 H'->nJ a.HM E H' k x
theorem cU {t:Ff} :WA ((.word u,xp)::t)=if GD.contains u=FM then FJ 2 ((.word u,xp)::t) else .ok (u,t):=rfl
theorem iz {Kn:Fl}{t:Ff}(h:GD.contains u=FM):GO Kn ((.word u,xp)::t)=FJ 2 ((.word u,xp)::t):=by
 unfold GO;rw[cU,Fm h]
 rfl
theorem eI {Kn:Fl}{t:Ff}(h:GD.contains u=FS):GO Kn ((.word u,xp)::t)=if Kn.taken u=FM then FJ 4 ((.word u,xp)::t) else .ok (u,t):=by
 unfold GO;rw[cU,Fj (by rw[h];exact Fd)]
structure Zf (β:Type) where
 a:bf
 E:XK
 B:Rb
 L:FC
 H0:Hp
 Ro:β->Ff->Prop
inductive CB (X:Cx) (x:FR) (ps:E9 FR) (sp:Sp):Prop
 |mk {k:FC}{f:Fi}{fd:Gs}(F:bU X.prog X.w X.K X.mg X.base (fY X.prog X.w) k f fd ps sp) (hr:bZ k X.A) (d:CD X.K X.mg x f fd ps) (hg:Gl X x):CB X x ps sp
structure RX (X:Cx) (a:bf) (E:XK):Prop where
 T:aW X.K X.mg a
 C:XT X.K a
 hr:bZ 8 X.A
 up:dh (fY X.prog X.w) X E
 lv:P8 (model X.prog X.w) X.A X.env X.xe
 nd:X.N.Nodup
 n0:X.N[0]?=Fa ("reader":FR)
 v0:oU X.env.scope "reader"
structure RS {β:Type}(Z:Zf β) (F:E9 (Fk×V)) (b:Gu) (H:Hp) (t:Ff) (Kn:Fl) (p:Fv β):Prop where
 S: ∃n,fo Z.a Z.B H n t Kn
 k:db (eQ Z.B) Z.H0 H
 f: ∀ {i:FC}{x:Fk×V},F[i]?=Fa x->jh Z.a (eQ Z.B) H x
 l:t.length+b.toNat<=Z.L
 w:W p t Z.Ro (QE Z.a Z.B Z.H0 Z.E)
section
variable {β:Type}{Z:Zf β}{H H':Hp}{p p':Fv β}
theorem RS.go (R:RS Z F b H t Kn p) (S:fo Z.a Z.B H' n t' Xy) (k:db (eQ Z.B) H H') (l:t'.length+b'.toNat<=Z.L) (w:W p' t' Z.Ro (QE Z.a Z.B Z.H0 Z.E)):RS Z F b' H' t' Xy p':=
 #[#[n,S],R.k.trans k,λe=>jh.HV k.two (R.f e),l,w]
theorem RS.and (R:RS Z F b H t Kn p) (h:jh Z.a (eQ Z.B) H e):RS Z (e::F) b H t Kn p:=
 #[R.S,R.k,λ{i x} q=>match i,q with
  |0,q=>by cases q;exact h
  |i+1,q=>R.f (i:=i) q,R.l,R.w]
theorem RS.as (R:RS Z F b H t Kn p) (e:p t=p' t):RS Z F b H t Kn p':=#[R.S,R.k,R.f,R.l,aic e R.w]
theorem RS.one (R:RS Z F b H (x::t) Kn p):t.length+1<=Z.L:=FP (JZ _ _) R.l
theorem RS.past (R:RS Z F b H (x::t) Kn p) (S:fo Z.a Z.B H n (x::t) Kn) (hx: ¬jy x) (h:OS.past Z.a H Z.B.r Z.B.q Z.B.kd Z.B.fn Z.B.ds.p Z.B.bl.p n H') (w:W p' t Z.Ro (QE Z.a Z.B Z.H0 Z.E)):RS Z F FM H' t Kn p':=
 R.go (S.past hx h) (vS h) R.one w
end
structure XpP (v:FR) (p:Fv Nc) (x:GH×Gx) (r:Ff):Prop where
 bad:x.1= .bad->p (x::r)= .error (1,x.2)
 no:x.1≠ .bad->lY v x.1=FS->p (x::r)= .error (2,x.2)
 yes:x.1≠ .bad->lY v x.1=FM->p (x::r)= .ok ((),r)/\ ¬jy x
theorem d7.p {v:FR}{s:String}(l:d7 v (Fc s)) (r:Ff) (ok:f9 x.1):XpP v (Ge s) x r:=by
 refine#[λb=>bi s (x::r) b,λnb e=>?_,λnb e=>?_]
 .rw[cR ok l] at e
  show(if Gf (x::r) s=FM then _ else FJ 2 (x::r))=_
  rw[Fj (by show¬(x.1 == .sign (Fc s))=FM;rw[e];exact Fd)];unfold FJ;rw[Fj (show¬FE (x::r)= .bad from nb)]
  rfl
 .rw[cR ok l] at e
  refine#[?_,λz=>?_]
  .show(if Gf (x::r) s=FM then _ else FJ 2 (x::r))=_
   rw[Fm (by show(x.1 == .sign (Fc s))=FM;exact e)]
   rfl
  .have:=beq_iff_eq.mp e
   exact z.elim (λz=>by rw[this] at z;cases z) nb
theorem cV.p {v:FR}{s:String}(l:cV v (Fc s)) (r:Ff) (ok:f9 x.1):XpP v (Hr s) x r:=by
 refine#[λb=>eS s (x::r) b,λnb e=>?_,λnb e=>?_]
 .rw[b7 ok l] at e
  show(if Fw (x::r) s=FM then _ else FJ 2 (x::r))=_
  rw[Fj (by show¬(x.1 == .word (Fc s))=FM;rw[e];exact Fd)];unfold FJ;rw[Fj (show¬FE (x::r)= .bad from nb)]
  rfl
 .rw[b7 ok l] at e
  refine#[?_,λz=>?_]
  .show(if Fw (x::r) s=FM then _ else FJ 2 (x::r))=_
   rw[Fm (by show(x.1 == .word (Fc s))=FM;exact e)]
   rfl
  .have:=beq_iff_eq.mp e
   exact z.elim (λz=>by rw[this] at z;cases z) nb
theorem B7 {v:FR}(r:Ff) (e:lY v x.1=FM) (nb:x.1≠ .bad) (nf: ¬jy x):XpP v GF x r:=
 #[λb=>FH b nb,λ_ z=>(by rw[e] at z;cases z),λ_ _=>#[Gc,nf]]
theorem RS.tok {β:Type}{Z:Zf β}{F:E9 (Fk×V)}{b:Gu}{H:Hp}{t:Ff}{Kn:Fl}{p:Fv β}(R:RS Z F b H t Kn p):f9 (FE t):=by
 rw[00];obtain⟨x,t',rfl,tok,Q0,_,_⟩:=S.wh.first;exact tok
section
variable {X:Cx}{β:Type}{Z:Zf β}{F:E9 (Fk×V)}{b:Gu}{H:Hp}{t:Ff}{Kn:Fl}{D:eA}{ss:E9 Stmt}{σ:L2.St}{p0 p1 p2 p3 p4 p5:Pos}{j:FC}{v y:FR}{s:String}{E:XK}{Q:VK}{B:Rb}{n:FC}{m:FR}{f:Fi}{fd:Gs}{ps:E9 FR}{sp:Sp}{k:FC}{CX:pP}{E':XK}{p:Fv β}
theorem RX.rd (Y:RX X a E):PE X [005] (lr 0):=dR Y.n0 Y.v0
theorem RX.m1 (Y:RX X a E) (d:MD X.K a.GA m f fd ps) (G:bU X.prog X.w X.K X.mg X.base CX k f fd ps sp) (hk:k<=8) (up:dh CX X E') (S:fo a B H n t Kn) (hm:(qY B.q B.kd B.fn B.ds.p B.bl.p n).lookup m=FB) (q:Pe X e (Fa (.ref B.r)::σ) H λv H1=>sp [.ref B.r,v] H1 Q E')
  (hp:ip p2 p4) (Kq:FK [e] X.env=[[001]]):Pe X (.Call (.Attribute [005] m p2) [e] [] p4) (Fa (.ref B.r)::σ) H Q:=by
 obtain⟨dr,er⟩:=S.rd.ins;exact#[_,cy Y.rd Y.T.F9 d G (Y.hr.mono hk) up (aa du ag Kq) Kq Gc (eM hp (by rw[Kq];rfl)),B.r,dr,_,Gc,er,hm,q]
theorem RX.m0 (Y:RX X a E) (d:MD X.K a.GA m f fd ps) (G:bU X.prog X.w X.K X.mg X.base CX k f fd ps sp) (hk:k<=8) (up:dh CX X E') (S:fo a B H n t Kn) (hm:(qY B.q B.kd B.fn B.ds.p B.bl.p n).lookup m=FB) (q:sp [.ref B.r] H Q E')
  (hp:ip p2 p4):Pe X (.Call (.Attribute [005] m p2) [] [] p4) (Fa (.ref B.r)::σ) H Q:=by
 obtain⟨dr,er⟩:=S.rd.ins;exact#[_,bS Y.rd Y.T.F9 d G (Y.hr.mono hk) up (eM hp Gc),B.r,dr,_,Gc,er,hm,q]
theorem wB {e:HH}{te:TE}{u:Fv Nc}{g:Nc->Fv β}(Y:RX X Z.a Z.E) (R:RS Z F b H t Kn (u>>=g)) (he:PE X e te) (hv: ∀Q:VK,Q (.str v) H->te (Fa (.ref Z.B.r)::σ) H Q) (l: ∀ {x:GH×Gx} r,t=x::r->f9 x.1->XpP v u x r) (q: ∀H' t',RS Z F FM H' t' Kn (g ())->Bd X ss D (Fa (.ref Z.B.r)::σ) H') (hp:ip p2 p4:=by rfl) (Kq:FK [e] X.env=[[001]]:=by rfl):
  Bd X (.Expr (.Call (.Attribute [005] "expect" p2) [e] [] p4) p5::ss) D (Fa (.ref Z.B.r)::σ) H:=by
 rw[00];obtain⟨x,t',rfl,tok,Q0,MT,_⟩:=S.wh.first;have hW:=R.w;rw[jz] at hW;have l:=l t' Gc tok;refine bD (Y.m1 Y.T.Z1.c (yc Y.T Y.C) [01] Y.up S Gc #[_,he,hv _ #[Z.B.r,Z.B.q,Z.B.kd,Z.B.fn,Z.B.ds,Z.B.bl,n,x,t',v,Gc,S.rd,λb=>?_,λnb e=>?_,λnb e H' hp=>?_]] hp Kq)
 .rw[i5 (l.bad b)] at hW;exact hW H R.k
 .rw[i5 (l.no nb e)] at hW;exact hW H R.k
 .obtain⟨h1,h2⟩:=l.yes nb e
  rw[yV h1] at hW;exact q H' t' (R.past S h2 hp hW)
theorem mr {te:TE}(Y:RX X Z.a Z.E) (R:RS Z F b H t Kn p) (he:PE X e te) (hv: ∀Q:VK,Q (.str v) H->te (Fa (.ref Z.B.r)::σ) H Q) (hb:FE t= .bad->QE Z.a Z.B Z.H0 Z.E 1 (Ip t)) (q:FE t≠ .bad->Q (.bl (lY v (FE t))) H) (hp:ip p2 p4:=by rfl) (Kq:FK [e] X.env=[[001]]:=by rfl):
  Pe X (.Call (.Attribute [005] "sees" p2) [e] [] p4) (Fa (.ref Z.B.r)::σ) H Q:=by
 rw[00];obtain⟨x,t',rfl,tok,Q0,MT,_⟩:=S.wh.first;exact Y.m1 Y.T.d_p.c (mt Y.T Y.C) [01] Y.up S Gc #[_,he,hv _ #[Z.B.r,Z.B.q,Z.B.kd,Z.B.fn,Z.B.ds,Z.B.bl,n,x,t',v,Gc,S.rd,λb=>hb (Q0.trans b) H R.k,q]] hp Kq
theorem qF {u:Fv Nc}{g:Nc->Fv β}(Y:RX X Z.a Z.E) (R:RS Z F b H t Kn (u>>=g)) (l: ∀ {x:GH×Gx} r,t=x::r->f9 x.1->XpP v u x r) (q: ∀H' t',RS Z F FM H' t' Kn (g ())->Bd X ss D (Fa (.ref Z.B.r)::σ) H') (hp:ip p2 p4:=by rfl):
  Bd X (.Expr (.Call (.Attribute [005] "expect" p2) [.Constant (.str v) j p3] [] p4) p5::ss) D (Fa (.ref Z.B.r)::σ) H:=wB Y R dH [05] l q hp
theorem cJ {g:Nc->Fv β}(Y:RX X Z.a Z.E) (lit:d7 v (Fc s)) (R:RS Z F b H t Kn (Ge s>>=g)) (q: ∀H' t',RS Z F FM H' t' Kn (g ())->Bd X ss D (Fa (.ref Z.B.r)::σ) H') (hp:ip p2 p4:=by rfl):
  Bd X (.Expr (.Call (.Attribute [005] "expect" p2) [.Constant (.str v) j p3] [] p4) p5::ss) D (Fa (.ref Z.B.r)::σ) H:=qF Y R (λr _ ok=>lit.p r ok) q hp
theorem kU {g:Nc->Fv β}(Y:RX X Z.a Z.E) (lit:cV v (Fc s)) (R:RS Z F b H t Kn (Hr s>>=g)) (q: ∀H' t',RS Z F FM H' t' Kn (g ())->Bd X ss D (Fa (.ref Z.B.r)::σ) H') (hp:ip p2 p4:=by rfl):
  Bd X (.Expr (.Call (.Attribute [005] "expect" p2) [.Constant (.str v) j p3] [] p4) p5::ss) D (Fa (.ref Z.B.r)::σ) H:=qF Y R (λr _ ok=>lit.p r ok) q hp
theorem iF (Y:RX X Z.a Z.E) (R:RS Z F b H t Kn p) (st:aK p) (q:FE t≠ .bad->Q (.bl (lY v (FE t))) H) (hp:ip p2 p4:=by rfl):
  Pe X (.Call (.Attribute [005] "sees" p2) [.Constant (.str v) j p3] [] p4) (Fa (.ref Z.B.r)::σ) H Q:=mr Y R dH [05] (λb=>st.LK b R.w) q hp
theorem jb (Y:RX X Z.a Z.E) (R:RS Z F b H t Kn p) (nb:FE t≠ .bad) (q:Q (.bl (lY v (FE t))) H) (hp:ip p2 p4:=by rfl):
  Pe X (.Call (.Attribute [005] "sees" p2) [.Constant (.str v) j p3] [] p4) (Fa (.ref Z.B.r)::σ) H Q:=mr Y R dH [05] (λb=>FH b nb) (λ_=>q) hp
theorem YQ {c:GH->Gu}(Y:RX X Z.a Z.E) (d:MD X.K Z.a.GA m f fd ps) (G:bU X.prog X.w X.K X.mg X.base (fY X.prog X.w) k f fd ps (si Z.a c)) (hk:k<=8) (hm: ∀n,(qY Z.B.q Z.B.kd Z.B.fn Z.B.ds.p Z.B.bl.p n).lookup m=FB) (R:RS Z F b H t Kn p) (st:aK p) (q:FE t≠ .bad->Q (.bl (c (FE t))) H) (hp:ip p2 p4:=by rfl):
  Pe X (.Call (.Attribute [005] m p2) [] [] p4) (Fa (.ref Z.B.r)::σ) H Q:=by
 rw[00];obtain⟨x,t',rfl,tok,Q0,MT,_⟩:=S.wh.first;exact Y.m0 d G hk Y.up S (hm n) #[Z.B.r,Z.B.q,Z.B.kd,Z.B.fn,Z.B.ds,Z.B.bl,n,x,t',Gc,S.rd,λb=>st.LK (Q0.trans b) R.w H R.k,q] hp
theorem iI {g:Nc->Fv β}(Y:RX X Z.a Z.E) (R:RS Z F b H (x::r) Kn (GF>>=g)) (nf: ¬jy x) (q: ∀H',RS Z F FM H' r Kn (g ())->Q (io x.1) H') (hp:ip p2 p4:=by rfl):
  Pe X (.Call (.Attribute [005] "take" p2) [] [] p4) (Fa (.ref Z.B.r)::σ) H Q:=by
 rw[00];exact Y.m0 Y.T.d_t.c (qU Y.T Y.C) [01] Y.up S Gc #[Z.B.r,Z.B.q,Z.B.kd,Z.B.fn,Z.B.ds,Z.B.bl,n,x,r,Gc,S.rd,λb=>FH (.inr b) nf,λ_ H' hp=>q H' (R.past S nf hp R.w)] hp
theorem qO {e:HH}{i:FC}(Y:RX X Z.a Z.E) (he:PE X e (tC (.int i))) (R:RS Z F b H t Kn p) (nb:FE t≠ .bad) (h:p t=FJ i t) (hp:ip p2 p4:=by rfl) (Kq:FK [e] X.env=[[001]]:=by rfl):
  Pe X (.Call (.Attribute [005] "fail" p2) [e] [] p4) (Fa (.ref Z.B.r)::σ) H Q:=by
 rw[00];obtain⟨x,t',rfl,tok,Q0,MT,_⟩:=S.wh.first;refine Y.m1 Y.T.V6.c (fE Y.T Y.C) [01] Y.up S Gc #[_,he,Z.B.r,Z.B.q,Z.B.kd,Z.B.fn,Z.B.ds,Z.B.bl,n,x,t',i,Gc,S.rd,?_] hp Kq;rw[Fj (show¬x.1= .bad from nb)];exact fF h nb R.w H R.k
theorem p_g (Y:RX X Z.a Z.E) (R:RS Z F b H t Kn p) (st:aK p) (h:FE t≠ .bad->cQ (FE t)=FS->p t=FJ 2 t) (q:FE t≠ .bad->cQ (FE t)=FM->Q .IJ H) (hp:ip p2 p4:=by rfl):
  Pe X (.Call (.Attribute [005] "need_name" p2) [] [] p4) (Fa (.ref Z.B.r)::σ) H Q:=by
 rw[00];obtain⟨x,t',rfl,tok,Q0,MT,_⟩:=S.wh.first;exact Y.m0 Y.T.d_B.c (g7 Y.T Y.C) [01] Y.up S Gc #[Z.B.r,Z.B.q,Z.B.kd,Z.B.fn,Z.B.ds,Z.B.bl,n,x,t',Gc,S.rd,λb=>st.LK (Q0.trans b) R.w H R.k,λnb e=>fF (h nb e) nb R.w H R.k,q] hp
theorem vP (Y:RX X Z.a Z.E) (R:RS Z F b H t Kn p) (hb:FE t= .bad->QE Z.a Z.B Z.H0 Z.E 1 (Ip t)) (q:FE t≠ .bad->Q (io (FE t)) H) (hp:ip p2 p4:=by rfl):
  Pe X (.Attribute (.Call (.Attribute [005] "current" p2) [] [] p4) "value" p5) (Fa (.ref Z.B.r)::σ) H Q:=by
 rw[00];obtain⟨x,t',rfl,tok,Q0,MT,_⟩:=S.wh.first;refine#[_,ah du Gc,Y.m0 Y.T.V5.c (c8 Y.T Y.C) [01] Y.up S Gc #[Z.B.r,Z.B.q,Z.B.kd,Z.B.fn,Z.B.ds,Z.B.bl,n,x,t',Gc,S.rd,λb=>hb (Q0.trans b) H R.k,λnb c ⟨dx,et⟩=>#[c,_,dx,_,_,Gc,et,Y.T.II,Y.T.Jv,Gc,q nb]] hp]
theorem aid (Y:RX X Z.a Z.E) (R:RS Z F b H t Kn p) (st:aK p) (q:FE t≠ .bad->Q (io (FE t)) H) (hp:ip p2 p4:=by rfl):
  Pe X (.Attribute (.Call (.Attribute [005] "current" p2) [] [] p4) "value" p5) (Fa (.ref Z.B.r)::σ) H Q:=vP Y R (λb=>st.LK b R.w) q hp
theorem RS.cons (R:RS Z F b H t Kn p): ∃x r,t=x::r:=by
 rw[00];obtain⟨x,t',e,_⟩:=S.wh.first;exact#[x,t',e]
theorem abt (Y:RX X Z.a Z.E) (R:RS Z F b H (x::r) Kn p) (nf: ¬jy x) (q:Q (.bl (lH (FE r))) H) (hp:ip p2 p4:=by rfl):
  Pe X (.Call (.Attribute [005] "number_follows" p2) [] [] p4) (Fa (.ref Z.B.r)::σ) H Q:=by
 rw[00];obtain⟨y,r',rfl,_⟩:=(S.wh.tail nf).2.first;exact Y.m0 Y.T.Z0.c (kr Y.T) [01] aQ S Gc #[Z.B.r,Z.B.q,Z.B.kd,Z.B.fn,Z.B.ds,Z.B.bl,n,x,y,r',Gc,S.rd,q] hp
theorem abu {te:TE}{C:Gu->Hp->Prop}(Y:RX X Z.a Z.E) (R:RS Z F b H t Kn p) (he:PE X e te) (hv: ∀Q:VK,Q (.str (sb u)) H->te (Fa (.ref Z.B.r)::σ) H Q) (q:C ((Kn.funs.find? λf=>f.1 == u).isSome) H):
  Pt X (.Compare e [.In] [.Attribute [005] "functions" p2] p3) (Fa (.ref Z.B.r)::σ) H C:=by
 rw[00];obtain⟨dr,er⟩:=S.rd.ins;obtain⟨ff,f1,f2⟩:=S.kn.funs;refine#[_,fB (oR (dn Y.hr) he (ah Y.rd Gc)),hv _ #[Z.B.r,_,dr,_,_,Gc,er,Y.T.F9,Y.T.IK,Gc,Z.B.fn,_,Gc,gw.k (k:=nk u) f1,_,Gc,?_]];rw[f2,Ig];exact q
theorem abv {te:TE}{C:Gu->Hp->Prop}(Y:RX X Z.a Z.E) (R:RS Z F b H t Kn p) (he:PE X e te) (hv: ∀Q:VK,Q (.str (sb u)) H->te (Fa (.ref Z.B.r)::σ) H Q) (q:C (!Kn.values.contains u) H):
  Pt X (.Compare e [.NotIn] [.Attribute [005] "known" p2] p3) (Fa (.ref Z.B.r)::σ) H C:=by
 rw[00];obtain⟨dr,er⟩:=S.rd.ins;obtain⟨kk,k1,k2,k3⟩:=S.kn.vals;refine#[_,fB (iV (dn Y.hr) he (ah Y.rd Gc)),hv _ #[Z.B.r,_,dr,_,_,Gc,er,Y.T.F9,Y.T.J8,Gc,Z.B.kd,_,Gc,gw.k (k:=nk u) k1,_,Gc,?_]];have:=k3 u;unfold has at this;rw[this];exact q
theorem tL (i:FC) {g:Fb->Fv β}(Y:RX X Z.a Z.E) (R:RS Z F b H t Kn (GO Kn>>=g)) (q: ∀u H' t',cV (sb u) u->GD.contains u=FS->Kn.taken u=FS->RS Z F FM H' t' Kn (g u)->Bd X ss D ((Fa (.ref Z.B.r)::σ).set i (Fa (.str (sb u)))) H')
  (h:Sl X i y:=by exact#[Gc,G9 Gc,Gc]) (hp:ip p2 p4:=by rfl):
  Bd X (.Assign [.Name y p0] (.Call (.Attribute [005] "take_free_name" p2) [] [] p4) p5::ss) D (Fa (.ref Z.B.r)::σ) H:=by
 rw[00];obtain⟨dr,er⟩:=S.rd.ins;obtain⟨⟨x,xp⟩,t',rfl,tok,Q0,MT,_⟩:=S.wh.first;obtain⟨kk,k1,k2,k3⟩:=S.kn.vals;obtain⟨ff,f1,f2⟩:=S.kn.funs;have hW:=R.w;rw[jz] at hW;have tk: ∀u,(has kk u||has ff u)=Kn.taken u:=λu=>by
  unfold N6;rw[k3]
  congr 1
  unfold has;rw[f2,Ig,Hd,Np,LZ]
 refine aN i Y.nd (Y.m0 Y.T.Z4.c (jY Y.T Y.C) [01] Y.up S Gc #[Z.B.r,Z.B.q,Z.B.kd,Z.B.fn,Z.B.ds,Z.B.bl,n,(x,xp),t',kk,ff,Gc,S.rd,k1,f1,λb=>(fN Kn).LK (Q0.trans b) hW H R.k,λnb e=>?_,λu ex e e4=>?_,λu ex e e4 H' hp=>?_] hp) h
 .refine fF (p:=GO Kn) (n:=2) (t:=(x,xp)::t') ?_ nb hW H R.k
  cases x with
  |word u=>
   rw[dF] at e;have R9:GD.contains u=FM:=by cases h:GD.contains u;rw[h] at e;cases e;rfl
   exact iz R9
  |num m=>rfl
  |sign s=>rfl
  |eof=>rfl
  |bad=>exact FH Gc nb
 .obtain rfl:x= .word u:=ex
  rw[dF] at e;have R9:GD.contains u=FS:=by cases h:GD.contains u;rfl;rw[h] at e;cases e
  refine fF (p:=GO Kn) (n:=4) (t:=(.word u,xp)::t') ?_ (λz=>nomatch z) hW H R.k
  rw[eI R9,Fm (by rw[<-tk];exact e4)]
 .obtain rfl:x= .word u:=ex
  rw[dF] at e;have R9:GD.contains u=FS:=by cases h:GD.contains u;rfl;rw[h] at e;cases e
  have ft:Kn.taken u=FS:=by rw[<-tk];exact e4
  have en:GO Kn ((.word u,xp)::t')= .ok (u,t'):=by
   rw[eI R9,Fj (by rw[ft];exact Fd)]
  rw[yV en] at hW;exact q u H' t' #[Gc,tok.1,tok.2] R9 ft (R.past S (λz=>z.elim (λz=>nomatch z) λz=>nomatch z) hp hW)
theorem i4 (i:FC) {g:Fb->Fv β}(Y:RX X Z.a Z.E) (R:RS Z F b H t Kn (GO Kn>>=g)) (q: ∀u H' t',Kn.taken u=FS->RS Z F FM H' t' Kn (g u)->Bd X ss D ((Fa (.ref Z.B.r)::σ).set i (Fa (.str (sb u)))) H')
  (h:Sl X i y:=by exact#[Gc,G9 Gc,Gc]) (hp:ip p2 p4:=by rfl):
  Bd X (.Assign [.Name y p0] (.Call (.Attribute [005] "take_free_name" p2) [] [] p4) p5::ss) D (Fa (.ref Z.B.r)::σ) H:=tL i Y R (λu H' t' _ _=>q u H' t') h hp
theorem jF (h:Kn.taken u=FS):Kn.values.contains u=FS:=(Mf.mp h).1
theorem gJ {te:TE}(Y:RX X Z.a Z.E) (he:PE X e te) (hv: ∀Q:VK,Q (.str (sb u)) H->te (Fa (.ref Z.B.r)::σ) H Q) (ft:Kn.taken u=FS) (hm:Kn.values.length+Z.L<=4000) (R:RS Z F FM H t Kn p)
  (q: ∀H',RS Z F FM H' t (Kn.with u) p->Bd X ss D (Fa (.ref Z.B.r)::σ) H') (hp:ip p2 p4:=by rfl) (Kq:FK [e] X.env=[[001]]:=by rfl):
  Bd X (.Expr (.Call (.Attribute [005] "learn" p2) [e] [] p4) p5::ss) D (Fa (.ref Z.B.r)::σ) H:=by
 rw[00];obtain⟨dr,er⟩:=S.rd.ins;obtain⟨kk,k1,k2,k3⟩:=S.kn.vals;have l:=R.l;have l:t.length+1<=Z.L:=l;refine bD (Y.m1 Y.T.Z6.c (Cz Y.T) [01] aQ S Gc #[_,he,hv _ #[Z.B.r,dr,Z.B.q,Z.B.kd,Z.B.fn,Z.B.ds,Z.B.bl,n,u,kk,Gc,er,k1,Gp (show kk.length<=4000 by lia) [01],?_]] hp Kq);exact q _ (R.go (S.aib (jF ft) (by lia) k1) (eR (.inr (.inl Gc))) l R.w)
theorem kP {te:TE}(Y:RX X Z.a Z.E) (he:PE X e te) (hv: ∀Q:VK,Q (.str (sb u)) H->te (Fa (.ref Z.B.r)::σ) H Q) (ft:Kn.taken u=FS) (R:RS Z F b H t (Kn.with u) p)
  (q: ∀H',RS Z F b H' t Kn p->Bd X ss D (Fa (.ref Z.B.r)::σ) H') (hp:ip p2 p4:=by rfl) (Kq:FK [e] X.env=[[001]]:=by rfl):
  Bd X (.Expr (.Call (.Attribute [005] "forget" p2) [e] [] p4) p5::ss) D (Fa (.ref Z.B.r)::σ) H:=by
 rw[00];obtain⟨dr,er⟩:=S.rd.ins;obtain⟨kk,k1,k2,k3⟩:=S.kn.vals;obtain⟨hu,S'⟩:=S.forget (jF ft) k1;refine bD (Y.m1 Y.T.W6.c (pO Y.T) [01] aQ S Gc #[_,he,hv _ #[Z.B.r,dr,Z.B.q,Z.B.kd,Z.B.fn,Z.B.ds,Z.B.bl,n,u,kk,Gc,er,k1,hu,?_]] hp Kq);exact q _ (R.go S' (eR (.inr (.inl Gc))) R.l R.w)
theorem RX.call2 {sp:Sp}{te:TE}(Y:RX X a E) (c:CB X x ["reader","depth"] sp) (he:PE X e te) (hx:(x == [003])=FS) (Kq:FK [e] X.env=[[001]]):PE X (.Call (.Name x p1) [.Name "reader" p2,e] [] p4) (z6 sp [] E (B9 (lr 0) (B9 te CS))):=by
 obtain⟨G,hr,d,hg⟩:=c;exact aG G hr hg d Y.up (aa Y.rd (aa he ag Kq) (by show _::FK [e] X.env=_;rfl)) hx Gc (by rw[Kq];rfl)
end
def RoX (a:bf) (B:Rb) (H0:Hp) (L:FC) (Kn:Fl) (Q:VK) (e:Fs) (t:Ff):Prop:= ∀H' v n,t.length<L->fo a B H' n t Kn->db (eQ B) H0 H'->au a (eQ B) H' e v->Q v H'
def Rz (w2:Gu) (a:bf) (B:Rb) (H0:Hp) (L:FC) (Kn:Fl) (Q:VK) (E:XK) (e:Fs) (t:Ff):Prop:=if w2=FM/\FE t= .bad then QE a B H0 E 1 (Ip t) else RoX a B H0 L Kn Q e t
inductive aZ (a:bf) (w2:Gu) (p:FC->FC->Fl->Fv Fs) (c:FC) (ok:FC->Fl->Ff->Prop) (vs:E9 V) (H:Hp) (Q:VK) (E:XK):Prop
 |mk (B:Rb) (n:FC) (t:Ff) (Kn:Fl) (d:FC) (fuel:FC) (_:vs=[.ref B.r, .int d]) (_:d<=12) (_:ok d Kn t) (_:fo a B H n t Kn) (_:16*t.length+c<=fuel) (_:W (p fuel (12-d) Kn) t (Rz w2 a B H t.length Kn Q E) (QE a B H E)):aZ a w2 p c ok vs H Q E
def Lv (j:FC):FC->Fl->Ff->Prop:=λd _ _=>13<=d+j
def LvS (j:FC) (s:Fb):FC->Fl->Ff->Prop:=λd _ t=>13<=d+j/\FE t= .sign s
def LvW (j:FC) (s:Fb):FC->Fl->Ff->Prop:=λd _ t=>13<=d+j/\FE t= .word s
def LvC (j:FC):FC->Fl->Ff->Prop:=λd K t=>13<=d+j/\ ∃u f,FE t= .word u/\u≠Fc "sum"/\GD.contains u=FS/\K.funs.find? (λf=>f.1 == u)=Fa f
section
variable {k:FC}{w2:Gu}{pp:FC->FC->Fl->Fv Fs}{c:FC}{ok:FC->Fl->Ff->Prop}{x He:FR}{st:Stmt}{f:Fi}{fd:Gs}{N:E9 FR}{ps:E9 FR}
theorem jS {s:Fn}{H:Hp}{E:XK}(T:aW K mg a) (XC:XT K a) (hk:8<=k) (S:az N ("reader"::ps) (af st)) (hr:bZ k (A.deeper (JJ He (af st) s.heap.objs.size f GU))):
  RX (e8 (fY P w) P w K mg base N He (af st) f GU A outer s H E) a E:=
 #[T,XC,hr.mono hk,aA,Jf,S.nd,by
  have e:=S.pre;cases N with
  |nil=>cases e
  |cons x l=>exact Gq Fa (IB e).1,(S.par "reader" Fq).elim .inl λz=> .inr (.inl z)]
theorem vv (T:aW K mg a) (XC:XT K a) (hk:8<=k) (F:oX K x He st f fd) (S:az N ["reader","depth"] (af st))
  (JG: ∀(GU:Fh) (A:GV) (outer:E9 Env) (s:Fn) (H:Hp) (B:Rb) (t:Ff) (Kn:Fl) (d fuel:FC) (Q:VK) (E:XK),bZ k (A.deeper (JJ He (af st) s.heap.objs.size f GU))->d<=12->ok d Kn t->16*t.length+c<=fuel->Kn.values.length+t.length<=4000->
   let X:=e8 (fY P w) P w K mg base N He (af st) f GU A outer s H E
   let D:eA:= { nx:=λ_ H'=>Q .IJ H',rt:=Q }
   let Z:Zf Fs:=#[a,E,B,t.length,H,Rz w2 a B H t.length Kn Q E]
   RX X a E->RS Z [] FS H t Kn (pp fuel (12-d) Kn)->Bd X (be st) D (L2.start N [.ref B.r, .int d]) H):bU P w K mg base (fY P w) (k+1) f fd ["reader","depth"] (aZ a w2 pp c ok):=by
 refine fP F S [03] [02];obtain⟨B,n,t,Kn,d,fuel,rfl,hd,ho,St,hf,hW⟩:=h;exact JG GU A outer s H B t Kn d fuel Q E hr hd ho hf St.kn.len (jS T XC hk S hr) #[#[n,St],db.refl,λ{i x} e=>(by cases e),FF _,hW]
end
section
variable {X:Cx}{β:Type}{Z:Zf β}{F:E9 (Fk×V)}{b:Gu}{H:Hp}{t:Ff}{Kn:Fl}{D:eA}{ss:E9 Stmt}{σ:L2.St}{p0 p1 p2 p3 p4 p5:Pos}{j:FC}{v y:FR}{s:String}{E:XK}{d:FC}
theorem RS.done {H0:Hp}{w2:Gu}{Q:VK}{v:V}(R:RS #[a,E,B,L,H0,Rz w2 a B H0 L Kn Q E] F FM H t Kn (pure e)) (h:au a (eQ B) H e v) (nb:w2=FM->FE t≠ .bad:=by intro z;cases z):Q v H:=by
 rw[00];have w:=R.w;rw[Cl] at w;have w:Rz w2 a B H0 L Kn Q E e t:=w;unfold Rz at w;rw[Fj λz=>nb z.1 z.2] at w;exact w H v n R.l S R.k h
theorem RS.tail {w2:Gu}{Q:VK}{pp:FC->FC->Fl->Fv Fs}{c f:FC}{ok:FC->Fl->Ff->Prop}(R:RS #[a,E,B,t.length,H,Rz w2 a B H t.length Kn Q E] F b H t Kn (pp f (12-d) Kn)) (hd:d<=12) (ho:ok d Kn t) (hf:16*t.length+c<=f):aZ a w2 pp c ok [.ref B.r, .int d] H Q E:=by
 rw[00];exact#[B,n,t,Kn,d,f,Gc,hd,ho,S,hf,R.w]
theorem zg (i:FC) {g:FC->Fv β}(Y:RX X Z.a Z.E) (hd:d<=12) (nb:FE t≠ .bad) (R:RS Z F b H t Kn (Hw (12-d)>>=g)) (q:d<12->RS Z F b H t Kn (g (12-(d+1)))->Bd X ss D ((Fa (.ref Z.B.r)::Fa (.int d)::σ).set i (Fa (.int ((d+1:FC):Int)))) H)
  (h:Sl X i y:=by exact#[Gc,G9 Gc,Gc]) (h1:X.N[1]?=Fa ("depth":FR):=by rfl) (v1:oU X.env.scope "depth":=by exact G9 Gc) (hg:Gl X "deeper":=by rfl):
  Bd X (.Assign [.Name y p0] (.Call (.Name "deeper" p1) [.Name "reader" p2, .Name "depth" p3] [] p4) p5::ss) D (Fa (.ref Z.B.r)::Fa (.int d)::σ) H:=by
 rw[00];obtain⟨⟨x,xp⟩,t',rfl,tok,Q0,MT,_⟩:=S.wh.first;have hW:=R.w;rw[jz] at hW;have nx:x≠ .bad:=nb;refine aN i Y.nd (h:=h) #[_,Y.call2 #[alT Y.T Y.C,Y.hr.mono [01],Y.T.d_f.c,hg] (dR h1 v1) [01] Gc,Z.B.r,Z.B.q,Z.B.kd,Z.B.fn,Z.B.ds,Z.B.bl,n,(x,xp),t',d,Gc,S.rd,λe=>?_,λe=>?_]
 .rw[Fj nx]
  exact fF (p:=Hw (12-d)) (n:=6) (by unfold Hw;rw[Fm (by lia)]) nb hW H R.k
 .have ed:Hw (12-d) ((x,xp)::t')= .ok (12-(d+1),(x,xp)::t'):=by unfold Hw;rw[Fj (by lia),show 12-d-1=12-(d+1) by lia]
  rw[yV ed] at hW;exact q (by lia) #[R.S,R.k,R.f,R.l,hW]
def En (Z:Zf β) (g:Fs->Fv β):Prop:= ∀e r,FE r= .bad->W (g e) r Z.Ro (QE Z.a Z.B Z.H0 Z.E)->QE Z.a Z.B Z.H0 Z.E 1 (Ip r)
theorem nE {g:Fs->Fv β}(h: ∀e,aK (g e)):En Z g:=λe _ nb w=>(h e).LK nb w
theorem amb {H0:Hp}{Q:VK}{g:Fs->Fs} :En #[a,E,B,L,H0,Rz FM a B H0 L Kn Q E] (λy=>pure (g y)):=λe r nb w=>by
 rw[Cl] at w;have w:Rz FM a B H0 L Kn Q E (g e) r:=w;unfold Rz at w;rw[Fm #[Gc,nb]] at w;exact w
theorem RS.UR {w2:Gu}{g:Fs->Fv β}{pp:FC->FC->Fl->Fv Fs}{c f:FC}{ok:FC->Fl->Ff->Prop}{Q:VK}(R:RS Z F b H t Kn (pp f (12-d) Kn>>=g)) (st:w2=FM->En Z g) (hd:d<=12) (ho:ok d Kn t) (hf:16*t.length+c<=f)
  (q: ∀e v H' t',(w2=FM->FE t'≠ .bad)->RS Z ((.e e,v)::F) FM H' t' Kn (g e)->Q v H'):aZ Z.a w2 pp c ok [.ref Z.B.r, .int d] H Q Z.E:=by
 rw[00];have hW:=R.w;rw[jz] at hW;have l:t.length<=Z.L:=FP (JZ _ _) R.l;refine#[Z.B,n,t,Kn,d,f,Gc,hd,ho,S,hf,hW.mono (λe r w=>?_) λ_ _ z H' k=>z H' (R.k.trans k)];unfold Rz;by_cases nb:w2=FM/\FE r= .bad
 .rw[Fm nb]
  exact λH' k=>st nb.1 e r nb.2 w H' (R.k.trans k)
 .rw[Fj nb]
  exact λH' v n' l' S' k' h=>q e v H' r (λh z=>nb #[h,z]) ((R.go (b':=FM) S' k' (show r.length+1<=Z.L by lia) w).and h)
theorem RS.call {g:Fs->Fv β}{pp:FC->FC->Fl->Fv Fs}{c f:FC}{ok:FC->Fl->Ff->Prop}{Q:VK}(R:RS Z F b H t Kn (pp f (12-d) Kn>>=g)) (st:En Z g) (hd:d<=12) (ho:ok d Kn t) (hf:16*t.length+c<=f)
  (q: ∀e v H' t',FE t'≠ .bad->RS Z ((.e e,v)::F) FM H' t' Kn (g e)->Q v H'):aZ Z.a FM pp c ok [.ref Z.B.r, .int d] H Q Z.E:=R.UR (λ_=>st) hd ho hf λe v H' t' nb=>q e v H' t' (nb Gc)
theorem RS.aie {g:Fs->Fv β}{pp:FC->FC->Fl->Fv Fs}{c f:FC}{ok:FC->Fl->Ff->Prop}{Q:VK}(R:RS Z F b H t Kn (pp f (12-d) Kn>>=g)) (hd:d<=12) (ho:ok d Kn t) (hf:16*t.length+c<=f)
  (q: ∀e v H' t',RS Z ((.e e,v)::F) FM H' t' Kn (g e)->Q v H'):aZ Z.a FS pp c ok [.ref Z.B.r, .int d] H Q Z.E:=R.UR (λz=>nomatch z) hd ho hf λe v H' t' _=>q e v H' t'
theorem eD (i:FC) {x:FR}{g:Fs->Fv β}{pp:FC->FC->Fl->Fv Fs}{c f:FC}{ok:FC->Fl->Ff->Prop}{te:TE}(Y:RX X Z.a Z.E) (cl:CB X x ["reader","depth"] (aZ Z.a FM pp c ok)) (he:PE X e te) (hv: ∀Q:VK,Q (.int d) H->te (Fa (.ref Z.B.r)::σ) H Q)
  (R:RS Z F FM H t Kn (pp f (12-d) Kn>>=g)) (st:En Z g) (hd:d<=12) (ho:ok d Kn t) (hf:16*Z.L+c<=f+16)
  (q: ∀e v H' t',RS Z ((.e e,v)::F) FM H' t' Kn (g e)->Bd X ss D ((Fa (.ref Z.B.r)::σ).set i (Fa v)) H')
  (h:Sl X i y:=by exact#[Gc,G9 Gc,Gc]) (hx:(x == [003])=FS:=by decide) (Kq:FK [e] X.env=[[001]]:=by rfl):
  Bd X (.Assign [.Name y p0] (.Call (.Name x p1) [.Name "reader" p2,e] [] p4) p5::ss) D (Fa (.ref Z.B.r)::σ) H:=by
 have l:t.length+1<=Z.L:=R.l;refine aN i Y.nd #[_,Y.call2 cl he hx Kq,?_] h;exact hv _ (R.call st hd ho (by lia) λe v H' t' _ R'=>q e v H' t' R')
theorem RX.make {c:FR}{C:Fi}{fs:E9 FR}{e:HH}{es:E9 HH}{tt:TA}(Y:RX X a E) (nb:NB X c C fs) (ha:PA X (e::es) tt) (hg:Gl X c) (hx:(c == [003])=FS) (he:FK (e::es) X.env=[001]::FK es X.env) (MT:(IV p4 (FK es X.env)).any (·.1)=FS):
  PE X (.Call (.Name c p1) (e::es) [] p4) (Bq C (kJ C fs) [] E0 tt):=by
 obtain⟨M,G,b,hm⟩:=nb;exact gT M G (Y.hr.mono [01]) hg hm b .nil aQ ha hx he MT
theorem jH {c:FR}{C:Fi}{fs:E9 FR}{e:HH}{es:E9 HH}{Q:VK}(Y:RX X a E) (nb:NB X c C fs) (q:Pa X (e::es) σ H λws H1=> ∀x dx,H1 x=FB->H1 dx=FB->dx≠x->kJ C fs (.ref x::(ws++[])) (aF (aF H1 dx (.own x)) x (.ins C dx [])) (λv H2=>v= .IJ/\Q (.ref x) H2) E0)
  (hg:Gl X c:=by rfl) (hx:(c == [003])=FS:=by decide) (he:FK (e::es) X.env=[001]::FK es X.env:=by rfl) (MT:(IV p4 (FK es X.env)).any (·.1)=FS:=by rfl):Pe X (.Call (.Name c p1) (e::es) [] p4) σ H Q:=#[_,Y.make nb sX hg hx he MT,q]
theorem RS.new {p:Fv β}{Q:VK}(R:RS Z F b H t Kn p) (hl:ws.length=fs.length) (q: ∀u H',bF (eQ Z.B) H' C (fs.zip ws) u->RS Z F b H' t Kn p->Q u H'):
  ∀x dx,H x=FB->H dx=FB->dx≠x->kJ C fs (.ref x::(ws++[])) (aF (aF H dx (.own x)) x (.ins C dx [])) (λv H2=>v= .IJ/\Q (.ref x) H2) E0:=λx dx hx Vf ne=>by
 rw[00];refine#[x,dx,ws++[],Gc,by rw[Hc];exact hl,ae,λH' h1 h2=>#[Gc,?_]];rw[Hc] at h1;have sm:aS H H':=λb o e=>h2 b o (by rw[ac (ai e hx),ac (ai e Vf)];exact e) (ai e hx);exact q _ H' #[x,dx,Gc,S.fresh hx,h1] (R.go (S.same sm) (OS.aS.keeps sm) R.l R.w)
theorem hU {p:Fv β}{c:FR}(Y:RX X Z.a Z.E) (nb:NB X c C fs) (ha:PA X (e::es) tt) (hv: ∀Q:E9 V->Hp->Prop,Q ws H->tt σ H Q) (R:RS Z F b H t Kn p) (hl:ws.length=fs.length) (q: ∀u H',bF (eQ Z.B) H' C (fs.zip ws) u->RS Z F b H' t Kn p->D.rt u H')
  (hg:Gl X c:=by rfl) (hx:(c == [003])=FS:=by decide) (he:FK (e::es) X.env=[001]::FK es X.env:=by rfl) (MT:(IV p4 (FK es X.env)).any (·.1)=FS:=by rfl):
  Bd X [.Return (Fa (.Call (.Name c p1) (e::es) [] p4)) p5] D σ H:=d8 (aJ (Y.make nb ha hg hx he MT)) (hv _ (R.new hl q))
end
theorem zx:d7 "(" (Fc "("):=[008]
theorem uG:d7 ")" (Fc ")"):=[008]
theorem uF:cV "sum" (Fc "sum"):=[007]
theorem YR:cV "in" (Fc "in"):=[007]
theorem YS:d7 ".." (Fc ".."):=[008]
theorem YT:d7 ":" (Fc ":"):=[008]
theorem sk {Kn:Fl}{t:Ff} :GL (f+1) d Kn ((.word (Fc "sum"),xp)::t)=
  (Hw d>>=λe=>GF>>=λ_=>Ge "(">>=λ_=>GO Kn>>=λx=>Hr "in">>=λ_=>FT f e Kn>>=λlo=>Ge "..">>=λ_=>FT f e Kn>>=λhi=>Ge ":">>=λ_=>
   FT f e (Kn.with x)>>=λy=>Ge ")">>=λ_=>pure (.sum x lo hi y):Fv Fs) ((.word (Fc "sum"),xp)::t):=by
 rw[GL];show(if Fc "sum"=Fc "sum" then _ else _)=_
 rw[Fm Gc]
theorem xh:cV "if" (Fc "if"):=[007]
theorem Es:cV "then" (Fc "then"):=[007]
theorem ra:cV "else" (Fc "else"):=[007]
theorem E7 {Kn:Fl}{t:Ff} :FT (f+1) d Kn ((.word (Fc "if"),xp)::t)=
  (Hw d>>=λe=>GF>>=λ_=>FT f e Kn>>=λc=>Hr "then">>=λ_=>FT f e Kn>>=λx=>Hr "else">>=λ_=>FT f e Kn>>=λy=>pure (.pick c x y):Fv Fs) ((.word (Fc "if"),xp)::t):=by
 rw[FT];show(if Fw ((.word (Fc "if"),xp)::t) "if"=FM then _ else _)=_
 rw[Fm (by unfold Fw;exact G7 _)]
theorem vF {Kn:Fl}{t:Ff} :GL (f+1) d Kn ((.sign (Fc "("),xp)::t)=
  (Hw d>>=λe=>GF>>=λ_=>FT f e Kn>>=λx=>Ge ")">>=λ_=>pure x:Fv Fs) ((.sign (Fc "("),xp)::t):=by
 rw[GL];show(if Gf ((.sign (Fc "("),xp)::t) "("=FM then _ else _)=_
 rw[Fm (by unfold Gf;exact G7 _)]
theorem e7 {β:Type}{Z:Zf β}{F:E9 (Fk×V)}{b:Gu}{H:Hp}{t:Ff}{Kn:Fl}{p:Fv β}(R:RS Z F b H t Kn p) (h:FE t= .word u): ∃xp r,t=(.word u,xp)::r:=by
 rw[00];obtain⟨⟨x,xp⟩,r,rfl,_,_,_,_⟩:=S.wh.first;exact#[xp,r,by rw[show x= .word u from h]]
theorem w6 {β:Type}{Z:Zf β}{F:E9 (Fk×V)}{b:Gu}{H:Hp}{t:Ff}{Kn:Fl}{p:Fv β}(R:RS Z F b H t Kn p) (h:FE t= .sign u): ∃xp r,t=(.sign u,xp)::r:=by
 rw[00];obtain⟨⟨x,xp⟩,r,rfl,_,_,_,_⟩:=S.wh.first;exact#[xp,r,by rw[show x= .sign u from h]]
theorem BT (h:16*L+c<=f) (hc:6<=c): ∃g,f=g+1/\16*L+12<=g+16:=#[f-1,by lia,by lia]
section
variable {β:Type}{Z:Zf β}{H:Hp}
theorem iS {g:Nc->Fv β}(Y:RX X Z.a Z.E) (l:cV v (Fc s)) (R:RS Z F b H ((.word (Fc s),xp)::t) Kn (GF>>=g)) (q: ∀H' t',RS Z F FM H' t' Kn (g ())->Bd X ss D (Fa (.ref Z.B.r)::σ) H') (hp:ip p2 p4:=by rfl):
  Bd X (.Expr (.Call (.Attribute [005] "expect" p2) [.Constant (.str v) j p3] [] p4) p5::ss) D (Fa (.ref Z.B.r)::σ) H:=
 qF Y R (λr e ok=>by
  cases e;exact B7 t (by rw[b7 ok l];exact G7 _) (by intro z;cases z) (by intro z;cases z with|inl z=>cases z|inr z=>cases z)) q hp
theorem A8 {g:Nc->Fv β}(Y:RX X Z.a Z.E) (l:d7 v (Fc s)) (R:RS Z F b H ((.sign (Fc s),xp)::t) Kn (GF>>=g)) (q: ∀H' t',RS Z F FM H' t' Kn (g ())->Bd X ss D (Fa (.ref Z.B.r)::σ) H') (hp:ip p2 p4:=by rfl):
  Bd X (.Expr (.Call (.Attribute [005] "expect" p2) [.Constant (.str v) j p3] [] p4) p5::ss) D (Fa (.ref Z.B.r)::σ) H:=
 qF Y R (λr e ok=>by
  cases e;exact B7 t (by rw[cR ok l];exact G7 _) (by intro z;cases z) (by intro z;cases z with|inl z=>cases z|inr z=>cases z)) q hp
end
theorem aif (T:aW K mg a) (XC:XT K a) (hk:8<=k)
  (G:T.SI.O P w base k (aZ a FM FT 12 (Lv j))):
  T.Xa.O P w base (k+1) (aZ a FS GL 6 (LvW (j+1) (Fc "sum"))):=by
 refine vv T XC hk T.Xa.F ahd λGU A outer s H B t Kn d fuel Q E hr hd ho hf hm=>?_;intro X D Z Y R;obtain⟨hl,h0⟩:=ho;obtain⟨xp,r,rfl⟩:=e7 R h0;obtain⟨f,rfl,hF⟩:=BT hf [01];have c:CB X "read_exp" ["reader","depth"] (aZ a FM FT 12 (Lv j)):=#[G,hr,T.SI.c,Gc];have hl:13<=d+1+j:=by rw[Na];exact hl
 refine zg 2 Y hd (by intro z;cases z) (R.as sk) λlt R=>?_;refine iS Y uF R λH t R=>?_;refine cJ Y zx R λH t R=>?_;refine i4 3 Y R λu H t ft R=>?_;refine kU Y YR R λH t R=>?_;refine eD 4 Y c (pv 2) [05] R (nE λx=>(bi "..").bind) lt hl hF λe1 v1 H t R=>?_;refine cJ Y YS R λH t R=>?_;refine eD 5 Y c (pv 2) [05] R (nE λx=>(bi ":").bind) lt hl hF λe2 v2 H t R=>?_;refine cJ Y YT R λH t R=>?_;refine gJ Y (pv 3) [05] ft hm R λH R=>?_;refine eD 6 Y c (pv 2) [05] R (nE λx=>(bi ")").bind) lt hl hF λe3 v3 H t R=>?_;refine kP Y (pv 3) [05] ft R λH R=>?_;refine cJ Y uG R λH t R=>?_;refine hU Y (abc T) (aa (pv 3) (aa (pv 4) (aa (pv 5) (aa (pv 6) ag)))) [05] R Gc λu H i R=>R.done ?_;unfold au;exact#[v1,v2,v3,i,R.f (i:=2) Gc,R.f (i:=1) Gc,R.f (i:=0) Gc]
theorem aih (T:aW K mg a) (XC:XT K a) (hk:8<=k)
  (G:T.SI.O P w base k (aZ a FM FT 12 (Lv j))):
  T.W9.O P w base (k+1) (aZ a FS GL 6 (LvS (j+1) (Fc "("))):=by
 refine vv T XC hk T.W9.F ahc λGU A outer s H B t Kn d fuel Q E hr hd ho hf hm=>?_;intro X D Z Y R;obtain⟨hl,h0⟩:=ho;obtain⟨xp,r,rfl⟩:=w6 R h0;obtain⟨f,rfl,hF⟩:=BT hf [01];have c:CB X "read_exp" ["reader","depth"] (aZ a FM FT 12 (Lv j)):=#[G,hr,T.SI.c,Gc];have hl:13<=d+1+j:=by rw[Na];exact hl
 refine zg 2 Y hd (by intro z;cases z) (R.as vF) λlt R=>?_;refine A8 Y zx R λH t R=>?_;refine eD 3 Y c (pv 2) [05] R (nE λx=>(bi ")").bind) lt hl hF λe v H t R=>?_;refine cJ Y uG R λH t R=>?_;exact aM (bB 3 (R.done (R.f (i:=0) Gc)))
theorem aii (T:aW K mg a) (XC:XT K a) (hk:8<=k)
  (G:T.SI.O P w base k (aZ a FM FT 12 (Lv j))):
  T.W7.O P w base (k+1) (aZ a FM FT 12 (LvW (j+1) (Fc "if"))):=by
 refine vv T XC hk T.W7.F ag9 λGU A outer s H B t Kn d fuel Q E hr hd ho hf hm=>?_;intro X D Z Y R;obtain⟨hl,h0⟩:=ho;obtain⟨xp,r,rfl⟩:=e7 R h0;obtain⟨f,rfl,hF⟩:=BT hf [01];have c:CB X "read_exp" ["reader","depth"] (aZ a FM FT 12 (Lv j)):=#[G,hr,T.SI.c,Gc];have hl:13<=d+1+j:=by rw[Na];exact hl
 refine zg 2 Y hd (by intro z;cases z) (R.as E7) λlt R=>?_;refine iS Y xh R λH t R=>?_;refine eD 3 Y c (pv 2) [05] R (nE λx=>(eS "then").bind) lt hl hF λe1 v1 H t R=>?_;refine kU Y Es R λH t R=>?_;refine eD 4 Y c (pv 2) [05] R (nE λx=>(eS "else").bind) lt hl hF λe2 v2 H t R=>?_;refine kU Y ra R λH t R=>?_;have l:t.length+1<=Z.L:=R.l;refine aM (jH Y (yW T) (aP (bB 3 (aP (bB 4 (aP #[_,Y.call2 c (pv 2) [01] Gc,R.call amb lt hl (by lia) λe3 v3 H t nb R=>cF (R.new Gc λu H i R=>R.done ?_ λ_=>nb)]))))));unfold au;exact#[v1,v2,v3,i,R.f (i:=2) Gc,R.f (i:=1) Gc,R.f (i:=0) Gc]
end OS
namespace OS
open Vbemac
def ors (f d:FC) (Kn:Fl):Fv Fs:=do
 let x<-ands f d Kn
 let l<-moreOr f d Kn
 return (match l with
  | .nil=>x
  |l=> .either x l)
abbrev Pairs:=E9 (Gm×Exp)
def uX:Pairs->Exps->Exps
 |[],l=>l
 |x::r,l=> .cons x.2 (uX r l)
def vI:Pairs->Rest->Rest
 |[],l=>l
 |x::r,l=> .cons x.1 x.2 (vI r l)
theorem rO:uX (es++[x]) l=uX es (.cons x.2 l):=by
 induction es with
 |nil=>rfl
 |cons y r ih=>show Exps.cons y.2 (uX (r++[x]) l)=_;rw[ih];rfl
theorem tz:vI (es++[x]) l=vI es (.cons x.1 x.2 l):=by
 induction es with
 |nil=>rfl
 |cons y r ih=>show Rest.cons y.1 y.2 (vI (r++[x]) l)=_;rw[ih];rfl
theorem bK {α β:Type}{p:P α}{g:α->P β}{x:α}(h:p t= .ok (x,r)):(p>>=g) t=g x r:=by
 show FU p g t=_
 unfold FU;rw[h]
 rfl
theorem j9 {α β:Type}{p q:P α}{g:α->P β}(e:p t=q t'):(p>>=g) t=(q>>=g) t':=by
 show FU p g t=FU q g t'
 unfold FU;rw[e]
structure ChP (p sub:FC->FC->Known->P Exp) (c c':FC) (sg:E9 Gm) (once:Gu) (res:Exp->Pairs->Exp) where
 q:FC->FC->Known->Exp->Pairs->P Exp
 start: ∀ {fuel d:FC}{Kn:Known}{n:FC},16*n+c<=fuel-> ∃f,16*n+c'<=f/\p fuel d Kn=(sub f d Kn>>=λe=>q f d Kn e [])
 PF: ∀f d Kn e es,hJ (q f d Kn e es)
 stop: ∀ {f d:FC}{Kn:Known}{e:Exp}{es:Pairs}{t:MS},1<=f->(once=FM->es.length<=1)->(once=FM/\es≠[]\/ ∀op,peek t= .sign op->op∉sg)->q f d Kn e es t= .ok (res e es,t)
 go: ∀ {f d:FC}{Kn:Known}{e:Exp}{es:Pairs}{x:Tok×Pos}{t:MS}{op:Gm},16*(t.length+1)+c'<=f->(once=FM->es=[])->x.1= .sign op->op∈sg-> ∃f',16*t.length+c'<=f'/\q f d Kn e es (x::t)=(sub f' d Kn>>=λe2=>q f' d Kn e (es++[(op,e2)])) t
def DC (e:Exp):Exps->Exp
 | .nil=>e
 |l=> .either e l
def bth (e:Exp):Exps->Exp
 | .nil=>e
 |l=> .both e l
def sms (e:Exp):Rest->Exp
 | .nil=>e
 |l=> .sums e l
def oV (e:Exp):Rest->Exp
 | .nil=>e
 |l=> .prods e l
def S0:E9 Gm:=[text "||"]
def S1:E9 Gm:=[text "&&"]
def S2:E9 Gm:=["==","!=","<=",">=","<",">"].map text
def S3:E9 Gm:=["+","-"].map text
def S4:E9 Gm:=["*","/","%"].map text
theorem abw {f d:FC}{Kn:Known} :ors f d Kn=(ands f d Kn>>=λx=>moreOr f d Kn>>=λl=>pure (DC x l):P Exp):=by
 unfold ors
 congr 1
theorem Ey {f d:FC}{Kn:Known} :ands (f+1) d Kn=(compared f d Kn>>=λx=>moreAnd f d Kn>>=λl=>pure (bth x l):P Exp):=by
 rw[ands]
 congr 1
theorem Bg {f d:FC}{Kn:Known} :added (f+1) d Kn=(times f d Kn>>=λx=>moreAdded f d Kn>>=λl=>pure (sms x l):P Exp):=by
 rw[added]
 congr 1
theorem BV {f d:FC}{Kn:Known} :times (f+1) d Kn=(unary f d Kn>>=λx=>moreTimes f d Kn>>=λl=>pure (oV x l):P Exp):=by
 rw[times]
 congr 1
theorem mD {t:MS}{s:String}{l:E9 Gm}(h: ∀op,peek t= .sign op->op∉l) (m:text s∈l):L5 t s=FS:=by
 unfold L5;rw[beq_eq_false_iff_ne];exact λz=>h _ z m
theorem jG (h: ∀op,peek t= .sign op->op∉l.map text):Lz l t= .ok (FB,t):=by
 unfold Lz;cases e:peek t with
 |sign s=>
  dsimp only;rw[Fj (by rw[Gn];exact h s e)]
 |_=>rfl
theorem lg (e:x.1= .sign op) (h:op∈l.map text):Lz l (x::t)= .ok (Fa op,t):=by
 unfold Lz;have e:peek (x::t)= .sign op:=e;rw[e];dsimp only;rw[Fm (by rw[Gn];exact h)]
 rfl
theorem vK {f d:FC}{Kn:Known}{t:MS}(h:L5 t "||"=FS):moreOr (f+1) d Kn t= .ok (.nil,t):=by
 rw[moreOr];show(FU (ifSign "||") _) t=_;unfold FU ifSign;rw[h]
 rfl
theorem r9 {f d:FC}{Kn:Known}{t:MS}(h:L5 t "&&"=FS):moreAnd (f+1) d Kn t= .ok (.nil,t):=by
 rw[moreAnd];show(FU (ifSign "&&") _) t=_;unfold FU ifSign;rw[h]
 rfl
theorem zD {f d:FC}{Kn:Known}{x:Tok×Pos}{t:MS}(h:L5 (x::t) "||"=FM):moreOr (f+1) d Kn (x::t)=(ands f d Kn>>=λa=>moreOr f d Kn>>=λl=>pure (.cons a l):P Exps) t:=by
 rw[moreOr];show(FU (ifSign "||") _) (x::t)=_;unfold FU ifSign;rw[h]
 rfl
theorem uA {f d:FC}{Kn:Known}{x:Tok×Pos}{t:MS}(h:L5 (x::t) "&&"=FM):moreAnd (f+1) d Kn (x::t)=(compared f d Kn>>=λa=>moreAnd f d Kn>>=λl=>pure (.cons a l):P Exps) t:=by
 rw[moreAnd];show(FU (ifSign "&&") _) (x::t)=_;unfold FU ifSign;rw[h]
 rfl
theorem pi {f d:FC}{Kn:Known}{t:MS}(h: ∀op,peek t= .sign op->op∉S3):moreAdded (f+1) d Kn t= .ok (.nil,t):=by
 rw[moreAdded];show(FU (Lz ["+","-"]) _) t=_;unfold FU;rw[jG h]
 rfl
theorem o9 {f d:FC}{Kn:Known}{t:MS}(h: ∀op,peek t= .sign op->op∉S4):moreTimes (f+1) d Kn t= .ok (.nil,t):=by
 rw[moreTimes];show(FU (Lz ["*","/","%"]) _) t=_;unfold FU;rw[jG h]
 rfl
theorem rq {f d:FC}{Kn:Known}{x:Tok×Pos}{t:MS}{op:Gm}(e:x.1= .sign op) (h:op∈S3):moreAdded (f+1) d Kn (x::t)=(times f d Kn>>=λa=>moreAdded f d Kn>>=λl=>pure (.cons op a l):P Rest) t:=by
 rw[moreAdded];show(FU (Lz ["+","-"]) _) (x::t)=_;unfold FU;rw[lg e h]
 rfl
theorem rp {f d:FC}{Kn:Known}{x:Tok×Pos}{t:MS}{op:Gm}(e:x.1= .sign op) (h:op∈S4):moreTimes (f+1) d Kn (x::t)=(unary f d Kn>>=λa=>moreTimes f d Kn>>=λl=>pure (.cons op a l):P Rest) t:=by
 rw[moreTimes];show(FU (Lz ["*","/","%"]) _) (x::t)=_;unfold FU;rw[lg e h]
 rfl
def nZ (f d:FC) (Kn:Known) (a:Exp):P Exp:=Lz ["==","!=","<=",">=","<",">"]>>=λs=>match s with
 |none=>pure a
 |some op=>added f d Kn>>=λb=>pure (.cmp op a b)
theorem tX {f d:FC}{Kn:Known} :compared (f+1) d Kn=(added f d Kn>>=λx=>nZ f d Kn x:P Exp):=by
 rw[compared]
 rfl
theorem vj (f d:FC) (Kn:Known) (a:Exp):hJ (nZ f d Kn a):=(rW _).bind λs=>by
 cases s with
 |none=>exact fJ _
 |some op=>exact(kh f d Kn).bind.PF
theorem yo {f d:FC}{Kn:Known}{a:Exp}{t:MS}(h: ∀op,peek t= .sign op->op∉S2):nZ f d Kn a t= .ok (a,t):=by
 unfold nZ;show(FU (Lz ["==","!=","<=",">=","<",">"]) _) t=_;unfold FU;rw[jG h]
 rfl
theorem Ci {f d:FC}{Kn:Known}{a:Exp}{x:Tok×Pos}{t:MS}{op:Gm}(e:x.1= .sign op) (h:op∈S2):nZ f d Kn a (x::t)=(added f d Kn>>=λb=>pure (.cmp op a b):P Exp) t:=by
 unfold nZ;show(FU (Lz ["==","!=","<=",">=","<",">"]) _) (x::t)=_;unfold FU;rw[lg e h]
 rfl
theorem xG {x:Tok×Pos}{t:MS}{op:Gm}{s:String}(e:x.1= .sign op) (h:op∈[text s]):L5 (x::t) s=FM:=by
 unfold L5;obtain rfl:=FN.mp h;exact beq_iff_eq.mpr e
def amc:ChP ors ands 11 11 S0 FS (λe es=>DC e (uX es .nil)) where
 q f d Kn e es:=moreOr f d Kn>>=λl=>pure (DC e (uX es l))
 start {fuel d Kn n} hf:=#[fuel,by lia,by rw[abw];rfl]
 PF f d Kn e es:=(tQ f d Kn).bind λl=>fJ _
 stop {f d Kn e es t} hf _ h:=by
  obtain⟨f,rfl⟩: ∃f',f=f'+1:=#[f-1,by lia];rcases h with⟨h,_⟩|h
  .cases h
  .exact bK (vK (mD h (FN.mpr Gc)))
 go {f d Kn e es x t op} hf _ e1 h:=by
  obtain⟨f,rfl⟩: ∃f',f=f'+1:=#[f-1,by lia];refine#[f,by lia,?_];rw[j9 (zD (xG e1 h)),bind_assoc];refine Gq (λg=>(ands f d Kn>>=g:P Exp) t) (funext λa=>?_);rw[bind_assoc];simp only[rO]
  rfl
def aij:ChP ands compared 11 10 S1 FS (λe es=>bth e (uX es .nil)) where
 q f d Kn e es:=moreAnd f d Kn>>=λl=>pure (bth e (uX es l))
 start {fuel d Kn n} hf:=by
  obtain⟨f,rfl⟩: ∃f',fuel=f'+1:=#[fuel-1,by lia];exact#[f,by lia,by rw[Ey];rfl]
 PF f d Kn e es:=(qx f d Kn).bind λl=>fJ _
 stop {f d Kn e es t} hf _ h:=by
  obtain⟨f,rfl⟩: ∃f',f=f'+1:=#[f-1,by lia];rcases h with⟨h,_⟩|h
  .cases h
  .exact bK (r9 (mD h (FN.mpr Gc)))
 go {f d Kn e es x t op} hf _ e1 h:=by
  obtain⟨f,rfl⟩: ∃f',f=f'+1:=#[f-1,by lia];refine#[f,by lia,?_];rw[j9 (uA (xG e1 h)),bind_assoc];refine Gq (λg=>(compared f d Kn>>=g:P Exp) t) (funext λa=>?_);rw[bind_assoc];simp only[rO]
  rfl
def aik:ChP added times 9 8 S3 FS (λe es=>sms e (vI es .nil)) where
 q f d Kn e es:=moreAdded f d Kn>>=λl=>pure (sms e (vI es l))
 start {fuel d Kn n} hf:=by
  obtain⟨f,rfl⟩: ∃f',fuel=f'+1:=#[fuel-1,by lia];exact#[f,by lia,by rw[Bg];rfl]
 PF f d Kn e es:=(og f d Kn).bind λl=>fJ _
 stop {f d Kn e es t} hf _ h:=by
  obtain⟨f,rfl⟩: ∃f',f=f'+1:=#[f-1,by lia];rcases h with⟨h,_⟩|h
  .cases h
  .exact bK (pi h)
 go {f d Kn e es x t op} hf _ e1 h:=by
  obtain⟨f,rfl⟩: ∃f',f=f'+1:=#[f-1,by lia];refine#[f,by lia,?_];rw[j9 (rq e1 h),bind_assoc];refine Gq (λg=>(times f d Kn>>=g:P Exp) t) (funext λa=>?_);rw[bind_assoc];simp only[tz]
  rfl
def ail:ChP times unary 8 7 S4 FS (λe es=>oV e (vI es .nil)) where
 q f d Kn e es:=moreTimes f d Kn>>=λl=>pure (oV e (vI es l))
 start {fuel d Kn n} hf:=by
  obtain⟨f,rfl⟩: ∃f',fuel=f'+1:=#[fuel-1,by lia];exact#[f,by lia,by rw[BV];rfl]
 PF f d Kn e es:=(mG f d Kn).bind λl=>fJ _
 stop {f d Kn e es t} hf _ h:=by
  obtain⟨f,rfl⟩: ∃f',f=f'+1:=#[f-1,by lia];rcases h with⟨h,_⟩|h
  .cases h
  .exact bK (o9 h)
 go {f d Kn e es x t op} hf _ e1 h:=by
  obtain⟨f,rfl⟩: ∃f',f=f'+1:=#[f-1,by lia];refine#[f,by lia,?_];rw[j9 (rp e1 h),bind_assoc];refine Gq (λg=>(unary f d Kn>>=g:P Exp) t) (funext λa=>?_);rw[bind_assoc];simp only[tz]
  rfl
def aim (e:Exp):Pairs->Exp
 |[]=>e
 |x::_=> .cmp x.1 e x.2
def amd (f d:FC) (Kn:Known) (e:Exp):Pairs->P Exp
 |[]=>nZ f d Kn e
 |x::_=>pure (.cmp x.1 e x.2)
def ain:ChP compared added 10 9 S2 FM aim where
 q:=amd
 start {fuel d Kn n} hf:=by
  obtain⟨f,rfl⟩: ∃f',fuel=f'+1:=#[fuel-1,by lia];exact#[f,by lia,by rw[tX];rfl]
 PF f d Kn e es:=by
  cases es with
  |nil=>exact vj f d Kn e
  |cons x r=>exact fJ _
 stop {f d Kn e es t} hf _ h:=by
  cases es with
  |nil=>
   rcases h with⟨_,h⟩|h
   .exact FH Gc h
   .exact yo h
  |cons x r=>rfl
 go {f d Kn e es x t op} hf h0 e1 h:=by
  obtain rfl:=h0 Gc;exact#[f,by lia,Ci e1 h]
end OS
namespace OS
open PySem PySem.Spec L2
open PyProof.Rows hiding St
variable {P:Ga}{w:GN}{K:Fe}{mg:FR->Ft Fh}{base:GY}{a:bf}
theorem YU {u:Fb}{xp:Gx} : ¬jy (.word u,xp):=by intro z;cases z with|inl z=>cases z|inr z=>cases z
theorem nfS {u:Fb}{xp:Gx} : ¬jy (.sign u,xp):=by intro z;cases z with|inl z=>cases z|inr z=>cases z
theorem nfN {xp:Gx} : ¬jy (.num m,xp):=by intro z;cases z with|inl z=>cases z|inr z=>cases z
theorem t9 (h:lH x=FM): ∃m,x= .num m:=by
 cases x with
 |num m=>exact#[m,Gc]
 |_=>cases h
theorem gD (h:cQ x=FM): ∃u,x= .word u/\GD.contains u=FS:=by
 cases x with
 |word u=>rw[dF] at h;exact#[u,Gc,by cases e:GD.contains u;rfl;rw[e] at h;cases h]
 |_=>cases h
theorem Ab {A:Type} [BEq A] [LawfulBEq A] {x y:A}(h:(x == y)=FS):x≠y:=beq_eq_false_iff_ne.mp h
theorem rV:GL (f+1) d Kn ((.num m,xp)::t)=(GF>>=λ_=>pure (.num m):Fv Fs) ((.num m,xp)::t):=by rw[GL];rfl
theorem uS (h0:lH x=FS) (h1:x≠ .sign (Fc "(")) (h2:x≠ .word (Fc "sum")) (h3:cQ x=FS):GL (f+1) d Kn ((x,xp)::t)=FJ 2 ((x,xp)::t):=by
 rw[GL];cases x with
 |num m=>cases h0
 |sign u=>
  show(if Gf ((.sign u,xp)::t) "("=FM then _ else FJ 2 ((.sign u,xp)::t))=_
  rw[Fj (show¬Gf ((.sign u,xp)::t) "("=FM from λz=>h1 (beq_iff_eq.mp z))]
 |word u=>
  rw[dF] at h3;show(if u=Fc "sum" then _ else if GD.contains u=FM then _ else _)=_
  rw[Fj λz=>h2 (by rw[z]),Fm (by cases e:GD.contains u;rw[e] at h3;cases h3;rfl)]
 |eof=>rfl
 |bad=>rfl
theorem qw (ns:Hy u≠ .word (Fc "sum")) (hk:GD.contains u=FS) (hf:(Kn.funs.find? λf=>f.1 == u).isSome=FS):GL (f+1) d Kn ((.word u,xp)::t)=if Kn.values.contains u=FM then .ok (.name u,t) else FJ 3 ((.word u,xp)::t):=by
 rw[GL];show(if u=Fc "sum" then _ else if GD.contains u=FM then _ else _)=_
 rw[Fj λz=>ns (by rw[z]),Fj (by rw[hk];exact Fd),Ft.isSome_eq_false_iff.mp hf |> Ft.isNone_iff_eq_none.mp]
 rfl
theorem aio (T:aW K mg a) (XC:XT K a) (hk:8<=k)
  (G1:T.W9.O P w base k (aZ a FS GL 6 (LvS j (Fc "("))))
  (G2:T.Xa.O P w base k (aZ a FS GL 6 (LvW j (Fc "sum"))))
  (G3:T.d_Y.O P w base k (aZ a FS GL 6 (LvC j))):
  T.W8.O P w base (k+1) (aZ a FS GL 6 (Lv j)):=by
 refine vv T XC hk T.W8.F ahb λGU A outer s H B t Kn d fuel Q E hr hd hl hf hm=>?_;intro X D Z Y R;obtain⟨⟨x,xp⟩,r,rfl⟩:=R.cons;have tok:f9 x:=R.tok;have st:=iQ fuel (12-d) Kn;refine bH (dq (YQ Y T.ZZ.c (qX T XC) [01] (λ_=>rfl) R st λnb=>#[_,Gc,aO (λe=>?_) λe0=>?_]))
 .obtain⟨m,rfl⟩:=t9 e
  obtain⟨f,rfl,_⟩:=BT hf [01];exact aM (jH Y (xT T) (aP (iI Y (R.as rV) nfN λH R=>cF (R.new Gc λu H i R=>R.done (by unfold au;exact i)))))
 refine bH (dq (jb Y R nb #[_,Gc,aO (λe=>?_) λe1=>?_]))
 .obtain rfl:x=_:=beq_iff_eq.mp ((cR tok zx).symm.trans e)
  exact aM #[_,Y.call2 #[G1,hr,T.W9.c,Gc] (pv 1) [01] Gc,R.tail hd #[hl,Gc] hf]
 refine bH (dq (jb Y R nb #[_,Gc,aO (λe=>?_) λe2=>?_]))
 .obtain rfl:x=_:=beq_iff_eq.mp ((b7 tok uF).symm.trans e)
  exact aM #[_,Y.call2 #[G2,hr,T.Xa.c,Gc] (pv 1) [01] Gc,R.tail hd #[hl,Gc] hf]
 have h1:=Ab ((cR tok zx).symm.trans e1)
 have h2:=Ab ((b7 tok uF).symm.trans e2);obtain⟨f,rfl,_⟩:=BT hf [01];refine bD (p_g Y R st (λ_ e=>uS e0 h1 h2 e) λ_ e=>?_)
 obtain⟨u,rfl,hu⟩:=gD e;refine aN 2 Y.nd (aid Y R st λ_=>?_);refine bH (abu Y R (pv 2) [05] (aO (λe=>?_) λe3=>?_))
 .obtain⟨g,hg⟩:=KJ.mp e
  exact aM #[_,Y.call2 #[G3,hr,T.d_Y.c,Gc] (pv 1) [01] Gc,R.tail hd #[hl,u,g,Gc,λz=>h2 (by rw[z]),hu,hg] hf]
 have ep:=qw (f:=f) (d:=12-d) (xp:=xp) (t:=r) h2 hu e3;refine bH (abv Y R (pv 2) [05] (aO (λe=>?_) λe4=>?_))
 .refine bD (qO Y (aT (by rfl) T.Qu) R nb ?_)
  rw[VN] at e;rw[ep,e]
  rfl
 .refine aM (jH Y (EN T) (aP (iI Y (R.as (p':=GF>>=λ_=>pure (.name u)) ?_) YU λH R=>cF (R.new Gc λu H i R=>R.done (by unfold au;exact i)))))
  rw[PJ] at e4;rw[ep,e4]
  rfl
theorem ame:d7 "-" (Fc "-"):=[008]
theorem amf:d7 "!" (Fc "!"):=[008]
theorem dY {t:Ff} :Gf (x::t) s=(x.1 == .sign (Fc s)):=rfl
theorem yQ {f d:FC}{Kn:Fl}{xp:Gx}{t:Ff} :GS (f+1) d Kn ((.sign (Fc "!"),xp)::t)=
  (Hw d>>=λe=>GF>>=λ_=>GS f e Kn>>=λx=>pure (.not x):Fv Fs) ((.sign (Fc "!"),xp)::t):=by
 rw[GS];show(if Gf ((.sign (Fc "!"),xp)::t) "-"=FM then _ else if Gf ((.sign (Fc "!"),xp)::t) "!"=FM then _ else _)=_
 rw[Fj (by rw[dY];show¬(Jh (Fc "!") == .sign (Fc "-"))=FM;decide+kernel),Fm (by rw[dY];exact G7 _)]
theorem ze {f d:FC}{Kn:Fl}{xp:Gx}{t:Ff}(h: ∀m,FE t≠ .num m):GS (f+1) d Kn ((.sign (Fc "-"),xp)::t)=
  (Hw d>>=λe=>GF>>=λ_=>GS f e Kn>>=λx=>pure (.neg x):Fv Fs) ((.sign (Fc "-"),xp)::t):=by
 rw[GS];show(if Gf ((.sign (Fc "-"),xp)::t) "-"=FM then(match FE t with
   | .num n=>_
   |_=>_) else _)=_
 rw[Fm (by rw[dY];exact G7 _)];cases e:FE t with
 |num m=>exact FH e (h m)
 |_=>rfl
theorem yl {f d m:FC}{Kn:Fl}{xp:Gx}{t:Ff}(h:FE t= .num m):GS (f+1) d Kn ((.sign (Fc "-"),xp)::t)= .ok (.neg (.num m),t.drop 1):=by
 rw[GS];show(if Gf ((.sign (Fc "-"),xp)::t) "-"=FM then(match FE t with
   | .num n=>_
   |_=>_) else _)=_
 rw[Fm (by rw[dY];exact G7 _),h]
 rfl
theorem mI {f d:FC}{Kn:Fl}{t:Ff}(h1:(x.1 == .sign (Fc "-"))=FS) (h2:(x.1 == .sign (Fc "!"))=FS):GS (f+1) d Kn (x::t)=GL f d Kn (x::t):=by
 rw[GS];show(if Gf (x::t) "-"=FM then _ else if Gf (x::t) "!"=FM then _ else _)=_
 rw[Fj (by rw[dY,h1];exact Fd),Fj (by rw[dY,h2];exact Fd)]
theorem EI {f d m:FC}{Kn:Fl}{xp:Gx}{t:Ff} :GS (f+2) d Kn ((.num m,xp)::t)= .ok (.num m,t):=by
 rw[mI Gc Gc,GL]
 rfl
theorem uM {f d m:FC}{Kn:Fl}{xp:Gx}{t:Ff}(hf:2<=f) (w:t≠[]) (h:FE t= .num m):GS (f+1) d Kn ((.sign (Fc "-"),xp)::t)=(GF>>=λ_=>GS f d Kn>>=λx=>pure (.neg x):Fv Fs) ((.sign (Fc "-"),xp)::t):=by
 rw[yl h];obtain⟨g,rfl⟩: ∃g,f=g+2:=#[f-2,by lia];cases t with
 |nil=>exact FH Gc w
 |cons y r=>
  obtain⟨y,yp⟩:=y;obtain rfl:y= .num m:=h;show _=(GS (g+2) d Kn>>=λx=>pure (.neg x):Fv Fs) ((.num m,yp)::r)
  rw[bK EI]
  rfl
theorem gE (okT okC:FC->Fl->Ff->Prop) (T:aW K mg a) (XC:XT K a) (hk:8<=k)
  (h0: ∀d Kn t,okT d Kn t->13<=d+j) (h1: ∀d Kn s xp t,okT d Kn ((.sign s,xp)::t)->d<12->okC (d+1) Kn t) (h2: ∀d Kn s xp t m,okT d Kn ((.sign s,xp)::t)->FE t= .num m->okC d Kn t)
  (G1:T.W8.O P w base k (aZ a FS GL 6 (Lv j)))
  (G2:T.WG.O P w base k (aZ a FS GS 7 okC)):
  T.WG.O P w base (k+1) (aZ a FS GS 7 okT):=by
 refine vv T XC hk T.WG.F aaY λGU A outer s H B t Kn d fuel Q E hr hd ho hf hm=>?_;intro X D Z Y R;obtain⟨⟨x,xp⟩,r,rfl⟩:=R.cons;have tok:f9 x:=R.tok;have st:=j4 fuel (12-d) Kn;have vm:=cR tok ame;have vn:=cR tok amf;obtain⟨f,rfl⟩: ∃f,fuel=f+1:=#[fuel-1,by lia];rw[FA] at hf;have tail: ∀(c:Fb) (d2:FC) (mk:Fs->Fs),x= .sign c->(∀ {H:Hp}{e:Fs}{u v:V},bF (eQ B) H a.KP [("sign",io (.sign c)),("operand",u)] v->au a (eQ B) H e u->au a (eQ B) H (mk e) v)->d2<=12->okC d2 Kn r->
   RS Z [] FS H ((x,xp)::r) Kn (GF>>=λ_=>GS f (12-d2) Kn>>=λy=>pure (mk y))->Bd X ((be s_l).drop 3) D [Fa (.ref B.r),Fa (.int d),Fa (.int d2),FB] H:=by
  intro c d2 mk ex hmk hd2 hC R;subst ex;refine aN 3 Y.nd (iI Y R nfS λH R=>?_);exact aM (jH Y (CJ T) (aP (bB 3 (aP #[_,Y.call2 #[G2,hr,T.WG.c,Gc] (pv 2) [01] Gc,R.aie hd2 hC (by lia) λe v H t R=>cF (R.new Gc λu H i R=>R.done (hmk i (R.f (i:=0) Gc)))]))))
 refine bH (Cj (jn (dq (iF Y R st λnb=>#[_,Gc,?_]))));have vm:lY "-" (FE ((x,xp)::r))=_:=vm;have vn:lY "!" (FE ((x,xp)::r))=_:=vn;rw[vm];cases em:(x == Jh (Fc "-")) with
 |true=>
  obtain rfl:x=_:=beq_iff_eq.mp em;refine bN (bN ?_);refine aN 2 Y.nd (bB 1 ?_);refine bH (af2 (dq (jb Y R nb #[_,Gc,?_])));rw[vn];refine bN (jn (dq (abt Y R nfS #[_,Gc,?_])));cases ey:lH (FE r) with
  |true=>
   obtain⟨m,e⟩:=t9 ey;refine bN (tail _ d _ Gc (λi h=>by unfold au;exact#[_,i,h]) hd (h2 _ _ _ _ _ m ho e) (R.as (uM (by lia) (λz=>by rw[z] at e;cases e) e)))
  |false=>
   refine cc (zg 2 Y hd (by intro z;cases z) (R.as (ze λm z=>by rw[z] at ey;cases ey)) λlt R=>ur ?_);exact tail _ (d+1) _ Gc (λi h=>by unfold au;exact#[_,i,h]) lt (h1 _ _ _ _ _ ho lt) R
 |false=>
  refine cc (jn (dq (jb Y R nb #[_,Gc,?_])));rw[vn];cases en:(x == Jh (Fc "!")) with
  |true=>
   obtain rfl:x=_:=beq_iff_eq.mp en;refine bN ?_;refine aN 2 Y.nd (bB 1 ?_);refine bH (af2 (dq (jb Y R nb #[_,Gc,?_])));rw[vn,en];refine cc (cc (zg 2 Y hd (by intro z;cases z) (R.as yQ) λlt R=>ur ?_));exact tail _ (d+1) _ Gc (λi h=>by unfold au;exact#[_,i,h]) lt (h1 _ _ _ _ _ ho lt) R
  |false=>exact cc (aM #[_,Y.call2 #[G1,hr,T.W8.c,Gc] (pv 1) (by decide) Gc,RS.tail (R.as (mI em en)) hd (h0 _ _ _ ho) (by rw[FA];lia)])
def Zf.mo {β:Type}(Z:Zf β) (L:Fi) (us:E9 V):Zf β:= { Z with B:=Z.B.more L us }
theorem db.wide {M M':Fi->Prop}{H H':Hp}(k:db M H H') (h: ∀b,M b->M' b):db M' H H':=λb o e m=>k b o e λz=>m (h b z)
section
variable {β:Type}{Z:Zf β}{H:Hp}{p:Fv β}{Q:VK}
structure uy (Z:Zf β) (L:Fi):Prop where
 n0:Z.H0 L=FB
 nm: ¬eQ Z.B L
 nx: ∀zs,¬Z.B.bl.x L zs
 nq:L≠Z.B.q
theorem RS.nwl (R:RS Z F b H t Kn p) (h:H L=FB):uy Z L:=by
 rw[00];have nm:=S.fresh h;refine#[?_,nm,λzs z=>(by rw[S.fr L zs z] at h;cases h),λz=>(by obtain⟨as,all,h1,_⟩:=S.rd.toks;rw[z,h1] at h;cases h)];cases e:Z.H0 L with
 |none=>rfl
 |some o=>rw[R.k L o e nm] at h;cases h
theorem RS.more {us:E9 V}(R:RS Z F b H t Kn p) (h:H L=FB):RS (Z.mo L us) F b (aF H L (.lst us)) t Kn p:=by
 rw[00];have N:=R.nwl h;have sm:aS H (aF H L (.lst us)):=a9 h;refine#[#[n,(S.same sm).more ae],(R.k.trans (OS.aS.keeps sm)).wide λb=>cw,λe=>jh.HV (λb o e m=>#[λz=>(de z).elim (λz=>by rw[z,h] at e;cases e) m,sm b o e]) (R.f e),R.l,R.w.mono (λ_ _ z=>z) λ_ _ z H' k=>z H' λb o e m=>k b o e λz=>(de z).elim (λz=>by rw[z,N.n0] at e;cases e) m]
theorem RS.QI (R:RS (Z.mo L us) F b H t Kn p):H L=Fa (.lst us):=by
 rw[00];exact S.QI
theorem RS.push {v:V}(N:uy Z L) (R:RS (Z.mo L us) F b H t Kn p):RS (Z.mo L (us++[v])) F b (aF H L (.lst (us++[v]))) t Kn p:=by
 rw[00];have mm: ∀c,eQ (Z.B.more L us) c->eQ (Z.B.more L (us++[v])) c:=λc h=>(de h).elim (λz=>by rw[z];exact fg) λz=>cw z;have mm': ∀c,eQ (Z.B.more L (us++[v])) c->eQ (Z.B.more L us) c:=λc h=>(de h).elim (λz=>by rw[z];exact fg) λz=>cw z;refine#[#[n,S.write N.nx N.nq],(R.k.wide mm).trans (eR fg),λe=>jh.HV (λc o e m=>#[λz=>m (mm' c z),by rw[ac λz=>m (by rw[z];exact fg)];exact e]) (R.f e),R.l,R.w.mono (λ_ _ z=>z) λ_ _ z H' k=>z H' (k.wide mm')]
theorem RS.less (N:uy Z L) (R:RS (Z.mo L us) F b H t Kn p):RS Z F b H t Kn p:=by
 rw[00];refine#[#[n,S.less],λb o e m=>R.k b o e λz=>(de z).elim (λz=>by rw[z,N.n0] at e;cases e) m,λe=>jh.HV (λb o e m=>#[λz=>m (cw z),e]) (R.f e),R.l,R.w.mono (λ_ _ z=>z) λ_ _ z H' k=>z H' (k.wide λb=>cw)]
theorem uy.mo (N:uy Z L') (ne:L'≠L):uy (Z.mo L us) L':=#[N.n0,λz=>(de z).elim ne N.nm,λzs z=>z.elim (N.nx zs) λz=>ne z.1,N.nq]
theorem RS.swap (R:RS ((Z.mo L us).mo L' Wo) F b H t Kn p):RS ((Z.mo L' Wo).mo L us) F b H t Kn p:=by
 rw[00];have m1: ∀c,eQ ((Z.B.more L us).more L' Wo) c->eQ ((Z.B.more L' Wo).more L us) c:=λc h=>(de h).elim (λz=>by rw[z];exact cw fg) λz=>(de z).elim (λz=>by rw[z];exact fg) λz=>cw (cw z);have m2: ∀c,eQ ((Z.B.more L' Wo).more L us) c->eQ ((Z.B.more L us).more L' Wo) c:=λc h=>(de h).elim (λz=>by rw[z];exact cw fg) λz=>(de z).elim (λz=>by rw[z];exact fg) λz=>cw (cw z);exact#[#[n,S.rd,S.wh,S.kn,S.S6,S.So,S.P4,λc zs z=>S.fr c zs (z.elim (λz=>z.elim (λz=> .inl (.inl z)) .inr) λz=> .inl (.inr z))],R.k.wide m1,λe=>jh.HV (λc o e m=>#[λz=>m (m2 c z),e]) (R.f e),R.l,R.w.mono (λ_ _ z=>z) λ_ _ z H' k=>z H' (k.wide m2)]
theorem mx (i:FC) (Y:RX X Z.a Z.E) (R:RS Z F b H t Kn p) (q: ∀L H',uy Z L->RS (Z.mo L []) F b H' t Kn p->Bd X ss D (σ.set i (Fa (.ref L))) H') (h:Sl X i y:=by exact#[Gc,G9 Gc,Gc]):Bd X (.Assign [.Name y p0] (.List [] p1) p5::ss) D σ H:=
 aN i Y.nd (mq λL h=>q L _ (R.nwl h) (R.more h)) h
theorem qC {te:TE}(N:uy Z L) (R:RS (Z.mo L us) F b H t Kn p) (he:PE X e te) (hv: ∀R:VK,R (.ref L) H->te σ H R) (q:Pe X f σ H λv H1=> ∃F' b' t' Xy p',us.length<F8/\RS (Z.mo L us) F' b' H1 t' Xy p'/\(∀H2,RS (Z.mo L (us++[v])) F' b' H2 t' Xy p'->Bd X ss D σ H2))
  (hb:IA e "append" X.env (eval e X.env)=eval e X.env:=by rfl) (Kq:FK [f] X.env=[(FS,eval f X.env)]:=by rfl) (hp:ip p2 p4:=by rfl):
  Bd X (.Expr (.Call (.Attribute e "append" p2) [f] [] p4) p5::ss) D σ H:=by
 refine iN he hv R.QI (q.mono λv H1 z=>?_) hb Kq hp;obtain⟨F',b',t',Xy,p',h1,R',h2⟩:=z;exact#[us,R'.QI,h1,h2 _ (R'.push N)]
theorem kW (Y:RX X Z.a Z.E) (R:RS Z F b H t Kn p) (lit:d7 v (Fc s)) (st:aK p) (h:Gf t s=FM->p t=FJ 5 t) (q:Gf t s=FS->Bd X ss D (Fa (.ref Z.B.r)::σ) H) (hg:Gl X "refuse_here":=by rfl):
  Bd X (.Expr (.Call (.Name "refuse_here" p1) [.Name "reader" p2, .Constant (.str v) j p3] [] p4) p5::ss) D (Fa (.ref Z.B.r)::σ) H:=by
 rw[00];obtain⟨x,t',rfl,tok,Q0,MT,_⟩:=S.wh.first;refine bD #[_,aG (ahC Y.T Y.C) (Y.hr.mono [01]) hg Y.T.Z7.c Y.up (aa Y.rd (aa dH ag)),Z.B.r,Z.B.q,Z.B.kd,Z.B.fn,Z.B.ds,Z.B.bl,n,x,t',v,Gc,S.rd,λb=>st.LK (Q0.trans b) R.w H R.k,λnb e=>?_,λnb e=>?_]
 .rw[cR tok lit] at e
  exact fF (h e) nb R.w H R.k
 .rw[cR tok lit] at e
  exact q e
end
end OS
namespace OS
open Vbemac
def cE (f e:FC) (K:Known) (m:FC):P Exps:=λu=>
 if m=0 then(if L5 u ","=FM then fail 5 u else(sign ")">>=λ_=>pure .nil:P Exps) u)
 else(if L5 u ")"=FM then fail 5 u else(sign ",">>=λ_=>arguments f e K m:P Exps) u)
def xM:E9 Exp->Exps->Exps
 |[],l=>l
 |e::r,l=> .cons e (xM r l)
theorem sP {es:E9 Exp}{x:Exp}{l:Exps} :xM (es++[x]) l=xM es (.cons x l):=by
 induction es with
 |nil=>rfl
 |cons y r ih=>show Exps.cons y (xM (r++[x]) l)=_;rw[ih];rfl
theorem dN (f e:FC) (K:Known) (m:FC):aK (cE f e K m):=λt h=>by
 unfold cE;rw[cT h,cT h];by_cases c:m=0
 .rw[Fm c,Fj Fd]
  exact(bi ")").bind t h
 .rw[Fj c,Fj Fd]
  exact(bi ",").bind t h
theorem qG {f d:FC}{Kn:Known}{u:Gm}{xp:Pos}{t:MS}{g:Gm×FC}(hs:u≠text "sum") (hk:KEYS.contains u=FS) (hf:Kn.funs.find? (λf=>f.1 == u)=Fa g):
  primary (f+1) d Kn ((.word u,xp)::t)=(deeper d>>=λe=>next>>=λ_=>sign "(">>=λ_=>(if g.2=0 then(sign ")">>=λ_=>pure (.call u .nil)) else(arguments f e Kn g.2>>=λl=>pure (.call u l))):P Exp) ((.word u,xp)::t):=by
 rw[primary];show(if u=text "sum" then _ else _)=_
 rw[Fj hs,Fj (by rw[hk];exact Fd)];simp only[hf]
end OS
namespace OS
open PySem PySem.Spec L2
open PyProof.Rows hiding St
variable {P:Ga}{w:GN}{K:Fe}{mg:FR->Ft Fh}{base:GY}{a:bf}
section
open Vbemac (arguments)
theorem wK:d7 "," (Fc ","):=[008]
section
variable {α β γ:Type}{p q:Fv α}{g:α->Fv β}{h:β->Fv γ}
theorem aV (e:p t=q t):(p>>=g) t=(q>>=g) t:=by
 show FU p g t=FU q g t
 unfold FU;rw[e]
end
def Zf.at {β:Type}(Z:Zf β) (l:FC):Zf β:= { Z with L:=l }
section
variable {β:Type}{Z:Zf β}{F:E9 (Fk×V)}{b:Gu}{H:Hp}{t:Ff}{Kn:Fl}{p:Fv β}{L:Fi}{l:FC}
theorem RS.at (R:RS Z F b H t Kn p):RS (Z.at t.length) F FS H t Kn p:=#[R.S,R.k,R.f,FF _,R.w]
theorem RS.back (h:l<=Z.L) (R:RS (Z.at l) F FM H t Kn p):RS Z F FM H t Kn p:=#[R.S,R.k,R.f,FP R.l h,R.w]
end
theorem oG {K:Fl}{t:Ff}(h:Gf t ","=FS):cE f e K 0 t=(Ge ")">>=λ_=>pure .nil:Fv J2) t:=by
 unfold cE;rw[Fm Gc,Fj (by rw[h];exact Fd)]
theorem om {K:Fl}{t:Ff}(hm:m≠0) (h:Gf t ")"=FS):cE f e K m t=(Ge ",">>=λ_=>arguments f e K m:Fv J2) t:=by
 unfold cE;rw[Fj hm,Fj (by rw[h];exact Fd)]
theorem gW {K:Fl}{t:Ff}(h:if m=0 then Gf t ","=FM else Gf t ")"=FM):cE f e K m t=FJ 5 t:=by
 unfold cE;by_cases c:m=0
 .rw[Fm c] at h ⊢; rw[Fm h]
 .rw[Fj c] at h ⊢; rw[Fm h]
theorem abx {K:Fl}{t:Ff}(h:Gf t ")"=FM):arguments (f+1) e K n t=FJ 5 t:=by
 rw[arguments];show(if Gf t ")"=FM then _ else _)=_
 rw[Fm h]
theorem Ed {K:Fl}{t:Ff}(hn:1<=n) (h:Gf t ")"=FS):arguments (f+1) e K n t=(FT f e K>>=λa=>cE f e K (n-1)>>=λl=>pure (.cons a l):Fv J2) t:=by
 rw[arguments];show(if Gf t ")"=FM then _ else _)=_
 rw[Fj (by rw[h];exact Fd)];show FU _ _ t=FU _ _ t;unfold FU
 congr 1
 funext #[a,u]
 show(if n<=1 then _ else _:Fv J2) u=(cE f e K (n-1)>>=λl=>pure (.cons a l):Fv J2) u
 by_cases n1:n<=1
 .rw[Fm n1,show n-1=0 by lia]
  show(if Gf u ","=FM then FJ 5 u else _)=_
  by_cases c:Gf u ","=FM
  .rw[Fm c,aV (gW (by rw[Fm Gc];exact c))]
   rfl
  .rw[Fj c,aV (oG (by cases h:Gf u ",";rfl;exact FH h c)),bind_assoc]
   rfl
 .rw[Fj n1]
  show(if Gf u ")"=FM then FJ 5 u else _)=_
  by_cases c:Gf u ")"=FM
  .rw[Fm c,aV (gW (by rw[Fj (by lia)];exact c))]
   rfl
  .rw[Fj c,aV (om (by lia) (by cases h:Gf u ")";rfl;exact FH h c)),bind_assoc]
def wz (f e:FC) (Kn:Fl) (u:Fb) (wanted:FC):E9 Fs->Fv Fs
 |[]=>if wanted=0 then(Ge ")">>=λ_=>pure (.call u .nil)) else(arguments f e Kn wanted>>=λl=>pure (.call u l))
 |x::es=>cE f e Kn (wanted-(x::es).length)>>=λl=>pure (.call u (xM (x::es) l))
theorem uK {f e w:FC}{Kn:Fl}{t:Ff}(lt:es.length<w) (hc:Gf t ")"=FS):
  (arguments (f+1) e Kn (w-es.length)>>=λl=>pure (.call u (xM es l)):Fv Fs) t=(FT f e Kn>>=λa=>wz f e Kn u w (es++[a])) t:=by
 rw[aV (Ed (by lia) hc),bind_assoc];refine Gq (λg=>(FT f e Kn>>=g:Fv Fs) t) (funext λa=>?_);rw[bind_assoc];have n:w-es.length-1=w-(es++[a]).length:=by rw[FL,Jy];lia
 have e1:(λl=>(pure (TQ u (xM es (.cons a l))):Fv Fs))=λl=>pure (.call u (xM (es++[a]) l)):=funext λl=>by rw[sP]
 rw[n];show(cE f e Kn _>>=λl=>(pure (TQ u (xM es (.cons a l))):Fv Fs))=_
 rw[e1];cases es with
 |nil=>rfl
 |cons y r=>rfl
abbrev fkE (ps:E9 (Fs×V)):E9 (Fk×V):=ps.map λx=>(.e x.1,x.2)
theorem wC {a:bf}{M:Fi->Prop}{H:Hp}{l:J2}{ws:E9 V}(hl:cu a M H l ws): ∀ {ps:E9 (Fs×V)},(∀ {i:FC}{x:Fk×V},(fkE ps)[i]?=Fa x->jh a M H x)->cu a M H (xM (ps.map (·.1)).reverse l) ((ps.map (·.2)).reverse++ws)
 |[],_=>hl
 | (e,v)::ps,h=>by
  rw[FQ,FQ,GP,GP,sP,GG];refine wC (l:= .cons e l) ?_ λ{i x} q=>h (i:=i+1) q;unfold cu;exact#[v,ws,Gc,h (i:=0) Gc,hl]
theorem mJ {Z:Zf Fs}{F:E9 (Fk×V)}{b:Gu}{H:Hp}{t:Ff}{Kn K:Fl}{f e w:FC}{u:Fb}{x:Fs×V}{r:E9 (Fs×V)}(R:RS Z F b H t Kn (wz f e K u w ((x::r).map (·.1)).reverse)):RS Z F b H t Kn (cE f e K (w-((x::r).map (·.1)).reverse.length)>>=λl=>pure (.call u (xM ((x::r).map (·.1)).reverse l))):=by
 cases h:((x::r).map (·.1)).reverse with
 |nil=>rw[E9.reverse_eq_nil_iff] at h;cases h
 |cons y l=>rw[h] at R;exact R
theorem aip {b:Gu}{A B:Prop}(e:b=FM) (h:A):if b=FM then A else B:=by rw[Fm e];exact h
theorem qQ (f e:FC) (K:Fl) (u:Fb) (w:FC) (es:E9 Fs) (x:Fs):aK (wz f e K u w (es++[x])):=by
 cases es with
 |nil=>exact(dN _ _ _ _).bind
 |cons y r=>exact(dN _ _ _ _).bind
theorem aiq {β:Type}{Z:Zf β}{F:E9 (Fk×V)}{b:Gu}{H:Hp}{t:Ff}{Kn:Fl}{p:Fv β}{Q:VK}{te:TE}{g:Fb×FC}(Y:RX X Z.a Z.E) (R:RS Z F b H t Kn p) (he:PE X e te) (hv: ∀Q:VK,Q (.str (sb u)) H->te (Fa (.ref Z.B.r)::σ) H Q) (hg:Kn.funs.find? (λf=>f.1 == u)=Fa g) (q:Q (.int (g.2:FC)) H) (hs:E1 e:=by exact λ_ _=>rfl):
  Pe X (.Subscript (.Attribute [005] "functions" p2) e p3) (Fa (.ref Z.B.r)::σ) H Q:=by
 rw[00];obtain⟨dr,er⟩:=S.rd.ins;obtain⟨ff,f1,f2⟩:=S.kn.funs;have f2:=f2 u;rw[hg] at f2;exact#[_,jM (dn Y.hr) (ah Y.rd Gc) he hs,Z.B.r,_,dr,_,_,Gc,er,Y.T.F9,Y.T.IK,Gc,hv _ #[Z.B.fn,_,Gc, .inl #[ff,nk u, .inl f1,Gc,f2.symm],q]]
inductive YV (Z:Zf Fs) (L:Fi) (Kn:Fl) (u:Fb) (w e:FC) (σ0:L2.St) (m:FC) (σ:L2.St) (H:Hp):Prop
 |mk (ps:E9 (Fs×V)) (t:Ff) (f:FC) (_:m=w-ps.length) (_:σ=σ0) (_:ps.length<=w) (_:ps.length+t.length<=Z.L) (_:16*t.length+12<=f) (_:ps=[]->16*t.length+13<=f) (_:RS (Z.mo L (ps.map (·.2)).reverse) (fkE ps) FM H t Kn (wz f e Kn u w (ps.map (·.1)).reverse)):YV Z L Kn u w e σ0 m σ H
inductive air (Z:Zf Fs) (L:Fi) (Kn:Fl) (u:Fb) (w e:FC) (σ0:L2.St) (ps:E9 (Fs×V)) (l:FC) (σ:L2.St) (H:Hp):Prop
 |mk (t:Ff) (f:FC) (_:σ=σ0) (_:t.length<=l) (_:16*t.length+12<=f) (_:RS (Z.mo L (ps.map (·.2)).reverse) (fkE ps) FM H t Kn (arguments (f+1) e Kn (w-(ps.map (·.1)).reverse.length)>>=λl=>pure (.call u (xM (ps.map (·.1)).reverse l)))):air Z L Kn u w e σ0 ps l σ H
section
variable {k j:FC}
theorem amg (T:aW K mg a) (XC:XT K a) (hk:8<=k)
  (G:T.SI.O P w base k (aZ a FM FT 12 (Lv j))):
  T.d_Y.O P w base (k+1) (aZ a FS GL 6 (LvC (j+1))):=by
 refine vv T XC hk T.d_Y.F aly λGU A outer s H B t Kn d fuel Q E hr hd ho hf hm=>?_;intro X D Z Y R;obtain⟨hl,u,g,h0,hs,hu,hg⟩:=ho;obtain⟨xp,r,rfl⟩:=e7 R h0;obtain⟨f,rfl⟩: ∃f,fuel=f+1:=#[fuel-1,by lia];have c:CB X "read_exp" ["reader","depth"] (aZ a FM FT 12 (Lv j)):=#[G,hr,T.SI.c,Gc];have hl:13<=d+1+j:=by rw[Na];exact hl
 refine zg 2 Y hd (by intro z;cases z) (R.as (qG hs hu hg)) λlt R=>?_;refine aN 3 Y.nd (iI Y R YU λH R=>?_);refine cJ Y zx R λH t R=>?_;have l1:t.length+1<=Z.L:=R.l;refine aN 4 Y.nd (aiq Y R (pv 3) [05] hg ?_);refine mx 5 Y R λL H N R=>?_;have hL:(r.length+1:FC)<=Z.L:=FF _;have hm:Kn.values.length+Z.L<=4000:=hm;have hf:16*Z.L+6<=f+1:=hf;refine fS Y.lv (YV Z L Kn u g.2 (12-(d+1)) [Fa (.ref B.r),Fa (.int d),Fa (.int ((d+1:FC):Int)),Fa (.str (sb u)),Fa (.int (g.2:FC)),Fa (.ref L)]) _ #[[],t,f,Gc,Gc,F3 _,by show 0+t.length<=_;lia,by lia,λ_=>by lia,R] ?_;rintro m σ H ⟨ps,t,f,rfl,rfl,h1,h2,h3,h4,R⟩;refine cO j8 (iA T.Kj R.QI (pv 5) [05] (bB 4 #[_,_,Gc,Gc,_,Gc,aO (λe=>?_) λe=>?_]))
 .have lt':ps.length<g.2:=by have:=F4 e;rw[GK,Fx] at this;lia
  have len:((ps.map (·.1)).reverse:E9 Fs).length=ps.length:=by rw[GK,Fx]
  refine gj (air Z L Kn u g.2 (12-(d+1)) [Fa (.ref B.r),Fa (.int d),Fa (.int ((d+1:FC):Int)),Fa (.str (sb u)),Fa (.int (g.2:FC)),Fa (.ref L)] ps t.length) ?_ ?_
  .rintro σ H ⟨t1,f1,rfl,l1,hf1,R⟩
   refine kW Y R uG (lB _ _ _ _).bind (λh=>(aV (abx h)).trans Gc) λhc=>?_;have R:=R.as (uK (by rw[len];exact lt') hc);refine qC N R (pv 5) [05] #[_,Y.call2 c (pv 2) [01] Gc,R.at.call (nE λx=>qQ _ _ _ _ _ _ _) lt hl (by lia) λe1 v1 H t2 _ R2=>#[_,_,_,_,_,by rw[GK,Fx];exact Gp (show ps.length<=4000 by lia) [01],RS.back (Z:=Z.mo L _) (l:=t1.length) (by show t1.length<=Z.L;lia) R2,λH3 R3=>?_]];have l2:t2.length+1<=t1.length:=R2.l;refine gm #[_,(show g.2-((e1,v1)::ps).length<g.2-ps.length by rw[FA];lia),(e1,v1)::ps,t2,f1,Gc,Gc,(by rw[FA];lia),(by rw[FA];lia),(by lia),(λz=>nomatch z),?_]
   rw[FQ,FQ,GP,GP];exact R3
  .refine cO gb (iA T.Kj R.QI (pv 5) [05] (cN #[_,_,Gc,Gc,_,Gc,?_]))
   cases ps with
   |nil=>
    refine bN ?_;have R:RS _ (fkE []) FM H t Kn (if g.2=0 then _ else _):=R
    rw[Fj (by have:0<g.2:=lt';lia)] at R;obtain⟨f,rfl⟩: ∃f',f=f'+1:=#[f-1,by lia];exact#[t,f,Gc,FF _,FC.le_of_succ_le_succ (h4 Gc),R]
   |cons x r=>
    refine aip (GJ (by rw[GK,Fx,FA];lia)) ?_;have R:=mJ R;refine kW Y R uG (dN _ _ _ _).bind (λh=>(aV (gW (by rw[Fj (by rw[len];lia)];exact h))).trans Gc) λhc=>?_;refine cJ (Z:=(Z.mo L ((x::r).map (·.2)).reverse).at t.length) Y wK (R.at.as ((aV (om (by rw[len];lia) hc)).trans (congrFun (bind_assoc _ _ _) t))) λH t2 R2=>cf ?_;have l2:t2.length+1<=t.length:=R2.l;obtain⟨f,rfl⟩: ∃f',f=f'+1:=#[f-1,by lia];exact#[t2,f,Gc,by lia,by lia,RS.back (Z:=Z.mo L _) (l:=t.length) (by show t.length<=Z.L;lia) R2]
 .have eq:ps.length=g.2:=by have:=F6 e;rw[GK,Fx] at this;lia
  have len:((ps.map (·.1)).reverse:E9 Fs).length=ps.length:=by rw[GK,Fx]
  have R:RS (Z.mo L (ps.map (·.2)).reverse) (fkE ps) FM H t Kn (if g.2=0 then(Ge ")">>=λ_=>pure (.call u .nil)) else(cE f (12-(d+1)) Kn 0>>=λl=>pure (.call u (xM (ps.map (·.1)).reverse l)))):=by
   cases ps with
   |nil=>
    have h0:g.2=0:=eq.symm
    have R:RS _ (fkE []) FM H t Kn (if g.2=0 then _ else _):=R
    rw[Fm h0] at R ⊢;exact R
   |cons x r=>
    have R:=mJ R;rw[len,eq,Qx] at R;rw[Fj (by rw[<-eq,FA];lia)];exact R
  have eN:RS (Z.mo L (ps.map (·.2)).reverse) (fkE ps) FM H t Kn (Ge ")">>=λ_=>pure (.call u (xM (ps.map (·.1)).reverse .nil)))->Bd X ((be s_Y).drop 7) D [Fa (.ref B.r),Fa (.int d),Fa (.int ((d+1:FC):Int)),Fa (.str (sb u)),Fa (.int (g.2:FC)),Fa (.ref L)] H:=λR=>by
   refine cJ Y uG R λH t R=>?_;have hL:=R.QI;refine aM (jH Y (EO T) (aP (bB 3 (aP (bB 5 (cF (R.new Gc λv H i R=>?_)))))));have hL:=R.QI;have R:=R.less N;refine R.done ?_;unfold au;refine#[.ref L,_,bF.keep (λb o e m=>#[λz=>m (cw z),e]) i,#[L,Gc,N.nm,hL],?_];have:=wC (l:= .nil) (ws:=[]) (by unfold cu;rfl) R.f;rw[Hc] at this;exact this
  refine bH (cO gb (bB 4 (cN #[_,_,Gc,Gc,_,Gc,aO (λe=>?_) λe=>?_])))
  .have h0:g.2≠0:=by have:=F4 e;lia
   rw[Fj h0] at R;refine kW Y R wK (dN _ _ _ _).bind (λh=>(aV (gW (by rw[Fm Gc];exact h))).trans Gc) λhc=>ur (eN (R.as ?_));exact(aV (oG hc)).trans (congrFun (bind_assoc _ _ _) t)
  .have h0:g.2=0:=by have:=F6 e;lia
   rw[Fm h0] at R;obtain rfl:ps=[]:=NU.mp (eq.trans h0);exact eN R
end
end
theorem lP {α β:Type}{F:α->β->Prop} : ∀ {l:E9 α}{m:E9 β}{i:FC}{y:β},Paired F l m->m[i]?=Fa y-> ∃x,l[i]?=Fa x/\F x y
 |_,_,_,_, .nil,h=>by cases h
 |_,_,0,_, .cons r t,h=>#[_,Gc,by obtain rfl:=FG h;exact r]
 |_,_,i+1,_, .cons r t,h=>lP (i:=i) t h
theorem zJ.row {K:Fe}{ad:Fi}{i:FC}{xs:E9 V}{H:Hp}(h:zJ K ad di) (e:di[i]?=Fa xs): ∃qs:E9 Fi,qs.length=5/\pH K H ad (qs.map V.ref)/\ ∃q,zK (qs.map V.ref) (i:FC)=Fa (.ref q)/\pH K H q xs:=by
 obtain⟨qs,h1,h2⟩:=h;obtain⟨q,hq,hk⟩:=lP h2 e;refine#[qs,bA h2,h1.sq,q,?_,hk.sq];refine br ?_;rw[Gw,hq]
 rfl
theorem Cr {x:GH}(tok:f9 x) {sg:E9 Fb}(hs: ∀o∈sg,o∈GI) (h:uq (io x) (sg.map λo=>V.str (dI o))=FM): ∃op∈sg,x= .sign op:=by
 unfold uq at h;rw[Tp,LZ] at h;obtain⟨o,ho,e⟩:=h;refine#[o,ho,(tK tok (x:=dI o) #[Gc,hs o ho]).mp ?_];have e:E5 (V.str (dI o)) (io x)=FM:=e;cases x with
 |word u=>exact Gq Fa (beq_iff_eq.mp (show(dI o == sb u)=FM from e)).symm
 |num n=>cases (show FS=FM from e)
 |sign u=>exact Gq Fa (beq_iff_eq.mp (show(dI o == dI u)=FM from e)).symm
 |eof=>exact Gq Fa (beq_iff_eq.mp (show(dI o == sb [])=FM from e)).symm
 |bad=>exact Gq Fa (beq_iff_eq.mp (show(dI o == sb [])=FM from e)).symm
theorem CA {op:Fb}{sg:E9 Fb}(h:op∈sg):uq (io (.sign op)) (sg.map λo=>V.str (dI o))=FM:=by
 unfold uq;rw[Tp,LZ];exact#[op,h,show(dI op == dI op)=FM from G7 _]
theorem zF (x:GH):jq (io x)=FM:=by cases x<;>rfl
theorem ux (sg:E9 Fb):(sg.map λo=>V.str (dI o)).all jq=FM:=by
 rw[Ti,LW];exact λ_ _=>rfl
section
variable {M:Fi->Prop}{H:Hp}
theorem vk: ∀ {es:Pairs}{us:E9 V},Paired (λ(x:Fb×Fs) u=>au a M H x.2 u) es us->cu a M H (uX es .nil) us
 |_,_, .nil=>by unfold uX cu;rfl
 |_,_, .cons h t=>by unfold uX cu;exact#[_,_,Gc,h,vk t]
theorem uO: ∀ {es:Pairs}{us:E9 V},Paired (λ(x:Fb×Fs) u=>au a M H x.2 u) es us->dE a M H (vI es .nil) us (es.map λx=>V.str (dI x.1))
 |_,_, .nil=>by unfold vI dE;exact#[Gc,Gc]
 |_,_, .cons h t=>by unfold vI dE;exact#[_,_,_,Gc,Gc,h,uO t]
theorem rf {F:Fb×Fs->V->Prop}{o:Fb} : ∀ {es:Pairs}{us:E9 V},Paired F es us->(∀x∈es,x.1∈[o])->(es.map λx=>V.str (dI x.1))=us.map λ_=>V.str (dI o)
 |_,_, .nil,_=>rfl
 |_,_, .cons h t,hx=>by
  rw[FQ,FQ,FN.mp (hx _ (Fq ..)),rf t λy hy=>hx y (Fp _ hy)]
end
theorem ais:dI (Fc "||")="||":=by decide+kernel
theorem aby:dI (Fc "&&")="&&":=by decide+kernel
structure pz (s:FC) (sg:E9 Fb) (once:Gu) (res:Fs->Pairs->Fs):Prop where
 Vh: ∀e,res e []=e
 at_: ∀ {a:bf}{M:Fi->Prop}{H:Hp}{e:Fs}{es:Pairs}{v w:V}{us:E9 V}{q g:V},es≠[]->(∀x∈es,x.1∈sg)->(once=FM->es.length<=1)->bF M H a.JO [("strength", .int (s:FC)),("operands",q),("signs",g)] w->
  b3 M H (v::us) q->b3 M H (es.map λx=>V.str (dI x.1)) g->au a M H e v->Paired (λ(x:Fb×Fs) u=>au a M H x.2 u) es us->au a M H (res e es) w
theorem abz:pz 0 S0 FS (λe es=>DC e (uX es .nil)) where
 Vh e:=rfl
 at_ {a M H e es v w us q g} h0 hs _ hi hq hg he Wq:=by
  cases es with
  |nil=>exact FH Gc h0
  |cons y r=>
   rw[rf Wq hs,ais] at hg;show au a M H (.either e (uX (y::r) .nil)) w;unfold au;exact#[q,g,v,_,hi,hq,hg,he,vk Wq]
theorem DM:pz 1 S1 FS (λe es=>bth e (uX es .nil)) where
 Vh e:=rfl
 at_ {a M H e es v w us q g} h0 hs _ hi hq hg he Wq:=by
  cases es with
  |nil=>exact FH Gc h0
  |cons y r=>
   rw[rf Wq hs,aby] at hg;show au a M H (.both e (uX (y::r) .nil)) w;unfold au;exact#[q,g,v,_,hi,hq,hg,he,vk Wq]
theorem DU:pz 3 S3 FS (λe es=>sms e (vI es .nil)) where
 Vh e:=rfl
 at_ {a M H e es v w us q g} h0 hs _ hi hq hg he Wq:=by
  cases es with
  |nil=>exact FH Gc h0
  |cons y r=>
   show au a M H (.sums e (vI (y::r) .nil)) w
   unfold au;exact#[q,g,v,_,_,hi,hq,hg,he,uO Wq]
theorem EV:pz 4 S4 FS (λe es=>oV e (vI es .nil)) where
 Vh e:=rfl
 at_ {a M H e es v w us q g} h0 hs _ hi hq hg he Wq:=by
  cases es with
  |nil=>exact FH Gc h0
  |cons y r=>
   show au a M H (.prods e (vI (y::r) .nil)) w
   unfold au;exact#[q,g,v,_,_,hi,hq,hg,he,uO Wq]
theorem EY:pz 2 S2 FM aim where
 Vh e:=rfl
 at_ {a M H e es v w us q g} h0 hs h1 hi hq hg he Wq:=by
  cases Wq with
  |nil=>exact FH Gc h0
  |cons h t=>
   cases t with
   |nil=>
    show au a M H (.cmp _ e _) w
    unfold au;exact#[q,g,v,_,hi,hq,hg,he,h]
   |cons h2 t2=>
    have:=h1 Gc;rw[FA,FA] at this;lia
inductive vN (a:bf) (w2:Gu) (s:FC) (p:FC->FC->Fl->Fv Fs) (c:FC) (ok:FC->Fl->Ff->Prop) (vs:E9 V) (H:Hp) (Q:VK) (E:XK):Prop
 |mk (u v:V) (_:vs=[u,v, .int (s:FC)]) (_:aZ a w2 p c ok [u,v] H Q E):vN a w2 s p c ok vs H Q E
def EM {β:Type}(Z:Zf β):Prop:= ∀e r,FE r= .bad->Z.Ro e r->QE Z.a Z.B Z.H0 Z.E 1 (Ip r)
theorem EM.mo {β:Type}{Z:Zf β}(h:EM Z) (N:uy Z L):EM (Z.mo L us):=λe r b o H' k=>h e r b o H' λc o e m=>k c o e λz=>(de z).elim (λz=>by rw[z,N.n0] at e;cases e) m
theorem EM.bad {β:Type}{Z:Zf β}{p:Fv β}(h:EM Z) (hr:hJ p) (b:FE t= .bad) (w:W p t Z.Ro (QE Z.a Z.B Z.H0 Z.E)):QE Z.a Z.B Z.H0 Z.E 1 (Ip t):=by
 rcases hr t b with e|⟨x,e⟩
 .rw[i5 e] at w;exact w
 .rw[yV e] at w;exact h x t b w
theorem enZ {a:bf}{E:XK}{H0:Hp}{Q:VK} :EM #[a,E,B,L,H0,Rz FM a B H0 L Kn Q E]:=λe r b w=>by
 have w:Rz FM a B H0 L Kn Q E e r:=w;unfold Rz at w;rw[Fm #[Gc,b]] at w;exact w
theorem ait {w2:Gu}{pp:FC->FC->Fl->Fv Fs}{c sn:FC}{ok:FC->Fl->Ff->Prop}{x He:FR}{st:Stmt}{f:Fi}{fd:Gs}{N:E9 FR}(T:aW K mg a) (XC:XT K a) (hk:8<=k) (F:oX K x He st f fd) (S:az N ["reader","depth","strength"] (af st))
  (JG: ∀(GU:Fh) (A:GV) (outer:E9 Env) (s:Fn) (H:Hp) (B:Rb) (t:Ff) (Kn:Fl) (d fuel:FC) (Q:VK) (E:XK),bZ k (A.deeper (JJ He (af st) s.heap.objs.size f GU))->d<=12->ok d Kn t->16*t.length+c<=fuel->Kn.values.length+t.length<=4000->
   let X:=e8 (fY P w) P w K mg base N He (af st) f GU A outer s H E
   let D:eA:= { nx:=λ_ H'=>Q .IJ H',rt:=Q }
   let Z:Zf Fs:=#[a,E,B,t.length,H,Rz w2 a B H t.length Kn Q E]
   RX X a E->RS Z [] FS H t Kn (pp fuel (12-d) Kn)->Bd X (be st) D (L2.start N [.ref B.r, .int d, .int (sn:FC)]) H):bU P w K mg base (fY P w) (k+1) f fd ["reader","depth","strength"] (vN a w2 sn pp c ok):=by
 refine fP F S [03] [02];obtain⟨_,_,rfl,B,n,t,Kn,d,fuel,h0,hd,ho,St,hf,hW⟩:=h;cases h0;exact JG GU A outer s H B t Kn d fuel Q E hr hd ho hf St.kn.len (jS T XC hk S hr) #[#[n,St],db.refl,λ{i x} e=>(by cases e),FF _,hW]
section
variable {H:Hp}{Q:VK}{E:XK}
theorem zS (Y:RX X a E) (KT:zJ X.K a.Il di) (q:Q (.int 5) H) (h1:Gl X "len":=by rfl) (h2:Gl X "CHAIN_SIGNS":=by rfl):Pe X (.Call (.Name "len" p1) [.Name "CHAIN_SIGNS" p2] [] p3) σ H Q:=by
 obtain⟨qs,qs5,sqA,_⟩:=KT.row (H:=H) (i:=0) Gc;refine#[_,bw bJ h1 Y.T.Kj HN (aa (ig h2 Y.T.OT) ag),_,_,Gc, .inr sqA,?_];rw[Fx,qs5];exact q
theorem p_D {te:TE}(Y:RX X a E) (KT:zJ X.K a.Il di) (row:di[sn]?=Fa xs) (he:PE X e te) (hv: ∀Q:VK,Q (.int (sn:FC)) H->te σ H Q) (q: ∀c,pH X.K H c xs->Q (.ref c) H) (h2:Gl X "CHAIN_SIGNS":=by rfl) (hs:qN e:=by exact λ_ _=>rfl):Pe X (.Subscript (.Name "CHAIN_SIGNS" p1) e p3) σ H Q:=by
 obtain⟨qs,qs5,sqA,c,atq,sq⟩:=KT.row (H:=H) row;exact#[_,cM aaC (ig h2 Y.T.OT) he hs,hv _ #[_,_,_,_,Gc,Gc,sqA,atq,q c sq]]
theorem RX.YW {sp:Sp}{σ:L2.St}(Y:RX X a E) (c:CB X "read_chain" ["reader","depth","strength"] sp) (q:sp [u,v, .int ((sn+1:FC):Int)] H Q E) (h1:X.N[1]?=Fa ("depth":FR):=by rfl) (v1:oU X.env.scope "depth":=by exact G9 Gc) (h2:X.N[2]?=Fa ("strength":FR):=by rfl) (v2:oU X.env.scope "strength":=by exact G9 Gc):
  Pe X (.Call (.Name "read_chain" p1) [.Name "reader" p2, .Name "depth" p3, .BinOp (.Name "strength" p4) .Add (.Constant (.int 1) 0 p5) p6] [] p7) (Fa u::Fa v::Fa (.int (sn:FC))::σ) H Q:=by
 obtain⟨G,hr,d,hg⟩:=c;exact#[_,aG G hr hg d Y.up (aa Y.rd (aa (dR h1 v1) (aa (bW dX (dR h2 v2) ak) ag))),_,_,Gc,Gc,q]
end
inductive ChI {p sub:FC->FC->Fl->Fv Fs}{c c':FC}{sg:E9 Fb}{once:Gu}{res:Fs->Pairs->Fs}(L:ChP p sub c c' sg once res) (Z:Zf Fs) (A1 A2:Fi) (Kn:Fl) (d:FC) (e:Fs) (v:V) (σ0:L2.St) (m:FC) (σ:L2.St) (H:Hp):Prop
 |mk (F:E9 (Fk×V)) (es:Pairs) (us:E9 V) (t:Ff) (f:FC) (_:m=t.length) (_:σ=σ0) (_:once=FM->es=[]) (_:us.length+t.length<Z.L) (_: ∀x∈es,x.1∈sg) (_: ∃i:FC,F[i]?=Fa (.e e,v)) (_:Paired (λ(x:Fb×Fs) u=> ∃i:FC,F[i]?=Fa (.e x.2,u)) es us) (_:16*t.length+c'<=f)
  (_:RS ((Z.mo A1 (v::us)).mo A2 (es.map λx=>V.str (dI x.1))) F FM H t Kn (L.q f d Kn e es)):ChI L Z A1 A2 Kn d e v σ0 m σ H
theorem zu (T:aW K mg a) (XC:XT K a) (KT:zJ K a.Il di) (hk:8<=k)
  (G:T.WG.O P w base k (aZ a FS GS 7 (Lv j))):
  T.X7.O P w base (k+1) (vN a FS 5 GS 7 (Lv j)):=by
 refine ait T XC hk T.X7.F aha λGU A outer s H B t Kn d fuel Q E hr hd ho hf hm=>?_;intro X D Z Y R;exact bH (cO b9 (bB 2 (zS Y KT #[Gc,_,Gc,cc (aM #[_,Y.call2 #[G,hr,T.WG.c,Gc] (pv 1) [01] Gc,R.tail hd ho hf])])))
theorem fh (T:aW K mg a) (XC:XT K a) (KT:zJ K a.Il di) (hk:8<=k) (hs:sn<5) (h2:sn=2->w2=FM) {p sub:FC->FC->Fl->Fv Fs}{res:Fs->Pairs->Fs}(WI:1<=c')
  (L:ChP p sub c c' sg once res) (N:pz sn sg once res) (row:di[sn]?=Fa (sg.map λo=>V.str (dI o))) (sgS: ∀o∈sg,o∈GI) (YX:once=decide (sn=2))
  (G:T.X7.O P w base k (vN a w2 (sn+1) sub c' (Lv j))):
  T.X7.O P w base (k+1) (vN a FM sn p c (Lv j)):=by
 refine ait T XC hk T.X7.F aha λGU A outer s H B t Kn d fuel Q E hr hd ho hf hm=>?_;intro X D Z Y R;have cb:CB X "read_chain" ["reader","depth","strength"] (vN a w2 (sn+1) sub c' (Lv j)):=#[G,hr,T.X7.c,Gc];refine bH (cO b9 (bB 2 (zS Y KT #[Gc,_,Gc,?_])));rw[cj,Gb (by lia)];refine bN ?_;obtain⟨f,hf1,hp⟩:=L.start (d:=12-d) (Kn:=Kn) (n:=t.length) hf;have z0:EM Z:=enZ;refine aN 3 Y.nd (uW (aP (Y.YW cb #[_,_,Gc,(R.as (congrFun hp t)).UR (λ_ e r b w=>z0.bad (L.PF _ _ _ _ _) b w) hd ho hf1 λe v H t1 _ R=>cF #[by show 1<=F8;decide,λA1 hA1=>?_]])));have N1:=R.nwl hA1;have l1:t1.length+1<=Z.L:=R.l;refine aN 4 Y.nd (mq λA2 hA2=>?_);have ne:A2≠A1:=λz=>by rw[z,ae] at hA2;cases hA2
 have N2:=R.nwl (L:=A2) (by rw[ac ne] at hA2;exact hA2)
 have N2': ∀ {us:E9 V},uy (Z.mo A1 us) A2:=N2.mo ne
 have N1': ∀ {us:E9 V},uy (Z.mo A2 us) A1:=N1.mo ne.symm
 have R:=(R.more (us:=[v]) hA1).more (us:=[]) hA2
 have hm:Kn.values.length+Z.L<=4000:=hm
 have eN: ∀ {F:E9 (Fk×V)}{es:Pairs}{us:E9 V}{t:Ff}{f:FC}{H:Hp},1<=f->FE t≠ .bad->(once=FM->es.length<=1)->(once=FM/\es≠[]\/ ∀op,FE t= .sign op->op∉sg)->(∀x∈es,x.1∈sg)->(∃i:FC,F[i]?=Fa (.e e,v))->Paired (λ(x:Fb×Fs) u=> ∃i:FC,F[i]?=Fa (.e x.2,u)) es us->
   RS ((Z.mo A1 (v::us)).mo A2 (es.map λx=>V.str (dI x.1))) F FM H t Kn (L.q f (12-d) Kn e es)->Bd X ((be s_u).drop 4) D [Fa (.ref B.r),Fa (.int d),Fa (.int (sn:FC)),Fa (.ref A1),Fa (.ref A2)] H:=by
  intro F es us t f H hf nb h1 Kq hsg m0 mp R;have R:=R.as (p':=pure (res e es)) (L.stop hf h1 Kq);obtain⟨i0,m0⟩:=m0;refine bH (cO b9 (iA T.Kj R.QI (pv 4) [05] (cN #[Gc,_,Gc,?_])));rw[cj,Fx];refine aO (λh=>?_) λh=>?_
  .obtain rfl:es=[]:=NU.mp (by have:=F4 h;lia)
   have hA1:=(R.less N2').QI
   have R:=(R.less N2').less N1;rw[N.Vh] at R;exact aM #[_,cM bC (pv 3) ak [002],A1,_,0,v,Gc,Gc,cB.of hA1,br (j:=0) Gc,R.done (R.f m0) λ_=>nb]
  .have z1:es≠[]:=λz=>by rw[z] at h;cases h
   refine aM (jH Y (CQ T) (aP (bB 2 (aP (bB 3 (aP (bB 4 (cF (R.new Gc λw H i R=>?_)))))))));have hA2:=R.QI;have hA1:=(R.less N2').QI;have R:=(R.less N2').less N1;exact R.done (N.at_ z1 hsg h1 (bF.keep (λb o e m=>#[λz=>m (cw (cw z)),e]) i) #[A1,Gc,N1.nm,hA1] #[A2,Gc,N2.nm,hA2] (R.f m0) (Paired.MU mp λx u ⟨i,h⟩=>R.f h)) λ_=>nb
 refine fS Y.lv (ChI L Z A1 A2 Kn (12-d) e v [Fa (.ref B.r),Fa (.int d),Fa (.int (sn:FC)),Fa (.ref A1),Fa (.ref A2)]) _ #[_,[],[],t1,f,Gc,Gc,λ_=>rfl,(by show 0+t1.length<_;lia),(λ_ z=>nomatch z),#[0,Gc], .nil,by lia,R] ?_
 rintro m σ H ⟨F,es,us,t,f,rfl,rfl,on0,ul,hsg,m0,mp,hf,R⟩;have z2:EM ((Z.mo A1 (v::us)).mo A2 (es.map λx=>V.str (dI x.1))):=(z0.mo N1).mo N2'
 refine cO lA (vP Y R (λb=>z2.bad (L.PF _ _ _ _ _) b R.w) λnb=>p_D Y KT row (pv 2) [05] λc sq=>#[c,_,Gc, .inr sq,zF _,ux sg,_,Gc,aO (λein=>?_) λein=>?_]) Gc
 .obtain⟨⟨x,xp⟩,r,rfl⟩:=R.cons
  obtain⟨op,Xs,rfl⟩:=Cr R.tok sgS ein;obtain⟨f6,hf6,h6⟩:=L.go (x:=(.sign op,xp)) (by rw[FA] at hf;exact hf) on0 Gc Xs;have lu:us.length=es.length:=(bA mp).symm;rw[FA] at ul;refine qC N2' R (pv 4) [05] (iI Y (R.as (p':=GF>>=λ_=>sub f6 (12-d) Kn>>=λe2=>L.q f6 (12-d) Kn e (es++[(op,e2)])) h6) nfS λH R=>#[_,_,_,_,_,by rw[Fx];exact Gp (show es.length<=4000 by lia) [01],R,λH R=>?_]);have R:=R.swap;have z3:EM (((Z.mo A2 ((es.map λx=>V.str (dI x.1))++[io (.sign op)])).mo A1 (v::us)).at r.length):=(z0.mo N2).mo N1'
  refine qC N1' R (pv 3) [05] (Y.YW cb #[_,_,Gc,RS.UR (Z:=((Z.mo A2 ((es.map λx=>V.str (dI x.1))++[io (.sign op)])).mo A1 (v::us)).at r.length) R.at (λ_ e r b w=>z3.bad (L.PF _ _ _ _ _) b w) hd ho hf6 λe2 v2 H t2 nb2 R2=>#[_,_,_,_,_,Gp (show(v::us).length<=4000 by rw[FA];lia) [01],RS.back (Z:=(Z.mo A2 _).mo A1 _) (l:=r.length) (by show r.length<=Z.L;lia) R2,λH R=>?_]]);have l2:t2.length+1<=r.length:=R2.l;have R:RS ((Z.mo A1 (v::(us++[v2]))).mo A2 ((es++[(op,e2)]).map λx=>V.str (dI x.1))) ((.e e2,v2)::F) FM H t2 Kn (L.q f6 (12-d) Kn e (es++[(op,e2)])):=by
   rw[Hk];exact R.swap
  have aiu: ∀x∈es++[(op,e2)],x.1∈sg:=λx hx=>(FY.mp hx).elim (hsg x) λz=>by rw[FN.mp z];exact Xs
  have m0': ∃i:FC,((.e e2,v2)::F)[i]?=Fa (.e e,v):=m0.elim λi h=>#[i+1,h]
  have mp':Paired (λ(x:Fb×Fs) u=> ∃i:FC,((.e e2,v2)::F)[i]?=Fa (.e x.2,u)) (es++[(op,e2)]) (us++[v2]):=gn (Paired.MU mp λx u h=>h.elim λi h=>#[i+1,h]) #[0,Gc]
  refine bH (cO b9 (bB 2 #[_,aT (by rfl) T.RR,Gc,_,Gc,?_]));rw[cj];refine aO (λh=>?_) λh=>?_
  .have s2:sn=2:=by have:=F4 h;lia
   have on1:once=FM:=by rw[YX,s2];rfl
   have es0:=on0 on1;exact Dk (eN (by lia) (nb2 (h2 s2)) (λ_=>by rw[es0];exact FF _) (.inl #[on1,λz=>by rw[S8] at z;cases z.2]) aiu m0' mp' R)
  .have on1:once≠FM:=by rw[YX,Gb λz=>by have:=F6 h;rw[z] at this;exact this Gc];exact Fd
   exact gm #[_,(show t2.length<r.length+1 by lia),_,_,us++[v2],t2,f6,Gc,Gc,λz=>FH z on1,(by rw[FL,Jy];lia),aiu,m0',mp',by lia,R]
 .exact eN (by lia) nb (λz=>by rw[on0 z];exact F3 _) (.inr λop ho hm=>by
   rw[ho,CA hm] at ein;cases ein) hsg m0 mp R
theorem zd (h:Fw t "if"=FS):FT (f+1) d Kn t=ors f d Kn t:=by
 rw[FT];show(if Fw t "if"=FM then _ else _)=_
 rw[Fj (by rw[h];exact Fd)]
 rfl
theorem amh (T:aW K mg a) (XC:XT K a) (hk:8<=k)
  (G1:T.W7.O P w base k (aZ a FM FT 12 (LvW j (Fc "if"))))
  (G2:T.X7.O P w base k (vN a FM 0 ors 11 (Lv j))):
  T.SI.O P w base (k+1) (aZ a FM FT 12 (Lv j)):=by
 refine vv T XC hk T.SI.F ag8 λGU A outer s H B t Kn d fuel Q E hr hd ho hf hm=>?_;intro X D Z Y R;refine bH (dq (iF Y R (lM _ _ _) λnb=>#[_,Gc,?_]));rw[b7 R.tok xh];refine aO (λe=>?_) λe=>?_
 .exact aM #[_,Y.call2 #[G1,hr,T.W7.c,Gc] (pv 1) [01] Gc,R.tail hd #[ho,beq_iff_eq.mp e] hf]
 .obtain⟨f,rfl⟩: ∃f,fuel=f+1:=#[fuel-1,by lia]
  exact aM #[_,aG G2 hr (by rfl) T.X7.c Y.up (aa Y.rd (aa (pv 1) (aa ak ag))),_,_,Gc,RS.tail (R.as (zd e)) hd ho (by lia)]
theorem aiv {CX:pP}{k:FC}{sp1 sp2:Sp}(F1:bU P w K mg base CX k f fd ps sp1) (F2:bU P w K mg base CX k f fd ps sp2):bU P w K mg base CX k f fd ps (λvs H Q E=>sp1 vs H Q E\/sp2 vs H Q E):=
 #[λvs H Q E h=>h.elim (F1.len vs H Q E) (F2.len vs H Q E),λA outer s H args us vs Q E hr he hb hv h=>h.elim (F1.run A outer s H args us vs Q E hr he hb hv) (F2.run A outer s H args us vs Q E hr he hb hv)]
theorem yM {p:FC->FC->Fl->Fv Fs}{ok1 ok2:FC->Fl->Ff->Prop}{H:Hp}{Q:VK}{E:XK}(h:aZ a w2 p c (λd K t=>ok1 d K t\/ok2 d K t) vs H Q E):aZ a w2 p c ok1 vs H Q E\/aZ a w2 p c ok2 vs H Q E:=by
 obtain⟨B,n,t,Kn,d,fuel,e,hd,ok,S,hf,hW⟩:=h;rcases ok with ok|ok
 .exact .inl #[B,n,t,Kn,d,fuel,e,hd,ok,S,hf,hW]
 .exact .inr #[B,n,t,Kn,d,fuel,e,hd,ok,S,hf,hW]
theorem kq {p:FC->FC->Fl->Fv Fs}{H:Hp}{Q:VK}{E:XK}(h:aZ a w2 p c (Lv 0) vs H Q E):False:=by
 obtain⟨B,n,t,Kn,d,fuel,e,hd,ok,S,hf,hW⟩:=h;have ok:13<=d+0:=ok;lia
theorem jL:(∀o∈S0,o∈GI)/\(∀o∈S1,o∈GI)/\(∀o∈S2,o∈GI)/\(∀o∈S3,o∈GI)/\(∀o∈S4,o∈GI):=by decide+kernel
theorem ami:di[0]?=Fa (S0.map λo=>V.str (dI o)):=by decide+kernel
theorem amj:di[1]?=Fa (S1.map λo=>V.str (dI o)):=by decide+kernel
theorem amk:di[2]?=Fa (S2.map λo=>V.str (dI o)):=by decide+kernel
theorem aml:di[3]?=Fa (S3.map λo=>V.str (dI o)):=by decide+kernel
theorem amm:di[4]?=Fa (S4.map λo=>V.str (dI o)):=by decide+kernel
theorem amn (T:aW K mg a) (XC:XT K a) (KT:zJ K a.Il di): ∀j:FC,
  T.SI.O P w base (8+11*j) (aZ a FM FT 12 (Lv j))/\
  T.WG.O P w base (8+11*j) (aZ a FS GS 7 (Lv j)):=by
 intro j
 induction j with
 |zero=>exact#[fP T.SI.F ag8 (λ_ _ _ _ h=>(kq h).elim) (λ_ _ _ _ _ _ _ _ _ h=>(kq h).elim),fP T.WG.F aaY (λ_ _ _ _ h=>(kq h).elim) (λ_ _ _ _ _ _ _ _ _ h=>(kq h).elim)]
 |succ j ih=>
  obtain⟨E0,U0⟩:=ih;have hk:8<=8+11*j:=by lia
  rw[show 8+11*(j+1)=8+11*j+11 by lia];generalize 8+11*j=k at hk E0 U0 ⊢;have B:=aih T XC hk E0;have Su:=aif T XC hk E0;have Ca:=amg T XC hk E0;have Ch:=aii T XC hk E0;have Pr:=aio T XC (by lia) B Su Ca;have UF:T.WG.O P w base (k+1+1) (aZ a FS GS 7 (λ_ _ _=>False)):=
   fP T.WG.F aaY (λ_ _ _ _ h=>by obtain⟨B,n,t,Kn,d,fuel,e,hd,ok,_⟩:=h;exact ok.elim) (λ_ _ _ _ _ _ _ _ _ h=>by obtain⟨B,n,t,Kn,d,fuel,e,hd,ok,_⟩:=h;exact ok.elim)
  have UN:=gE (j:=j+1) (λd _ t=>13<=d+(j+1)/\ ∃m,FE t= .num m) (λ_ _ _=>False) T XC (by lia) (λd Kn t h=>h.1) (λd Kn s xp t h _=>by obtain⟨_,m,z⟩:=h;cases z) (λd Kn s xp t m h _=>by obtain⟨_,m,z⟩:=h;cases z) Pr UF
  have UB:=(aiv (U0.mono (by lia:k<=k+1+1+1)) UN).imp λvs H Q E h=>yM h
  have Un:=gE (j:=j+1) (Lv (j+1)) (λd K t=>Lv j d K t\/(13<=d+(j+1)/\ ∃m,FE t= .num m)) T XC (by lia) (λd Kn t h=>h) (λd Kn s xp t h lt=> .inl (by have h:13<=d+(j+1):=h;show 13<=d+1+j;lia)) (λd Kn s xp t m h z=> .inr #[h,m,z]) (Pr.mono (by lia:k+1+1<=k+1+1+1)) UB
  have C5:=zu T XC KT (by lia) Un
  have C4:=fh T XC KT (by lia) (sn:=4) [01] (λz=>by cases z) [01] ail EV amm jL.2.2.2.2 Gc C5
  have C3:=fh T XC KT (by lia) (sn:=3) [01] (λz=>by cases z) [01] aik DU aml jL.2.2.2.1 Gc C4
  have C2:=fh T XC KT (by lia) (sn:=2) [01] (λ_=>rfl) [01] ain EY amk jL.2.2.1 Gc C3
  have C1:=fh T XC KT (by lia) (sn:=1) [01] (λz=>by cases z) [01] aij DM amj jL.2.1 Gc C2
  have C0:=fh T XC KT (by lia) (sn:=0) [01] (λz=>by cases z) [01] amc abz ami jL.1 Gc C1
  have Ex:=amh T XC (by lia) (Ch.mono (by lia)) C0;exact#[Ex.mono (by lia),Un.mono (by lia)]
end OS
namespace OS
open Vbemac
section
variable {K:Known}
theorem Cg (h:HP t "let"=FM):stmt (k+1) d K B t=(next>>=λ_=>newName K>>=λx=>sign "=">>=λ_=>expr k DEEP K>>=λe=>sign ";">>=λ_=>pure (.bind x e,K.with x,B):P (Stmt×Known×Blocks)) t:=by
 rw[stmt];show(if HP t "let"=FM then _ else _)=_
 rw[Fm h]
theorem Cn (h1:HP t "let"=FS) (h:HP t "for"=FM):stmt (k+1) d K B t=(deeper d>>=λn=>next>>=λ_=>newName K>>=λx=>key "in">>=λ_=>expr k DEEP K>>=λlo=>sign "..">>=λ_=>expr k DEEP K>>=λhi=>
  sign "{">>=λ_=>stmts k n (K.with x) B>>=λl=>pure (.loop x lo hi l.1,K,l.2):P (Stmt×Known×Blocks)) t:=by
 rw[stmt];show(if HP t "let"=FM then _ else if HP t "for"=FM then _ else _)=_
 rw[Fj (by rw[h1];exact Fd),Fm h]
def lf (k n:FC) (K:Known) (c:Exp) (a:Stmts×Blocks):P (Stmt×Known×Blocks):=ifKey "else">>=λm=>(if m=FM then(sign "{">>=λ_=>stmts k n K a.2>>=λb=>pure (.cond c a.1 b.1,K,b.2)) else pure (.cond c a.1 .nil,K,a.2))
theorem EF (h1:HP t "let"=FS) (h2:HP t "for"=FS) (h:HP t "if"=FM):stmt (k+1) d K B t=(deeper d>>=λn=>next>>=λ_=>expr k DEEP K>>=λc=>sign "{">>=λ_=>stmts k n K B>>=λa=>lf k n K c a:P (Stmt×Known×Blocks)) t:=by
 rw[stmt];show(if HP t "let"=FM then _ else if HP t "for"=FM then _ else if HP t "if"=FM then _ else _)=_
 rw[Fj (by rw[h1];exact Fd),Fj (by rw[h2];exact Fd),Fm h]
 rfl
def jO (m:Ft Gm) (B:Blocks):Blocks:=match m with
 |some w=>w::B
 |none=>B
theorem vD (h1:HP t "let"=FS) (h2:HP t "for"=FS) (h3:HP t "if"=FS) (h:HP t "block"=FM):stmt (k+1) d K B t=(next>>=λ_=>maybeName B>>=λm=>side>>=λXz=>key "zone">>=λ_=>expr k DEEP K>>=λz=>
  key "price">>=λ_=>expr k DEEP K>>=λp=>key "amount">>=λ_=>newName K>>=λx=>sign ":">>=λ_=>expr k DEEP (K.with x)>>=λq=>behind "under" (knownBlock B)>>=λu=>behind "group" (expr k DEEP K)>>=λg=>sign ";">>=λ_=>
  pure (.block m Xz z p x q u g,K,jO m B):P (Stmt×Known×Blocks)) t:=by
 rw[stmt];show(if HP t "let"=FM then _ else if HP t "for"=FM then _ else if HP t "if"=FM then _ else if HP t "block"=FM then _ else _)=_
 rw[Fj (by rw[h1];exact Fd),Fj (by rw[h2];exact Fd),Fj (by rw[h3];exact Fd),Fm h]
 rfl
theorem zG (h1:HP t "let"=FS) (h2:HP t "for"=FS) (h3:HP t "if"=FS) (h4:HP t "block"=FS):stmt (k+1) d K B t=(side>>=λXz=>key "zone">>=λ_=>expr k DEEP K>>=λz=>
  key "quarter">>=λ_=>expr k DEEP K>>=λq=>key "price">>=λ_=>expr k DEEP K>>=λp=>behind "to" (expr k DEEP K)>>=λtop=>key "amount">>=λ_=>expr k DEEP K>>=λa=>sign ";">>=λ_=>
  pure (.step Xz z q p top a,K,B):P (Stmt×Known×Blocks)) t:=by
 rw[stmt];show(if HP t "let"=FM then _ else if HP t "for"=FM then _ else if HP t "if"=FM then _ else if HP t "block"=FM then _ else _)=_
 rw[Fj (by rw[h1];exact Fd),Fj (by rw[h2];exact Fd),Fj (by rw[h3];exact Fd),Fj (by rw[h4];exact Fd)]
theorem zC (h:L5 t "}"=FM):stmts (k+1) d K B t= .ok ((.nil,B),t.drop 1):=by
 rw[stmts];show(if L5 t "}"=FM then _ else _)=_
 rw[Fm h]
theorem Av (h:L5 t "}"=FS):stmts (k+1) d K B t=(stmt k d K B>>=λs=>stmts k d s.2.1 s.2.2>>=λl=>pure (.cons s.1 l.1,l.2):P (Stmts×Blocks)) t:=by
 rw[stmts];show(if L5 t "}"=FM then _ else _)=_
 rw[Fj (by rw[h];exact Fd)]
end
section
variable {K:Known}
theorem yD (h:n≠0):params (k+1) n K t=(newName K>>=λx=>ifSign ",">>=λm=>(if m=FM then(params k (n-1) (K.with x)>>=λl=>pure (x::l)) else(sign ")">>=λ_=>pure [x])):P (E9 Gm)) t:=by
 rw[params];show(if n=0 then _ else _)=_
 rw[Fj h]
theorem uE (h:n=0):params (k+1) n K t=fail 7 t:=by
 rw[params];show(if n=0 then _ else _)=_
 rw[Fm h]
theorem CF (h:peek t= .eof):tops (k+1) K n D t= .ok ([],t):=by
 rw[tops];show(if peek t= .eof then _ else _)=_
 rw[Fm h]
theorem uH (h0:peek t≠ .eof) (h:HP t "const"=FM):tops (k+1) K n D t=(next>>=λ_=>newName K>>=λx=>sign "=">>=λ_=>expr k DEEP K>>=λe=>sign ";">>=λ_=>tops k (K.with x) n D>>=λl=>pure (.const x e::l):P Sheet) t:=by
 rw[tops];show(if peek t= .eof then _ else if HP t "const"=FM then _ else _)=_
 rw[Fj h0,Fm h]
theorem Bx (h0:peek t≠ .eof) (h1:HP t "const"=FS) (h:HP t "fun"=FM) (hn:n≠0):tops (k+1) K n D t=(next>>=λ_=>newName K>>=λx=>sign "(">>=λ_=>ifSign ")">>=λnone_=>
  (if none_=FM then give [] else params k PARAMS (K.with x))>>=λps=>sign "=">>=λ_=>expr k DEEP { K with values:=ps++K.values } >>=λe=>sign ";">>=λ_=>tops k { K with funs:=(x,ps.length)::K.funs } (n-1) D>>=λl=>pure (.func x ps e::l):P Sheet) t:=by
 rw[tops];show(if peek t= .eof then _ else if HP t "const"=FM then _ else if HP t "fun"=FM then(if n=0 then _ else _) else _)=_
 rw[Fj h0,Fj (by rw[h1];exact Fd),Fm h,Fj hn]
theorem yu (h0:peek t≠ .eof) (h1:HP t "const"=FS) (h:HP t "fun"=FM) (hn:n=0):tops (k+1) K n D t=fail 7 t:=by
 rw[tops];show(if peek t= .eof then _ else if HP t "const"=FM then _ else if HP t "fun"=FM then(if n=0 then _ else _) else _)=_
 rw[Fj h0,Fj (by rw[h1];exact Fd),Fm h,Fm hn]
def eE (D:E9 Gm):P Gm:=λu=>match anyName u with
 | .error e=> .error e
 | .ok (w,r)=>if D.contains w=FM then fail 4 u else .ok (w,r)
theorem yG (h0:peek t≠ .eof) (h1:HP t "const"=FS) (h2:HP t "fun"=FS) (h:HP t "desk"=FM):tops (k+1) K n D t=(next>>=λ_=>eE D>>=λx=>sign "{">>=λ_=>stmts k NEST K []>>=λl=>tops k K n (x::D)>>=λr=>pure (.desk x l.1::r):P Sheet) t:=by
 rw[tops];show(if peek t= .eof then _ else if HP t "const"=FM then _ else if HP t "fun"=FM then _ else if HP t "desk"=FM then _ else _)=_
 rw[Fj h0,Fj (by rw[h1];exact Fd),Fj (by rw[h2];exact Fd),Fm h]
 rfl
theorem yq (h0:peek t≠ .eof) (h1:HP t "const"=FS) (h2:HP t "fun"=FS) (h:HP t "desk"=FS):tops (k+1) K n D t=fail 2 t:=by
 rw[tops];show(if peek t= .eof then _ else if HP t "const"=FM then _ else if HP t "fun"=FM then _ else if HP t "desk"=FM then _ else _)=_
 rw[Fj h0,Fj (by rw[h1];exact Fd),Fj (by rw[h2];exact Fd),Fj (by rw[h];exact Fd)]
theorem md (D:E9 Gm):aK (eE D):=λt e=>by unfold eE;rw[d9 t e]
end
end OS
namespace OS
open Vbemac
def lT:Stmt->Ft Gm
 | .bind x _=>Fa x
 |_=>FB
def EA (K:Known) (s:Stmt) (K':Known):Prop:=match lT s with
 |some x=>K'=K.with x/\K.taken x=FS
 |none=>K'=K
def jt (ss:E9 Stmt):E9 Gm:=ss.filterMap lT
def AK:E9 Stmt->Stmts->Stmts
 |[],l=>l
 |s::r,l=> .cons s (AK r l)
theorem tV:AK (ss++[x]) l=AK ss (.cons x l):=by
 induction ss with
 |nil=>rfl
 |cons y r ih=>show Stmts.cons y (AK (r++[x]) l)=_;rw[ih];rfl
structure gX (K:Known) (ss:E9 Stmt) (K':Known):Prop where
 funs:K'.funs=K.funs
 vals:K'.values=(jt ss).reverse++K.values
 nodup:(jt ss).Nodup
 free: ∀x∈jt ss,x∉K.values
theorem gX.nil {K:Known} :gX K [] K:=#[Gc,Gc,MV,λ_ z=>nomatch z]
theorem gX.snoc {K K1 K2:Known}(h:gX K ss K1) (h2:EA K1 s K2):gX K (ss++[s]) K2:=by
 unfold EA at h2;cases e:lT s with
 |none=>
  rw[e] at h2;have h2:K2=K1:=h2;have:jt (ss++[s])=jt ss:=by unfold jt;rw[TB];simp [e]
  rw[h2];exact#[h.funs,by rw[this];exact h.vals,by rw[this];exact h.nodup,by rw[this];exact h.free]
 |some x=>
  rw[e] at h2;obtain⟨rfl,ht⟩:=h2;have:jt (ss++[s])=jt ss++[x]:=by unfold jt;rw[TB];simp [e]
  unfold Known.taken at ht;rw[Mf] at ht;have nc:x∉K1.values:=λz=>by rw[Gn.mpr z] at ht;cases ht.1
  rw[h.vals] at nc;refine#[h.funs,?_,?_,?_]
  .rw[this]
   show x::K1.values=_
   rw[h.vals,UU]
   rfl
  .rw[this,Ln]
   refine#[h.nodup,Gk.mpr #[HF,MV],λa ha b hb=>?_];rw[FN.mp hb];intro z;exact nc (FY.mpr (.inl (JX.mpr (by rw[<-z];exact ha))))
  .rw[this]
   intro y hy z;rcases FY.mp hy with hy|hy
   .exact h.free y hy z
   .rw[FN.mp hy] at z
    exact nc (FY.mpr (.inr z))
end OS
namespace OS
open Vbemac
abbrev g8:=Top×Known×FC×E9 Gm
def abA (k:FC) (K:Known) (n:FC) (D:E9 Gm):P g8:=newName K>>=λx=>sign "(">>=λ_=>ifSign ")">>=λnone_=>(if none_=FM then give [] else params k PARAMS (K.with x))>>=λps=>sign "=">>=λ_=>
 expr k DEEP { K with values:=ps++K.values } >>=λe=>sign ";">>=λ_=>pure (.func x ps e,{ K with funs:=(x,ps.length)::K.funs },n-1,D)
def uN (k:FC) (K:Known) (n:FC) (D:E9 Gm):P g8:=newName K>>=λx=>sign "=">>=λ_=>expr k DEEP K>>=λe=>sign ";">>=λ_=>pure (.const x e,K.with x,n,D)
def Ar (k:FC) (K:Known) (n:FC) (D:E9 Gm):P g8:=eE D>>=λx=>sign "{">>=λ_=>stmts k NEST K []>>=λl=>pure (.desk x l.1,K,n,x::D)
def ij (k:FC) (K:Known) (n:FC) (D:E9 Gm):P g8:=λt=>
 if HP t "const"=FM then(next>>=λ_=>uN k K n D:P g8) t
 else if HP t "fun"=FM then(if n=0 then fail 7 t else(next>>=λ_=>abA k K n D:P g8) t)
 else if HP t "desk"=FM then(next>>=λ_=>Ar k K n D:P g8) t
 else fail 2 t
theorem lK (k:FC) (K:Known) (n:FC) (D:E9 Gm):aK (ij k K n D):=λt e=>by
 unfold ij;rw[cq e,cq e,cq e,Fj Fd,Fj Fd,Fj Fd];exact aH 2 t e
end OS
namespace OS
open PySem PySem.Spec L2
open PyProof.Rows hiding St
variable {P:Ga}{w:GN}{K:Fe}{mg:FR->Ft Fh}{base:GY}{a:bf}
theorem aiw:d7 "=" (Fc "="):=[008]
theorem zW:d7 ";" (Fc ";"):=[008]
theorem aix:d7 "{" (Fc "{"):=[008]
theorem YY:d7 "}" (Fc "}"):=[008]
theorem xK:cV "sell" (Fc "sell"):=[007]
theorem AB:cV "buy" (Fc "buy"):=[007]
theorem pI:cV "amount" (Fc "amount"):=[007]
def dU (f:FC) (Kn:Fl):Fv Fs:=Ge "=">>=λ_=>FT f HA Kn>>=λe=>Ge ";">>=λ_=>pure e
def dy (s:String) (f:FC) (Kn:Fl):Fv Fs:=Hr s>>=λ_=>FT f HA Kn
def jd (f:FC) (Kn:Fl):Fv (Fb×Fs):=Hr "amount">>=λ_=>GO Kn>>=λx=>Ge ":">>=λ_=>FT f HA (Kn.with x)>>=λe=>pure (x,e)
def Eg {α β:Type}(Z:Zf β) (g:α->Fv β):Prop:= ∀e r,FE r= .bad->W (g e) r Z.Ro (QE Z.a Z.B Z.H0 Z.E)->QE Z.a Z.B Z.H0 Z.E 1 (Ip r)
theorem Dz {α β:Type}{Z:Zf β}{g:α->Fv β}(h: ∀e,aK (g e)):Eg Z g:=λe _ nb w=>(h e).LK nb w
theorem abB {α β:Type}{Z:Zf β}{p:Fv α}{g:α->Fv β}{t:Ff}(h:Eg Z g) (hr:hJ p) (b:FE t= .bad) (w:W (p>>=g) t Z.Ro (QE Z.a Z.B Z.H0 Z.E)):QE Z.a Z.B Z.H0 Z.E 1 (Ip t):=by
 rw[jz] at w;rcases hr t b with e|⟨x,e⟩
 .rw[i5 e] at w;exact w
 .rw[yV e] at w;exact h x t b w
inductive gv {α:Type}(a:bf) (args:E9 V) (p:FC->Fl->Fv α) (c:FC) (en bt:Gu) (mk:α->Fk) (vs:E9 V) (H:Hp) (Q:VK) (E:XK):Prop
 |mk {β:Type}(B:Rb) (L:FC) (H0:Hp) (Ro:β->Ff->Prop) (F:E9 (Fk×V)) (b:Gu) (t:Ff) (Kn:Fl) (f:FC) (g:α->Fv β) (_:vs= .ref B.r::args) (_:16*t.length+c<=f) (_:en=FM->Eg ⟨a,E,B,L,H0,Ro⟩ g) (_:RS ⟨a,E,B,L,H0,Ro⟩ F b H t Kn (p f Kn>>=g))
  (_: ∀x v H' t',RS #[a,E,B,L,H0,Ro] ((mk x,v)::F) (b||bt) H' t' Kn (g x)->Q v H'):gv a args p c en bt mk vs H Q E
inductive DK {α:Type}(a:bf) (pp:Rb->Fv α->Prop) (val:α->V) (vs:E9 V) (H:Hp) (Q:VK) (E:XK):Prop
 |mk {β:Type}(B:Rb) (L:FC) (H0:Hp) (Ro:β->Ff->Prop) (F:E9 (Fk×V)) (b:Gu) (t:Ff) (Kn:Fl) (p:Fv α) (g:α->Fv β) (_:vs=[.ref B.r]) (_:pp B p) (_:RS ⟨a,E,B,L,H0,Ro⟩ F b H t Kn (p>>=g))
  (_: ∀x H' t',RS #[a,E,B,L,H0,Ro] F FM H' t' Kn (g x)->Q (val x) H'):DK a pp val vs H Q E
section
variable {β:Type}{Z:Zf β}{H:Hp}{p:Fv β}
theorem RS.room (R:RS Z F b H t Kn p):Kn.values.length+t.length<=4000:=by
 rw[00];exact S.kn.len
theorem RS.lL (R:RS Z F b H t Kn p):t.length<=Z.L:=FP (JZ _ _) R.l
theorem RS.or {c:Gu}(R:RS Z F FM H t Kn p):RS Z F (c||true) H t Kn p:=by rw[Qh];exact R
theorem RS.cut (n:FC) (R:RS Z F b H t Kn p):RS Z (F.drop n) b H t Kn p:=#[R.S,R.k,λ{i x} e=>R.f (i:=n+i) (by rw[<-E9.getElem?_drop];exact e),R.l,R.w]
theorem RS.asf {α:Type}{q q':Fv α}{g:α->Fv β}(R:RS Z F b H t Kn (q>>=g)) (e:q t=q' t):RS Z F b H t Kn (q'>>=g):=R.as (aV e)
end
section
variable {k:FC}{x He:FR}{st:Stmt}{f:Fi}{fd:Gs}{N ps:E9 FR}{α:Type}{args:E9 V}{p:FC->Fl->Fv α}{c:FC}{en bt:Gu}{mk:α->Fk}{val:α->V}{pp:Rb->Fv α->Prop}
theorem DF (T:aW K mg a) (XC:XT K a) (hk:8<=k) (F:oX K x He st f fd) (S:az N ("reader"::ps) (af st)) (hl:args.length=ps.length)
  (JG: ∀(GU:Fh) (A:GV) (outer:E9 Env) (s:Fn) (H:Hp) {β:Type}(B:Rb) (L:FC) (H0:Hp) (Ro:β->Ff->Prop) (F:E9 (Fk×V)) (b:Gu) (t:Ff) (Kn:Fl) (fu:FC) (g:α->Fv β) (Q:VK) (E:XK),bZ k (A.deeper (JJ He (af st) s.heap.objs.size f GU))->16*t.length+c<=fu->
   let X:=e8 (fY P w) P w K mg base N He (af st) f GU A outer s H E
   let D:eA:= { nx:=λ_ H'=>Q .IJ H',rt:=Q }
   let Z:Zf β:=#[a,E,B,L,H0,Ro]
   (en=FM->Eg Z g)->RX X a E->RS Z F b H t Kn (p fu Kn>>=g)->(∀x v H' t',RS Z ((mk x,v)::F) (b||bt) H' t' Kn (g x)->Q v H')->Bd X (be st) D (L2.start N (.ref B.r::args)) H):bU P w K mg base (fY P w) (k+1) f fd ("reader"::ps) (gv a args p c en bt mk):=by
 refine fP F S (λvs H Q E h=>?_) [02]
 .obtain⟨B,L,H0,Ro,F,b,t,Kn,fu,g,rfl,_⟩:=h
  exact Gq RJ hl
 .obtain⟨B,L,H0,Ro,F,b,t,Kn,fu,g,rfl,h1,h2,R,q⟩:=h
  exact JG GU A outer s H B L H0 Ro F b t Kn fu g Q E hr h1 h2 (jS T XC hk S hr) R q
theorem aiy (T:aW K mg a) (XC:XT K a) (hk:8<=k) (F:oX K x He st f fd) (S:az N ["reader"] (af st))
  (JG: ∀(GU:Fh) (A:GV) (outer:E9 Env) (s:Fn) (H:Hp) {β:Type}(B:Rb) (L:FC) (H0:Hp) (Ro:β->Ff->Prop) (F:E9 (Fk×V)) (b:Gu) (t:Ff) (Kn:Fl) (p:Fv α) (g:α->Fv β) (Q:VK) (E:XK),bZ k (A.deeper (JJ He (af st) s.heap.objs.size f GU))->pp B p->
   let X:=e8 (fY P w) P w K mg base N He (af st) f GU A outer s H E
   let D:eA:= { nx:=λ_ H'=>Q .IJ H',rt:=Q }
   let Z:Zf β:=#[a,E,B,L,H0,Ro]
   RX X a E->RS Z F b H t Kn (p>>=g)->(∀x H' t',RS Z F FM H' t' Kn (g x)->Q (val x) H')->Bd X (be st) D (L2.start N [.ref B.r]) H):bU P w K mg base (fY P w) (k+1) f fd ["reader"] (DK a pp val):=by
 refine fP F S [03] [02];obtain⟨B,L,H0,Ro,F,b,t,Kn,p,g,rfl,h1,R,q⟩:=h;exact JG GU A outer s H B L H0 Ro F b t Kn p g Q E hr h1 (jS T XC hk S hr) R q
end
section
variable {β:Type}{Z:Zf β}{H:Hp}{E:XK}{Q:VK}{sp:Sp}{p:Fv β}
theorem eZ (Y:RX X a E) (c:CB X x ["reader"] sp) (q:sp [.ref B] H Q E) (hx:(x == [003])=FS:=by decide):Pe X (.Call (.Name x p1) [.Name "reader" p2] [] p4) (Fa (.ref B)::σ) H Q:=by
 obtain⟨G,hr,d,hg⟩:=c;exact#[_,aG G hr hg d Y.up (aa Y.rd ag) hx,q]
theorem wR (Y:RX X a E) (c:CB X x ["reader","word"] sp) (q:sp [.ref B, .str v] H Q E) (hx:(x == [003])=FS:=by decide):Pe X (.Call (.Name x p1) [.Name "reader" p2, .Constant (.str v) j p3] [] p4) (Fa (.ref B)::σ) H Q:=by
 obtain⟨G,hr,d,hg⟩:=c;exact#[_,aG G hr hg d Y.up (aa Y.rd (aa dH ag)) hx,q]
end
abbrev mK (P:Ga) (w:GN) (K:Fe) (mg:FR->Ft Fh) (base:GY) (a:bf) (k:FC):Prop:=bU P w K mg base (fY P w) k a.f_d a.aez ["reader","depth"] (aZ a FM FT 12 (Lv 13))
theorem yw {Kn:Fl}{t:Ff} :Lv 13 0 Kn t:=by show 13<=0+13;decide
theorem aiz (T:aW K mg a) (XC:XT K a) (hk:8<=k) (G:mK P w K mg base a k):
  T.X8.O P w base (k+1) (gv a [] dU 12 FS FM .e):=by
 refine DF T XC hk T.X8.F alz Gc λGU A outer s H β B L H0 Ro F b t Kn fu g Q E hr hf=>?_;intro X D Z _ Y R q;have c:CB X "read_exp" ["reader","depth"] (aZ a FM FT 12 (Lv 13)):=#[G,hr,T.SI.c,Gc];have lL:=R.lL;have hF:16*(Z.at t.length).L+12<=fu+16:=FP hf (JZ _ _);have R:RS (Z.at t.length) F FS H t Kn (Ge "=">>=λ_=>FT fu HA Kn>>=λe=>Ge ";">>=λ_=>g e):=by
  have:=R.at;simp only[dU,bind_assoc,pure_bind] at this;exact this
 refine cJ (Z:=Z.at t.length) Y aiw R λH t R=>?_;refine eD (Z:=Z.at _) (d:=0) 1 Y c ak [05] R (nE λx=>(bi ";").bind) (F3 _) yw hF λe v H t R=>?_;refine cJ (Z:=Z.at _) Y zW R λH t R=>?_;exact aM (bB 1 (q e v H t (R.back lL).or))
theorem abC {v:FR}{s:String}(lit:cV v (Fc s)) (T:aW K mg a) (XC:XT K a) (hk:8<=k) (G:mK P w K mg base a k):
  T.Xi.O P w base (k+1) (gv a [.str v] (dy s) 12 FM FM .e):=by
 refine DF T XC hk T.Xi.F alB Gc λGU A outer s0 H β B L H0 Ro F b t Kn fu g Q E hr hf=>?_;intro X D Z en Y R q;have lL:=R.lL;have R:RS (Z.at t.length) F FS H t Kn (Hr s>>=λ_=>FT fu HA Kn>>=g):=by
  have:=R.at;simp only[dy,bind_assoc] at this;exact this
 refine wB (Z:=Z.at t.length) Y R (pv 1) [05] (λr _ ok=>lit.p r ok) λH t1 R=>?_;have l1:t1.length+1<=t.length:=R.l;exact aM #[_,Y.call2 #[G,hr,T.SI.c,Gc] ak [01] Gc,RS.call (Z:=Z.at _) (d:=0) R (en Gc) (F3 _) yw (by lia) λe v H t _ R=>q e v H t (R.back lL).or]
theorem pB {α:Type}{s:String}{p:Fv α}{t:Ff}(h:Fw t s=FM):Hn s p t=(Hr s>>=λ_=>p>>=λx=>pure (Fa x):Fv (Ft α)) t:=by
 unfold Hn;rw[Fm h];have e:(Hr s>>=λ_=>p>>=λx=>pure (Fa x):Fv (Ft α)) t=(p>>=λx=>pure (Fa x):Fv (Ft α)) (t.drop 1):=by
  show(FU (Hr s) _) t=_
  unfold FU Hr;rw[Fm h]
  rfl
 rw[e];show _=(FU p _) (t.drop 1);unfold FU;cases p (t.drop 1) with
 |error e=>rfl
 |ok z=>rfl
theorem mQ {α:Type}{s:String}{p:Fv α}{t:Ff}(h:Fw t s=FS):Hn s p t= .ok (FB,t):=by
 unfold Hn;rw[Fj (by rw[h];exact Fd)]
theorem aiA {v:FR}{s:String}(lit:cV v (Fc s)) (T:aW K mg a) (XC:XT K a) (hk:8<=k)
  (G:T.Xi.O P w base k (gv a [.str v] (dy s) 12 FM FM .e)):
  T.d_C.O P w base (k+1) (gv a [.str v] (λf Kn=>Hn s (FT f HA Kn)) 12 FM FS .o):=by
 refine DF T XC hk T.d_C.F alC Gc λGU A outer s0 H β B L H0 Ro F b t Kn fu g Q E hr hf=>?_;intro X D Z en Y R q;have en:=en Gc;refine bH (jn (dq (mr Y R (pv 1) [05] (λbd=>abB en (gc s _) bd R.w) λnb=>#[_,Gc,?_])));rw[b7 R.tok lit];cases hk':(FE t == Hy (Fc s)) with
 |false=>
  refine cc (aM (mB (q FB .IJ H t (RS.and ?_ Gc))));rw[Pc];exact R.as (bK (mQ hk'))
 |true=>
  have R:RS Z F b H t Kn (dy s fu Kn>>=λx=>g (Fa x)):=by
   have:=R.asf (pB hk');simp only[dy,bind_assoc,pure_bind] at this ⊢;exact this
  refine bN (aM #[_,aG G hr (by rfl) T.Xi.c Y.up (aa Y.rd (aa (pv 1) ag)),Z.B,Z.L,Z.H0,Z.Ro,F,b,t,Kn,fu,_,Gc,hf,λ_ x r b w=>en (Fa x) r b w,R,λx v H' t' R=>q (Fa x) v H' t' ?_]);obtain⟨S,k,f,l,w⟩:=R;refine#[S,k,λ{i y} e=>?_,FP (MG (by cases b<;>decide) _) l,w];cases i with
  |zero=>cases e;exact f (i:=0) (x:=(.e x,v)) Gc
  |succ i=>exact f (i:=i+1) e
inductive wD (a:bf) (vs:E9 V) (H:Hp) (Q:VK) (E:XK):Prop
 |mk (r q kd fn ds bl:Fi) (n:FC) (x:GH×Gx) (t:Ff) (d:FC) (_:vs=[.ref r, .int d]) (_:n9 a H r q kd fn ds bl n (x::t)) (_:(d=6->nJ a.HM E H (if x.1= .bad then 1 else 6) x.2)) (_:(d≠6->Q (.int ((d+1:FC):Int)) H)):wD a vs H Q E
def Bk (bl:YL) (B:HX):Prop:= ∀u,has bl.c u=B.contains u
theorem aiB (T:aW K mg a) (XC:XT K a):T.aaa.O P w base 6 (wD a):=by
 have Vg:=fE (P:=P) (w:=w) (base:=base) T XC;refine fP T.aaa.F ahn [03] [02];obtain⟨r,q,kd,fn,ds,bl,n,x,t,d,rfl,R,hf,hg⟩:=h;obtain⟨dr,er⟩:=R.ins;refine#[_,(ax (cv (a0 b9 (pv 1) (aT (by rfl) T.Rl) (aL _)) (aj (bj (cy (pv 0) T.F9 T.V6.c Vg (hr.mono (by lia)) aA (aa (aT (by rfl) T.QV) ag)))) bo)
   (aj (aJ (bW dX (pv 1) ak)))),?_]
 refine#[Gc,_,Gc,?_];rw[cj];refine aO (λe=>?_) λe=>?_
 .have:=F4 e
  exact#[r,dr,_,Gc,er,Gc,r,q,kd,fn,ds,bl,n,x,t,6,Gc,R,hf (by lia)]
 .have:=F6 e
  exact#[_,_,Gc,Gc,hg (by lia)]
section
variable {β:Type}{Z:Zf β}{H:Hp}
theorem sM (i:FC) {g:FC->Fv β}(Y:RX X Z.a Z.E) (hd:d<=6) (nb:FE t≠ .bad) (R:RS Z F b H t Kn (Hw (6-d)>>=g)) (q:d<6->RS Z F b H t Kn (g (6-(d+1)))->Bd X ss D ((Fa (.ref Z.B.r)::Fa (.int d)::σ).set i (Fa (.int ((d+1:FC):Int)))) H)
  (h:Sl X i y:=by exact#[Gc,G9 Gc,Gc]) (h1:X.N[1]?=Fa ("depth":FR):=by rfl) (v1:oU X.env.scope "depth":=by exact G9 Gc) (hg:Gl X "deeper_braces":=by rfl):
  Bd X (.Assign [.Name y p0] (.Call (.Name "deeper_braces" p1) [.Name "reader" p2, .Name "depth" p3] [] p4) p5::ss) D (Fa (.ref Z.B.r)::Fa (.int d)::σ) H:=by
 rw[00];obtain⟨⟨x,xp⟩,t',rfl,tok,Q0,MT,_⟩:=S.wh.first;have hW:=R.w;rw[jz] at hW;have nx:x≠ .bad:=nb;refine aN i Y.nd (h:=h) #[_,Y.call2 #[aiB Y.T Y.C,Y.hr.mono [01],Y.T.aaa.c,hg] (dR h1 v1) [01] Gc,Z.B.r,Z.B.q,Z.B.kd,Z.B.fn,Z.B.ds,Z.B.bl,n,(x,xp),t',d,Gc,S.rd,λe=>?_,λe=>?_]
 .rw[Fj nx]
  exact fF (p:=Hw (6-d)) (n:=6) (by unfold Hw;rw[Fm (by lia)]) nb hW H R.k
 .have ed:Hw (6-d) ((x,xp)::t')= .ok (6-(d+1),(x,xp)::t'):=by unfold Hw;rw[Fj (by lia),show 6-d-1=6-(d+1) by lia]
  rw[yV ed] at hW;exact q (by lia) #[R.S,R.k,R.f,R.l,hW]
theorem abD {p:Fv β}{C:Gu->Hp->Prop}(Y:RX X Z.a Z.E) (R:RS Z F b H ((.word u,xp)::t) Kn p) (hB:Bk Z.B.bl Bs) (q:C (!Bs.contains u) H) (hp:ip p2 p4:=by rfl):
  Pt X (.Compare (.Attribute (.Call (.Attribute [005] "current" p2) [] [] p4) "value" p5) [.NotIn] [.Attribute (.Name "reader" p6) "blocks" p7] p3) (Fa (.ref Z.B.r)::σ) H C:=by
 rw[00];obtain⟨dr,er⟩:=S.rd.ins;refine#[_,fB (iV (dn Y.hr) du (ah Y.rd Gc)),vP Y R (λb=>nomatch b) (λ_=>#[Z.B.r,_,dr,_,_,Gc,er,Y.T.F9,Y.T.JR,Gc,Z.B.bl.p,_,Gc,gw.k (k:=nk u) S.So,_,Gc,?_]) hp]
 have:=hB u;unfold has at this;rw[this];exact q
end
theorem xZ {t:Ff}(h:(x.1 == .word (Fc "sell"))=FM):IT (x::t)= .ok (FS,t):=by
 unfold IT;rw[Fm (show Fw (x::t) "sell"=FM from h)]
 rfl
theorem BR {t:Ff}(h0:(x.1 == .word (Fc "sell"))=FS) (h:(x.1 == .word (Fc "buy"))=FM):IT (x::t)= .ok (FM,t):=by
 unfold IT;rw[Fj (by rw[show Fw (x::t) "sell"=FS from h0];exact Fd),Fm (show Fw (x::t) "buy"=FM from h)]
 rfl
theorem wo {t:Ff}(h0:(FE t == .word (Fc "sell"))=FS) (h:(FE t == .word (Fc "buy"))=FS):IT t=FJ 2 t:=by
 unfold IT;rw[Fj (by rw[show Fw t "sell"=FS from h0];exact Fd),Fj (by rw[show Fw t "buy"=FS from h];exact Fd)]
theorem aiC (T:aW K mg a) (XC:XT K a):T.aab.O P w base 9 (DK a (λ_ p=>p=IT) jW):=by
 refine aiy T XC (FF _) T.aab.F ahq λGU A outer s0 H β B L H0 Ro F b t Kn p g Q E hr hp=>?_;intro X D Z Y R q;subst hp;obtain⟨⟨x,xp⟩,r,rfl⟩:=R.cons;have v1:lY "sell" (FE ((x,xp)::r))=(x == .word (Fc "sell")):=b7 R.tok xK;have v2:lY "buy" (FE ((x,xp)::r))=(x == .word (Fc "buy")):=b7 R.tok AB;refine bH (Cj (jn (dq (iF Y R lJ.bind λnb=>#[_,Gc,?_]))));rw[v1];cases e1:(x == Hy (Fc "sell")) with
 |true=>
  obtain rfl:=beq_iff_eq.mp e1;refine bN (bN (aM (iI Y (R.as (p':=GF>>=λ_=>g FS) (bK (xZ e1))) YU λH R=>?_)));show Q (.str (sb (Fc "sell"))) H;rw[<-xK.1];exact q FS H r R
 |false=>
  refine cc (jn (dq (jb Y R nb #[_,Gc,?_])));rw[v2];cases e2:(x == Hy (Fc "buy")) with
  |true=>
   obtain rfl:=beq_iff_eq.mp e2;refine bN (aM (iI Y (R.as (p':=GF>>=λ_=>g FM) (bK (BR e1 e2))) YU λH R=>?_));show Q (.str (sb (Fc "buy"))) H;rw[<-AB.1];exact q FM H r R
  |false=>exact cc (bD (qO Y (aT (by rfl) T.OW) R nb ((aV (wo (t:=(x,xp)::r) e1 e2)).trans Gc)))
theorem aiD (T:aW K mg a) (XC:XT K a) (hk:8<=k) (G:mK P w K mg base a k):
  T.Xj.O P w base (k+1) (gv a [] jd 12 FM FM .am):=by
 refine DF T XC hk T.Xj.F ahr Gc λGU A outer s0 H β B L H0 Ro F b t Kn fu g Q E hr hf=>?_;intro X D Z en Y R q;have lL:=R.lL;have hm:Kn.values.length+(Z.at t.length).L<=4000:=R.room;have R:RS (Z.at t.length) F FS H t Kn (Hr "amount">>=λ_=>GO Kn>>=λx=>Ge ":">>=λ_=>FT fu HA (Kn.with x)>>=λe=>g (x,e)):=by
  have:=R.at;simp only[jd,bind_assoc,pure_bind] at this;exact this
 refine kU (Z:=Z.at t.length) Y pI R λH t1 R=>?_;refine i4 (Z:=Z.at t.length) 1 Y R λu H t2 ft R=>?_;refine cJ (Z:=Z.at t.length) Y YT R λH t3 R=>?_;refine gJ (Z:=Z.at t.length) Y (pv 1) [05] ft hm R λH R=>?_;refine eD (Z:=Z.at t.length) (d:=0) 2 Y #[G,hr,T.SI.c,Gc] ak [05] R (λe r b w=>en Gc (u,e) r b w) (F3 _) yw (by show 16*t.length+12<=fu+16;lia) λe v H t4 R=>?_;refine kP (Z:=Z.at t.length) Y (pv 1) [05] ft R λH R=>?_;refine hU (Z:=Z.at t.length) Y (u9 T) (aa (pv 1) (aa (pv 2) ag)) [05] R Gc λw H i R=>?_;have R:=(RS.back (Z:=Z) lL R).or (c:=b);obtain⟨S,k,f,l,w'⟩:=R;have fe:=f (i:=0) Gc;refine q (u,e) w H t4 #[S,k,λ{j y} z=>?_,l,w'];cases j with
 |zero=>cases z;exact#[v,i,fe]
 |succ j=>exact f (i:=j+1) z
theorem ma {t:Ff}(hk:GD.contains u=FS):Jn B ((.word u,xp)::t)=if B.contains u=FM then .ok (u,t) else FJ 3 ((.word u,xp)::t):=by
 unfold Jn;rw[cU,Fj (by rw[hk];exact Fd)]
theorem nh {t:Ff}(h:cQ x.1=FS):WA (x::t)=FJ 2 (x::t):=by
 obtain⟨x,xp⟩:=x;cases x with
 |word u=>
  have h:cQ (.word u)=FS:=h;rw[dF] at h;rw[cU,Fm (by cases e:GD.contains u;rw[e] at h;cases h;rfl)]
 |_=>rfl
theorem aiE (T:aW K mg a) (XC:XT K a):T.aac.O P w base 9 (DK a (λB p=> ∃Bs,Bk B.bl Bs/\p=Jn Bs) λu=> .str (sb u)):=by
 refine aiy T XC (FF _) T.aac.F ahs λGU A outer s0 H β B L H0 Ro F b t Kn p g Q E hr hp=>?_;intro X D Z Y R q;obtain⟨Bs,hB,rfl⟩:=hp;obtain⟨⟨x,xp⟩,r,rfl⟩:=R.cons;refine bD (p_g Y R (kH Bs).bind (λ_ e=>(aV (q:=FJ 2) ?_).trans Gc) λnb e=>?_)
 .unfold Jn
  rw[nh e]
  rfl
 obtain⟨u,rfl,hu⟩:=gD e;have ek:=ma (xp:=xp) (t:=r) (B:=Bs) hu;refine bH (abD Y R hB (aO (λh=>?_) λh=>?_))
 .rw[VN] at h
  rw[h,Fj Fd] at ek;exact bD (qO Y (aT (by rfl) T.Qu) R nb ((aV (q:=FJ 3) ek).trans Gc))
 .rw[PJ] at h
  rw[h,Fm Gc] at ek;exact aM (iI Y (R.as (p':=GF>>=λ_=>g u) (bK ek)) YU λH R=>q u H r R)
theorem zP:cV "let" (Fc "let"):=[007]
theorem xB:cV "zone" (Fc "zone"):=[007]
theorem vx:cV "quarter" (Fc "quarter"):=[007]
theorem sE:cV "price" (Fc "price"):=[007]
theorem YZ:cV "to" (Fc "to"):=[007]
theorem uc:cV "block" (Fc "block"):=[007]
theorem sy:cV "under" (Fc "under"):=[007]
theorem sD:cV "group" (Fc "group"):=[007]
abbrev YL.at_ (bl:YL) (c:E9 (a8×V)):YL:=#[bl.p,c,bl.x]
abbrev Rb.bk (B:Rb) (c:E9 (a8×V)):Rb:= { B with bl:=B.bl.at_ c }
abbrev CU:=Hb×Fl×HX
inductive nX (a:bf) (av:FC->E9 V) (ok:FC->Ff->Prop) (vs:E9 V) (H:Hp) (Q:VK) (E:XK):Prop
 |mk {β:Type}(B:Rb) (L:FC) (H0:Hp) (Ro:β->Ff->Prop) (F:E9 (Fk×V)) (b:Gu) (t:Ff) (Kn:Fl) (Bs:HX) (d f:FC) (g:CU->Fv β) (_:vs= .ref B.r::av d) (_:d<=6) (_:ok d t) (_:16*t.length+14<=f) (_:Bk B.bl Bs) (_:B.bl.c.length+t.length<=4000) (_:Eg ⟨a,E,B,L,H0,Ro⟩ g) (_:RS ⟨a,E,B,L,H0,Ro⟩ F b H t Kn (K8 f (6-d) Kn Bs>>=g))
  (_: ∀s v H' t' c',EA Kn s.1 s.2.1->Bk (B.bl.at_ c') s.2.2->c'.length+t'.length<=4000->RS #[a,E,B.bk c',L,H0,Ro] ((.st s.1,v)::F) FM H' t' s.2.1 (g s)->Q v H'):nX a av ok vs H Q E
section
variable {k:FC}{x He:FR}{st:Stmt}{f:Fi}{fd:Gs}{N ps:E9 FR}{av:FC->E9 V}{ok:FC->Ff->Prop}
theorem yX (T:aW K mg a) (XC:XT K a) (hk:8<=k) (F:oX K x He st f fd) (S:az N ("reader"::ps) (af st)) (hl: ∀d,(av d).length=ps.length)
  (JG: ∀(GU:Fh) (A:GV) (outer:E9 Env) (s:Fn) (H:Hp) {β:Type}(B:Rb) (L:FC) (H0:Hp) (Ro:β->Ff->Prop) (F:E9 (Fk×V)) (b:Gu) (t:Ff) (Kn:Fl) (Bs:HX) (d fu:FC) (g:CU->Fv β) (Q:VK) (E:XK),bZ k (A.deeper (JJ He (af st) s.heap.objs.size f GU))->d<=6->ok d t->16*t.length+14<=fu->Bk B.bl Bs->B.bl.c.length+t.length<=4000->
   let X:=e8 (fY P w) P w K mg base N He (af st) f GU A outer s H E
   let D:eA:= { nx:=λ_ H'=>Q .IJ H',rt:=Q }
   let Z:Zf β:=#[a,E,B,L,H0,Ro]
   Eg Z g->RX X a E->RS Z F b H t Kn (K8 fu (6-d) Kn Bs>>=g)->(∀s v H' t' c',EA Kn s.1 s.2.1->Bk (B.bl.at_ c') s.2.2->c'.length+t'.length<=4000->RS #[a,E,B.bk c',L,H0,Ro] ((.st s.1,v)::F) FM H' t' s.2.1 (g s)->Q v H')->Bd X (be st) D (L2.start N (.ref B.r::av d)) H):bU P w K mg base (fY P w) (k+1) f fd ("reader"::ps) (nX a av ok):=by
 refine fP F S (λvs H Q E h=>?_) [02]
 .obtain⟨B,L,H0,Ro,F,b,t,Kn,Bs,d,fu,g,rfl,_⟩:=h
  exact Gq RJ (hl d)
 .obtain⟨B,L,H0,Ro,F,b,t,Kn,Bs,d,fu,g,rfl,h1,h2,h3,h4,h5,h6,R,q⟩:=h
  exact JG GU A outer s H B L H0 Ro F b t Kn Bs d fu g Q E hr h1 h2 h3 h4 h5 h6 (jS T XC hk S hr) R q
end
section
variable {β:Type}{Z:Zf β}{H:Hp}
theorem i8 (i:FC) {g:Fs->Fv β}(Y:RX X Z.a Z.E) (c:CB X "read_part" ["reader","word"] (gv Z.a [.str v] (dy s) 12 FM FM .e)) (R:RS Z F FM H t Kn (dy s f Kn>>=g)) (hf:16*Z.L+12<=f+16) (en: ∀e,aK (g e)) (q: ∀e v H' t',RS Z ((.e e,v)::F) FM H' t' Kn (g e)->Bd X ss D ((Fa (.ref Z.B.r)::σ).set i (Fa v)) H')
  (h:Sl X i y:=by exact#[Gc,G9 Gc,Gc]):Bd X (.Assign [.Name y p0] (.Call (.Name "read_part" p1) [.Name "reader" p2, .Constant (.str v) j p3] [] p4) p5::ss) D (Fa (.ref Z.B.r)::σ) H:=by
 have l:t.length+1<=Z.L:=R.l;exact aN i Y.nd (wR Y c #[Z.B,Z.L,Z.H0,Z.Ro,F,FM,t,Kn,f,g,Gc,by lia,λ_=>Dz en,R,q]) h
theorem py (i:FC) {g:Ft Fs->Fv β}(Y:RX X Z.a Z.E) (c:CB X "read_part_if_there" ["reader","word"] (gv Z.a [.str v] (λf Kn=>Hn s (FT f HA Kn)) 12 FM FS .o)) (R:RS Z F FM H t Kn (Hn s (FT f HA Kn)>>=g)) (hf:16*Z.L+12<=f+16) (en: ∀e,aK (g e)) (q: ∀e v H' t',RS Z ((.o e,v)::F) FM H' t' Kn (g e)->Bd X ss D ((Fa (.ref Z.B.r)::σ).set i (Fa v)) H')
  (h:Sl X i y:=by exact#[Gc,G9 Gc,Gc]):Bd X (.Assign [.Name y p0] (.Call (.Name "read_part_if_there" p1) [.Name "reader" p2, .Constant (.str v) j p3] [] p4) p5::ss) D (Fa (.ref Z.B.r)::σ) H:=by
 have l:t.length+1<=Z.L:=R.l;exact aN i Y.nd (wR Y c #[Z.B,Z.L,Z.H0,Z.Ro,F,FM,t,Kn,f,g,Gc,by lia,λ_=>Dz en,R,q]) h
theorem oM (i:FC) {g:Fs->Fv β}(Y:RX X Z.a Z.E) (c:CB X "read_given" ["reader"] (gv Z.a [] dU 12 FS FM .e)) (R:RS Z F FM H t Kn (dU f Kn>>=g)) (hf:16*Z.L+12<=f+16) (q: ∀e v H' t',RS Z ((.e e,v)::F) FM H' t' Kn (g e)->Bd X ss D ((Fa (.ref Z.B.r)::σ).set i (Fa v)) H')
  (h:Sl X i y:=by exact#[Gc,G9 Gc,Gc]):Bd X (.Assign [.Name y p0] (.Call (.Name "read_given" p1) [.Name "reader" p2] [] p4) p5::ss) D (Fa (.ref Z.B.r)::σ) H:=by
 have l:t.length+1<=Z.L:=R.l;exact aN i Y.nd (eZ Y c #[Z.B,Z.L,Z.H0,Z.Ro,F,FM,t,Kn,f,g,Gc,by lia,(λz=>nomatch z),R,q]) h
theorem wH (i:FC) {g:Gu->Fv β}(Y:RX X Z.a Z.E) (R:RS Z F b H t Kn (IT>>=g)) (hr:bZ 9 X.A) (q: ∀e H' t',RS Z F FM H' t' Kn (g e)->Bd X ss D ((Fa (.ref Z.B.r)::σ).set i (Fa (jW e))) H')
  (h:Sl X i y:=by exact#[Gc,G9 Gc,Gc]) (hg:Gl X "read_side":=by rfl):Bd X (.Assign [.Name y p0] (.Call (.Name "read_side" p1) [.Name "reader" p2] [] p4) p5::ss) D (Fa (.ref Z.B.r)::σ) H:=
 aN i Y.nd (eZ Y #[aiC Y.T Y.C,hr,Y.T.aab.c,hg] #[Z.B,Z.L,Z.H0,Z.Ro,F,b,t,Kn,_,g,Gc,Gc,R,q]) h
end
section
variable {K:Fl}{β:Type}{g:CU->Fv β}
theorem abE (h:Fw t "let"=FM):(K8 (k+1) d K B>>=g) t=(GF>>=λ_=>GO K>>=λx=>dU k K>>=λe=>g (.bind x e,K.with x,B)) t:=by
 rw[aV (Cg h)];simp only[dU,bind_assoc,pure_bind]
theorem EK (h1:Fw t "let"=FS) (h2:Fw t "for"=FS) (h3:Fw t "if"=FS) (h4:Fw t "block"=FS):(K8 (k+1) d K B>>=g) t=(IT>>=λXz=>dy "zone" k K>>=λz=>dy "quarter" k K>>=λq=>dy "price" k K>>=λp=>Hn "to" (FT k HA K)>>=λtop=>dy "amount" k K>>=λa=>Ge ";">>=λ_=>g (.step Xz z q p top a,K,B)) t:=by
 rw[aV (zG h1 h2 h3 h4)];simp only[dy,bind_assoc,pure_bind]
end
theorem amo (T:aW K mg a) (XC:XT K a) (hk:8<=k) (G:T.X8.O P w base k (gv a [] dU 12 FS FM .e)):
  T.d_Z.O P w base (k+1) (nX a (λ_=>[]) λ_ t=>Fw t "let"=FM):=by
 refine yX T XC hk T.d_Z.F alA (λ_=>rfl) λGU A outer s H β B L H0 Ro F b t Kn Bs d fu g Q E hr hd ho hf hB hc=>?_;intro X D Z en Y R q;have lL:=R.lL;have hm:Kn.values.length+(Z.at t.length).L<=4000:=R.room;obtain⟨xp,r,rfl⟩:=e7 R (beq_iff_eq.mp ho);obtain⟨f,rfl⟩: ∃f,fu=f+1:=#[fu-1,by lia];have hF:16*(Z.at (((Hy (Fc "let"),xp)::r).length)).L+12<=f+16:=by show 16*((Hy (Fc "let"),xp)::r).length+12<=f+16;lia
 refine iS (Z:=Z.at _) Y zP (R.at.as (abE ho)) λH t R=>?_;refine i4 (Z:=Z.at _) 1 Y R λu H t ft R=>?_;refine oM (Z:=Z.at _) 2 Y #[G,hr,T.X8.c,Gc] R hF λe v H t R=>?_;refine gJ (Z:=Z.at _) Y (pv 1) [05] ft hm R λH R=>?_;refine hU (Z:=Z.at _) Y (abd T) (aa (pv 1) (aa (pv 2) ag)) [05] R Gc λw H i R=>?_;have l:t.length+1<=r.length+1:=R.l;have R:=RS.back (Z:=Z) lL R;refine q (.bind u e,Kn.with u,Bs) w H t B.bl.c ⟨rfl,ft⟩ hB (by rw[FA] at hc;lia) ((R.cut 1).and ?_);show a7 a (eQ B) H (.bind u e) w;unfold a7;exact#[v,i,R.f (i:=0) Gc]
theorem amq (T:aW K mg a) (XC:XT K a) (hk:9<=k)
  (G1: ∀ {v:FR}{s:String},cV v (Fc s)->T.Xi.O P w base k (gv a [.str v] (dy s) 12 FM FM .e))
  (G2:T.d_C.O P w base k (gv a [.str "to"] (λf Kn=>Hn "to" (FT f HA Kn)) 12 FM FS .o)):
  T.d_1.O P w base (k+1) (nX a (λ_=>[]) λ_ t=>Fw t "let"=FS/\Fw t "for"=FS/\Fw t "if"=FS/\Fw t "block"=FS):=by
 refine yX T XC (by lia) T.d_1.F alD (λ_=>rfl) λGU A outer s H β B L H0 Ro F b t Kn Bs d fu g Q E hr hd ho hf hB hc=>?_;intro X D Z en Y R q;have lL:=R.lL;obtain⟨n1,n2,n3,n4⟩:=ho;obtain⟨f,rfl⟩: ∃f,fu=f+1:=#[fu-1,by lia];have hF:16*(Z.at t.length).L+12<=f+16:=by show 16*t.length+12<=f+16;lia
 have cp: ∀ {v:FR}{s:String},cV v (Fc s)->CB X "read_part" ["reader","word"] (gv a [.str v] (dy s) 12 FM FM .e):=λl=>#[G1 l,hr,T.Xi.c,Gc]
 have ps: ∀ {γ:Type}{s:String}{f:FC}{h:Fs->Fv γ},aK (dy s f Kn>>=h):=(eS _).bind.bind;refine wH (Z:=Z.at t.length) 1 Y (R.at.as (EK n1 n2 n3 n4)) (hr.mono hk) λbu H t1 R=>?_
 refine i8 (Z:=Z.at t.length) 2 Y (cp xB) R hF (λ_=>ps) λe1 v1 H t2 R=>?_;refine i8 (Z:=Z.at t.length) 3 Y (cp vx) R hF (λ_=>ps) λe2 v2 H t3 R=>?_;refine i8 (Z:=Z.at t.length) 4 Y (cp sE) R hF (λ_=>(gc "to" _).strict λ_=>ps) λe3 v3 H t4 R=>?_;refine py (Z:=Z.at t.length) 5 Y #[G2,hr,T.d_C.c,Gc] R hF (λ_=>ps) λe4 v4 H t5 R=>?_;refine i8 (Z:=Z.at t.length) 6 Y (cp pI) R hF (λ_=>(bi ";").bind) λe5 v5 H t6 R=>?_;refine cJ (Z:=Z.at t.length) Y zW R λH t7 R=>?_;refine hU (Z:=Z.at t.length) Y (DS T) (aa (pv 1) (aa (pv 2) (aa (pv 3) (aa (pv 4) (aa (pv 5) (aa (pv 6) ag)))))) [05] R Gc λw H i R=>?_;have l:t7.length+1<=t.length:=R.l;have R:=RS.back (Z:=Z) lL R;refine q (.step bu e1 e2 e3 e4 e5,Kn,Bs) w H t7 B.bl.c Gc hB (by lia) ((R.cut 5).and ?_);show a7 a (eQ B) H (.step bu e1 e2 e3 e4 e5) w;unfold a7;exact#[v1,v2,v3,v4,v5,i,R.f (i:=4) Gc,R.f (i:=3) Gc,R.f (i:=2) Gc,R.f (i:=1) Gc,R.f (i:=0) Gc]
theorem Dh {B:HX}{t:Ff}(R9:GD.contains u=FS):JS B ((.word u,xp)::t)=if B.contains u=FM then FJ 4 ((.word u,xp)::t) else .ok (Fa u,t):=by
 have c: ¬(Fw ((.word u,xp)::t) "sell"=FM\/Fw ((.word u,xp)::t) "buy"=FM):=λz=>z.elim (λz=>by
  have:Hy u= .word (Fc "sell"):=beq_iff_eq.mp z;cases this;exact FH R9 [00]) λz=>by
  have:Hy u= .word (Fc "buy"):=beq_iff_eq.mp z;cases this;exact FH R9 [00]
 unfold JS;rw[Fj c];unfold Vs;rw[cU,Fj (by rw[R9];exact Fd)];dsimp only;by_cases h:B.contains u=FM
 .rw[Fm h,Fm h]
  rfl
 .rw[Fj h,Fj h]
theorem An {γ:Type}{B:HX}{t:Ff}(nb:x.1≠ .bad) (en:cQ x.1=FS) {g:Ft Fb->Gu->Fv γ} :(JS B>>=λm=>IT>>=λb=>g m b) (x::t)=(IT>>=λb=>g FB b) (x::t):=by
 by_cases c:Fw (x::t) "sell"=FM\/Fw (x::t) "buy"=FM
 .exact bK (by unfold JS;rw[Fm c])
 .have e:JS B (x::t)= .error (2,Ip (x::t)):=by
   unfold JS Vs;rw[Fj c,nh en];unfold FJ;rw[Fj (show¬FE (x::t)= .bad from nb)]
  have e2:IT (x::t)= .error (2,Ip (x::t)):=by
   rw[wo (t:=x::t) (by cases h:(FE (x::t) == Hy (Fc "sell"));rfl;exact FH (.inl h) c) (by cases h:(FE (x::t) == Hy (Fc "buy"));rfl;exact FH (.inr h) c)];unfold FJ;rw[Fj (show¬FE (x::t)= .bad from nb)]
  show FU _ _ (x::t)=FU _ _ (x::t)
  unfold FU;rw[e,e2]
  rfl
theorem fo.abF {a:bf}{H:Hp}{B:Rb}{t:Ff}{Kn:Fl}(S:fo a B H n t Kn):fo a (B.bk c) (aF H B.bl.p (.dK c)) n t Kn:=by
 obtain⟨dr,er⟩:=S.rd.ins;obtain⟨as,all,h1,h2,h3⟩:=S.rd.toks;obtain⟨kk,k1,k2,k3⟩:=S.kn.vals;obtain⟨ff,f1,f2⟩:=S.kn.funs;have hy:=S.S6;have e:=S.So;obtain⟨d1,d2,d3,d4,d5,d6⟩:=S.P4;have nr:B.r≠B.bl.p:=λw=>by rw[w,e] at er;cases er
 have nq:B.q≠B.bl.p:=λw=>by rw[w,e] at h1;cases h1
 refine#[#[#[dr,(by show aF H B.bl.p (.dK c) B.r=_;rw[ac nr];exact er)],as,all,(by show aF H B.bl.p (.dK c) B.q=_;rw[ac nq];exact h1),Paired.MU h2 λb x ⟨dx,ex⟩=>#[dx,?_],h3],S.wh,#[#[kk,(by show aF H B.bl.p (.dK c) B.kd=_;rw[ac d3];exact k1),k2,k3],#[ff,(by show aF H B.bl.p (.dK c) B.fn=_;rw[ac d5];exact f1),f2],S.kn.len,#[ff,(by show aF H B.bl.p (.dK c) B.fn=_;rw[ac d5];exact f1),S.kn.fl f1]],(by show aF H B.bl.p (.dK c) B.ds.p=_;rw[ac d6];exact hy),ae,S.P4,λb xs h=>?_]
 .rw[ac λw=>by rw[w,e] at ex;cases ex]
  exact ex
 .have e2:=S.fr b xs h
  rw[ac λw=>by rw[w,e] at e2;cases e2];exact e2
section
variable {β:Type}{Z:Zf β}{H:Hp}{Q:VK}{p:Fv β}
theorem uR (Y:RX X Z.a Z.E) (R:RS Z F b H t Kn p) (hb:FE t= .bad->QE Z.a Z.B Z.H0 Z.E 1 (Ip t)) (no:FE t≠ .bad->lY v (FE t)=FS->Q (.bl FS) H)
  (yes: ∀ {x:GH×Gx}{r:Ff},t=x::r->lY v x.1=FM->x.1≠ .bad-> ¬jy x/\ ∃p',p (x::r)=(GF>>=λ_=>p') (x::r)/\ ∀H',RS Z F FM H' r Kn p'->Q (.bl FM) H') (hp:ip p2 p4:=by rfl):
  Pe X (.Call (.Attribute [005] "skips" p2) [.Constant (.str v) j p3] [] p4) (Fa (.ref Z.B.r)::σ) H Q:=by
 rw[00];obtain⟨x,t',rfl,tok,Q0,MT,_⟩:=S.wh.first;refine Y.m1 Y.T.Z3.c (Bt Y.T Y.C) [01] Y.up S Gc (Yp #[Z.B.r,Z.B.q,Z.B.kd,Z.B.fn,Z.B.ds,Z.B.bl,n,x,t',v,Gc,S.rd,λb=>hb (Q0.trans b) H R.k,no,λnb e H' hp=>?_]) hp Gc;obtain⟨nf,p',e',q⟩:=yes Gc e nb;exact q H' ((R.as e').past S nf hp (R.as e').w)
theorem wI (Y:RX X Z.a Z.E) (R:RS Z F b H t Kn p) (hf: ∀n,(qY Z.B.q Z.B.kd Z.B.fn Z.B.ds.p Z.B.bl.p n).lookup fld=Fa (.ref gd)) (na:ao X.K Z.a.GA fld) (hg:H gd=Fa (.dK gg)) (st:aK p) (h2:FE t≠ .bad->cQ (FE t)=FS->p t=FJ 2 t) (h4: ∀u,FE t= .word u->GD.contains u=FS->has gg u=FM->p t=FJ 4 t)
  (q: ∀u xp r,t=(.word u,xp)::r->GD.contains u=FS->has gg u=FS-> ∃p',p ((.word u,xp)::r)=(GF>>=λ_=>p') ((.word u,xp)::r)/\ ∀H',RS Z F FM H' r Kn p'->Q (.str (sb u)) H') (hp:ip p2 p4:=by rfl):
  Pe X (.Call (.Attribute [005] "take_name_not_in" p2) [.Attribute (.Name "reader" p3) fld p6] [] p4) (Fa (.ref Z.B.r)::σ) H Q:=by
 rw[00];obtain⟨dr,er⟩:=S.rd.ins;obtain⟨⟨x,xp⟩,t',rfl,tok,Q0,MT,_⟩:=S.wh.first;refine Y.m1 Y.T.Z5.c (jf Y.T Y.C) [01] Y.up S Gc #[_,ah Y.rd Gc,Z.B.r,_,dr,_,_,Gc,er,Y.T.F9,na,hf n,Z.B.r,Z.B.q,Z.B.kd,Z.B.fn,Z.B.ds,Z.B.bl,gd,n,(x,xp),t',gg,Gc,S.rd,hg,λb=>st.LK (Q0.trans b) R.w H R.k,λnb e=>fF (h2 nb e) nb R.w H R.k,λu ex e hu=>?_,λu ex e hu H' hp=>?_] hp Gc
 .obtain⟨u',e1,e2⟩:=gD e
  obtain rfl:u=u':=by have:=ex.symm.trans e1;cases this;rfl
  exact fF (h4 u ex e2 hu) (by rw[show FE ((x,xp)::t')= .word u from ex];intro z;cases z) R.w H R.k
 .obtain⟨u',e1,e2⟩:=gD e
  obtain rfl:u=u':=by have:=ex.symm.trans e1;cases this;rfl
  obtain rfl:x= .word u:=ex;obtain⟨p',e',q⟩:=q u xp t' Gc e2 hu;exact q H' ((R.as e').past S YU hp (R.as e').w)
theorem RS.abF {a:bf}{E:XK}{B:Rb}{H0:Hp}{Ro:β->Ff->Prop}(R:RS #[a,E,B,L,H0,Ro] F b H t Kn p):RS #[a,E,B.bk c,L,H0,Ro] F b (aF H B.bl.p (.dK c)) t Kn p:=by
 rw[00];have k:db (eQ B) H (aF H B.bl.p (.dK c)):=eR (.inr (.inr (.inr (.inr (.inl Gc)))));exact#[#[n,S.abF],R.k.trans k,λe=>jh.HV k.two (R.f e),R.l,R.w]
end
section
variable {K:Fl}{β:Type}{g:CU->Fv β}
theorem BW (h1:Fw t "let"=FS) (h2:Fw t "for"=FS) (h3:Fw t "if"=FS) (h:Fw t "block"=FM):(K8 (k+1) d K B>>=g) t=(GF>>=λ_=>JS B>>=λm=>IT>>=λXz=>dy "zone" k K>>=λz=>dy "price" k K>>=λp=>jd k K>>=λx=>
  Hn "under" (Jn B)>>=λu=>Hn "group" (FT k HA K)>>=λgr=>Ge ";">>=λ_=>g (.block m Xz z p x.1 x.2 u gr,K,jO m B)) t:=by
 rw[aV (vD h1 h2 h3 h)];simp only[dy,jd,bind_assoc,pure_bind]
end
theorem amr (T:aW K mg a) (XC:XT K a) (hk:9<=k)
  (G1: ∀ {v:FR}{s:String},cV v (Fc s)->T.Xi.O P w base k (gv a [.str v] (dy s) 12 FM FM .e))
  (G2:T.d_C.O P w base k (gv a [.str "group"] (λf Kn=>Hn "group" (FT f HA Kn)) 12 FM FS .o))
  (G3:T.Xj.O P w base k (gv a [] jd 12 FM FM .am)):
  T.d_2.O P w base (k+1) (nX a (λ_=>[]) λ_ t=>Fw t "let"=FS/\Fw t "for"=FS/\Fw t "if"=FS/\Fw t "block"=FM):=by
 refine yX T XC (by lia) T.d_2.F alE (λ_=>rfl) λGU A outer s H β B L H0 Ro F b t Kn Bs d fu g Q E hr hd ho hf hB hc=>?_;intro X D Z en Y R q;have lL:=R.lL;have hm:Kn.values.length+(Z.at t.length).L<=4000:=R.room;obtain⟨n1,n2,n3,n4⟩:=ho;obtain⟨f,rfl⟩: ∃f,fu=f+1:=#[fu-1,by lia];have hF:16*(Z.at t.length).L+12<=f+16:=by show 16*t.length+12<=f+16;lia
 have cp: ∀ {v:FR}{s:String},cV v (Fc s)->CB X "read_part" ["reader","word"] (gv a [.str v] (dy s) 12 FM FM .e):=λl=>#[G1 l,hr,T.Xi.c,Gc]
 have ps: ∀ {γ:Type}{s:String}{f:FC}{h:Fs->Fv γ},aK (dy s f Kn>>=h):=(eS _).bind.bind;obtain⟨xp,r,e⟩:=e7 R (beq_iff_eq.mp n4)
 have R:=R.at.as (BW n1 n2 n3 n4);generalize hl:t.length=l at R lL hF hm hc hf;subst e;refine iS (Z:=Z.at l) Y uc R λH t R=>?_
 refine aN 1 Y.nd (mB ?_);refine gj (λσ' H'=> ∃(m:Ft Fb) (t:Ff),σ'=[Fa (.ref B.r),Fa (ic m),FB,FB,FB,FB,FB,FB]/\RS (Z.at l) F FM H' t Kn (IT>>=λXz=>dy "zone" f Kn>>=λz=>dy "price" f Kn>>=λp=>jd f Kn>>=λx=>
  Hn "under" (Jn Bs)>>=λu=>Hn "group" (FT f HA Kn)>>=λgr=>Ge ";">>=λ_=>g (.block m Xz z p x.1 x.2 u gr,Kn,jO m Bs))) ?_ ?_
 .rintro σ H ⟨m,t,rfl,R⟩
  refine wH (Z:=Z.at l) 2 Y R (hr.mono hk) λbu H t R=>?_;refine i8 (Z:=Z.at l) 3 Y (cp xB) R hF (λ_=>ps) λe1 v1 H t R=>?_;refine i8 (Z:=Z.at l) 4 Y (cp sE) R hF (λ_=>(eS _).bind.bind) λe2 v2 H t R=>?_;have l5:t.length+1<=l:=R.l;have en6: ∀x:Fb×Fs,aK (Hn "under" (Jn Bs)>>=λu=>Hn "group" (FT f HA Kn)>>=λgr=>Ge ";">>=λ_=>g (.block m bu e1 e2 x.1 x.2 u gr,Kn,jO m Bs)):=λ_=>(gc "under" _).strict λ_=>(gc "group" _).strict λ_=>(bi ";").bind;refine aN 5 Y.nd (eZ Y #[G3,hr,T.Xj.c,Gc] #[B,l,H0,Ro,_,FM,t,Kn,f,_,Gc,(by have:16*l+12<=f+16:=hF;lia),λ_=>Dz en6,R,λe3 v3 H t R=>?_]);have R:RS (Z.at l) _ FM H t Kn _:=R;refine aN 6 Y.nd (mB ?_);refine gj (λσ' H'=> ∃(un:Ft Fb) (t:Ff),σ'=[Fa (.ref B.r),Fa (ic m),Fa (jW bu),Fa v1,Fa v2,Fa v3,Fa (ic un),FB]/\RS (Z.at l) ((.am e3,v3)::(.e e2,v2)::(.e e1,v1)::F) FM H' t Kn (Hn "group" (FT f HA Kn)>>=λgr=>Ge ";">>=λ_=>g (.block m bu e1 e2 e3.1 e3.2 un gr,Kn,jO m Bs))) ?_ ?_
  .rintro σ H ⟨un,t,rfl,R⟩
   refine py (Z:=Z.at l) 7 Y #[G2,hr,T.d_C.c,Gc] R hF (λ_=>(bi ";").bind) λe4 v4 H t R=>?_;refine cJ (Z:=Z.at l) Y zW R λH t R=>?_;have l9:t.length+1<=l:=R.l;have R:=RS.back (Z:=Z) lL R;refine gj (λσ' H'=> ∃c',σ'=[Fa (.ref B.r),Fa (ic m),Fa (jW bu),Fa v1,Fa v2,Fa v3,Fa (ic un),Fa v4]/\Bk (B.bl.at_ c') (jO m Bs)/\c'.length+t.length<=4000/\RS #[a,E,B.bk c',L,H0,Ro] ((.o e4,v4)::(.am e3,v3)::(.e e2,v2)::(.e e1,v1)::F) FM H' t Kn (g (.block m bu e1 e2 e3.1 e3.2 un e4,Kn,jO m Bs))) ?_ ?_
   .rintro σ H ⟨c',rfl,hB',WI,R⟩
    refine hU (Z:=#[a,E,B.bk c',L,H0,Ro]) Y (AR T) (aa (pv 1) (aa (pv 2) (aa (pv 3) (aa (pv 4) (aa (pv 5) (aa (pv 6) (aa (pv 7) ag))))))) [05] R Gc λw H i R=>?_;refine q (.block m bu e1 e2 e3.1 e3.2 un e4,Kn,jO m Bs) w H t c' Gc hB' WI ((R.cut 4).and ?_);show a7 a (eQ B) H (.block m bu e1 e2 e3.1 e3.2 un e4) w;unfold a7;exact#[v1,v2,v3,v4,i,R.f (i:=3) Gc,R.f (i:=2) Gc,R.f (i:=1) Gc,R.f (i:=0) Gc]
   .refine#[_,fB (DW (pv 1)),_,Gc,?_]
    cases m with
    |none=>exact bN #[B.bl.c,Gc,hB,by lia,R]
    |some u=>
     rw[00];obtain⟨dr,er⟩:=S.rd.ins;refine cc (aR (g9 (dn hr) [08] (pv 1) sr Gc) #[B.r,_,dr,_,_,Gc,er,T.F9,T.JR,Gc,B.bl.p,_,Gc, .inl #[B.bl.c,nk u,S.So,Gc,Gp (show B.bl.c.length<=4000 by lia) [01],Gc],cf #[dz B.bl.c (nk u) (.bl FM),Gc,λv=>?_,?_,R.abF]])
     .show has (dz B.bl.c (nk u) (.bl FM)) v=(u::Bs).contains v
      rw[rl,GB,hB v]
      congr 1
      rw[Hd,Gg,beq_iff_eq]
     .have:=cH B.bl.c (nk u) (.bl FM)
      lia
  .refine dq (uR (Z:=Z.at l) Y R (λb=>(en6 e3).LK b R.w) (λnb e=>#[_,Gc,bN #[FB,t,Gc,R.as (bK (mQ ((b7 R.tok sy).symm.trans e)))]]) λ{x r} et e nb=>?_)
   subst et;have e:=(b7 R.tok sy).symm.trans e;obtain⟨x,xp⟩:=x;obtain rfl:x=_:=beq_iff_eq.mp e;refine#[YU,Jn Bs>>=λu=>Hn "group" (FT f HA Kn)>>=λgr=>Ge ";">>=λ_=>g (.block m bu e1 e2 e3.1 e3.2 (Fa u) gr,Kn,jO m Bs),?_,λH R=>#[_,Gc,cc (aN 6 Y.nd (eZ Y #[aiE T XC,hr.mono hk,T.aac.c,Gc] #[B,l,H0,Ro,_,FM,r,Kn,_,_,Gc,#[Bs,hB,Gc],R,λu H t R=>cf #[Fa u,t,Gc,R]]))]];rw[aV (pB e),bind_assoc];simp only[bind_assoc,pure_bind];exact bK (by unfold Hr;rw[Fm (show Fw ((.word (Fc "under"),xp)::r) "under"=FM from e)])
 .obtain⟨⟨x,xp⟩,r,rfl⟩:=R.cons
  refine dq (YQ (Z:=Z.at l) Y T.d_X.c (mL T XC) [01] (λ_=>rfl) R (gN Bs).bind λnb=>#[_,Gc,aO (λe=>?_) λe=>?_])
  .obtain⟨u,rfl,hu⟩:=gD e
   have em:=Dh (B:=Bs) (xp:=xp) (t:=r) hu;rw[00];refine aN 1 Y.nd (wI (Z:=Z.at l) Y R (λ_=>rfl) T.JR S.So (gN Bs).bind (λ_ z=>FH e (by rw[z];exact Fd)) (λu' e1 _ hu'=>?_) λu' xp' r' e1 _ hu'=>?_)
   .cases e1
    rw[Fm ((hB u).symm.trans hu')] at em;exact(aV (q:=FJ 4) em).trans Gc
   .cases e1
    have hx:Bs.contains u=FS:=(hB u).symm.trans hu';rw[hx,Fj Fd] at em;exact#[_,(bK em).trans Gc,λH R=>cf #[Fa u,r,Gc,R]]
  .exact#[FB,_,Gc,R.as (An nb e)]
structure qh (K:Fe) (a:bf):Prop where
 t1:yn K a.LQ
 t2:yn K a.Nr
 t3:yn K a.QA
 t4:yn K a.KY
 t5:yn K a.JF
 k1:HK K (.ref a.LQ) (.ref a.LQ)=Fa FM
 k2:HK K (.ref a.Nr) (.ref a.LQ)=Fa FS
 k3:HK K (.ref a.QA) (.ref a.LQ)=Fa FS
 k4:HK K (.ref a.KY) (.ref a.LQ)=Fa FS
 k5:HK K (.ref a.JF) (.ref a.LQ)=Fa FS
theorem qh.of {K:Fe}{a:bf}{M:Fi->Prop}{H:Hp}(I:qh K a) (h:a7 a M H s v): ∃C,jI K H v (.ref C)/\HK K (.ref C) (.ref a.LQ)=Fa (lT s).isSome:=by
 cases s with
 |bind x e=>
  unfold a7 at h;obtain⟨u,⟨p,dx,rfl,m,z⟩,_⟩:=h;exact#[_,I.t1.of z,I.k1]
 |loop x lo hi l=>
  unfold a7 at h;obtain⟨u1,u2,q,us,⟨p,dx,rfl,m,z⟩,_⟩:=h;exact#[_,I.t2.of z,I.k2]
 |cond c x y=>
  unfold a7 at h;obtain⟨u,q,us,g,ws,⟨p,dx,rfl,m,z⟩,_⟩:=h;exact#[_,I.t3.of z,I.k3]
 |step b z qu p top am=>
  unfold a7 at h;obtain⟨u1,u2,u3,u4,u5,⟨p,dx,rfl,m,z⟩,_⟩:=h;exact#[_,I.t4.of z,I.k4]
 |block nm b z p x am un g=>
  unfold a7 at h;obtain⟨u1,u2,u3,u4,⟨p,dx,rfl,m,z⟩,_⟩:=h;exact#[_,I.t5.of z,I.k5]
theorem fo.XB {a:bf}{H:Hp}{t:Ff}{K1 K2:Fl}(S:fo a B H n t K1) (hc:K1.values.contains u=FM) (hf:K2.funs=K1.funs) (hl:K2.values.length+1=K1.values.length)
  (hv: ∀v,K2.values.contains v=(!decide (v=u)&&K1.values.contains v)) {kk:E9 (a8×V)}(e:H B.kd=Fa (.dK kk)):has kk u=FM/\fo a B (aF H B.kd (.dK (fD kk (nk u)))) n t K2:=by
 obtain⟨dr,er⟩:=S.rd.ins;obtain⟨as,all,h1,h2,h3⟩:=S.rd.toks;obtain⟨kk',k1,k2,k3⟩:=S.kn.vals;obtain⟨ff,f1,f2⟩:=S.kn.funs;have hy:=S.S6;have hz:=S.So;obtain rfl:kk'=kk:=by rw[e] at k1;cases k1;rfl
 obtain⟨d1,d2,d3,d4,d5,d6⟩:=S.P4;have nr:B.r≠B.kd:=λw=>by rw[w,e] at er;cases er
 have nq:B.q≠B.kd:=λw=>by rw[w,e] at h1;cases h1
 have hu:has kk' u=FM:=by rw[k3];exact hc
 have len:=S.kn.len;refine#[hu,#[#[dr,by rw[ac nr];exact er],as,all,by rw[ac nq];exact h1,Paired.MU h2 λb x ⟨dx,ex⟩=>#[dx,?_],h3],S.wh,#[#[_,ae,?_,λv=>?_],#[ff,by rw[ac d1.symm];exact f1,by rw[hf];exact f2],by lia,#[ff,by rw[ac d1.symm];exact f1,(by rw[hf];exact S.kn.fl f1)]],(by rw[ac d2.symm];exact hy),(by rw[ac d3.symm];exact hz),S.P4,λb xs h=>?_]
 .rw[ac λw=>by rw[w,e] at ex;cases ex]
  exact ex
 .have:(fD kk' (nk u)).length<kk'.length:=by
   unfold fD;refine VF (Oq _ _) λw=>?_;rw[P6] at w;unfold has bO at hu;rw[Ig,Np] at hu;obtain⟨p,hp,e1⟩:=hu;have:=w p hp;simp only[N5] at this e1;exact this e1
  lia
 .rw[so,k3,hv]
 .have e2:=S.fr b xs h
  rw[ac λw=>by rw[w,e] at e2;cases e2];exact e2
def zb (Kn:Fl) (ss:E9 Hb):Fl:=#[(jt ss).reverse++Kn.values,Kn.funs]
theorem rR {x:Fb}{rest V:E9 Fb}(h1:x∉rest) (h2:x∉V) (v:Fb):(rest.reverse++V).contains v=(!decide (v=x)&&((x::rest).reverse++V).contains v):=by
 by_cases e:v=x
 .subst e
  rw[GJ Gc];show _=FS;rw[VO];intro z;rcases FY.mp (Gn.mp z) with z|z
  .exact h1 (JX.mp z)
  .exact h2 z
 .rw[Gb e]
  show _=((x::rest).reverse++V).contains v
  rw[Hd,Gn,Gn,FY,FY,JX,JX,Fy];constructor
  .rintro(z|z)
   .exact .inl (.inr z)
   .exact .inr z
  .rintro((z|z)|z)
   .exact FH z e
   .exact .inl z
   .exact .inr z
inductive jZ (a:bf) (m:FC) (vs:E9 V) (H:Hp) (Q:VK) (E:XK):Prop
 |mk {β:Type}(B:Rb) (L:FC) (H0:Hp) (Ro:β->Ff->Prop) (F:E9 (Fk×V)) (b:Gu) (t:Ff) (Kn:Fl) (Bs:HX) (d f:FC) (g:Jd×HX->Fv β) (_:vs=[.ref B.r, .int d]) (_:d<=6) (_:7<=d+m) (_:16*t.length<=f) (_:Bk B.bl Bs) (_:B.bl.c.length+t.length<=4000) (_:RS ⟨a,E,B,L,H0,Ro⟩ F b H t Kn (Ge "{">>=λ_=>J6 f (6-d) Kn Bs>>=g))
  (_: ∀l v H' t' c',Bk (B.bl.at_ c') l.2->c'.length+t'.length<=4000->RS #[a,E,B.bk c',L,H0,Ro] ((.sts l.1,v)::F) FM H' t' Kn (g l)->Q v H'):jZ a m vs H Q E
abbrev pZ (a:bf) (m:FC) (ok:Ff->Prop):Sp:=nX a (λd=>[.int d]) λd t=>7<=d+m/\ok t
section
variable {k m:FC}{x He:FR}{st:Stmt}{f:Fi}{fd:Gs}{N:E9 FR}
theorem ams (T:aW K mg a) (XC:XT K a) (hk:8<=k) (F:oX K x He st f fd) (S:az N ["reader","depth"] (af st))
  (JG: ∀(GU:Fh) (A:GV) (outer:E9 Env) (s:Fn) (H:Hp) {β:Type}(B:Rb) (L:FC) (H0:Hp) (Ro:β->Ff->Prop) (F:E9 (Fk×V)) (b:Gu) (t:Ff) (Kn:Fl) (Bs:HX) (d fu:FC) (g:Jd×HX->Fv β) (Q:VK) (E:XK),bZ k (A.deeper (JJ He (af st) s.heap.objs.size f GU))->d<=6->7<=d+m->16*t.length<=fu->Bk B.bl Bs->B.bl.c.length+t.length<=4000->
   let X:=e8 (fY P w) P w K mg base N He (af st) f GU A outer s H E
   let D:eA:= { nx:=λ_ H'=>Q .IJ H',rt:=Q }
   let Z:Zf β:=#[a,E,B,L,H0,Ro]
   RX X a E->RS Z F b H t Kn (Ge "{">>=λ_=>J6 fu (6-d) Kn Bs>>=g)->(∀l v H' t' c',Bk (B.bl.at_ c') l.2->c'.length+t'.length<=4000->RS #[a,E,B.bk c',L,H0,Ro] ((.sts l.1,v)::F) FM H' t' Kn (g l)->Q v H')->Bd X (be st) D (L2.start N [.ref B.r, .int d]) H):bU P w K mg base (fY P w) (k+1) f fd ["reader","depth"] (jZ a m):=by
 refine fP F S [03] [02];obtain⟨B,L,H0,Ro,F,b,t,Kn,Bs,d,fu,g,rfl,h1,h2,h3,h4,h5,R,q⟩:=h;exact JG GU A outer s H B L H0 Ro F b t Kn Bs d fu g Q E hr h1 h2 h3 h4 h5 (jS T XC hk S hr) R q
end
abbrev fkS (ps:E9 (Hb×V)) (F:E9 (Fk×V)):E9 (Fk×V):=(ps.map λx=>(Fk.st x.1,x.2))++F
theorem tJ {a:bf}{M:Fi->Prop}{H:Hp}{F:E9 (Fk×V)}{l:Jd}{ws:E9 V}(hl:bE a M H l ws): ∀ {ps:E9 (Hb×V)},(∀ {i:FC}{x:Fk×V},(fkS ps F)[i]?=Fa x->jh a M H x)->bE a M H (AK (ps.map (·.1)).reverse l) ((ps.map (·.2)).reverse++ws)
 |[],_=>hl
 | (e,v)::ps,h=>by
  rw[FQ,FQ,GP,GP,tV,GG];refine tJ (l:= .cons e l) ?_ λ{i x} q=>h (i:=i+1) q;unfold bE;exact#[v,ws,Gc,h (i:=0) Gc,hl]
theorem abG {F:E9 (Fk×V)}{ps:E9 (Hb×V)}{i:FC}{y:V}(h:((ps.map λx:Hb×V=>x.2).reverse)[i]?=Fa y): ∃(s:Hb) (j:FC),((ps.map λx:Hb×V=>x.1).reverse)[i]?=Fa s/\(fkS ps F)[j]?=Fa (Fk.st s,y):=by
 have hi:i<ps.length:=by
  obtain⟨h,_⟩:=Gh.mp h;rw[GK,Fx] at h;exact h
 rw[TC (by rw[Fx];exact hi),Fx,Gw] at h;obtain⟨⟨s,v⟩,e,rfl⟩:=Gj.mp h;refine#[s,ps.length-1-i,?_,?_]
 .rw[TC (by rw[Fx];exact hi),Fx,Gw,e]
  rfl
 .rw[RA (by rw[Fx];lia),Gw,e]
  rfl
theorem gX.drop {Kn K1:Fl}{ss:E9 Hb}{x:Fb}(lo:gX Kn ss K1) (h:ss[i]?=Fa (.bind x e)):(zb Kn (ss.drop i)).values.contains x=FM/\(zb Kn (ss.drop (i+1))).values.length+1=(zb Kn (ss.drop i)).values.length/\ ∀v,(zb Kn (ss.drop (i+1))).values.contains v=(!decide (v=x)&&(zb Kn (ss.drop i)).values.contains v):=by
 have ed:ss.drop i= .bind x e::ss.drop (i+1):=by
  obtain⟨h,e⟩:=Gh.mp h;rw[<-e];exact Hs h
 have el:jt (Hb.bind x e::ss.drop (i+1))=x::jt (ss.drop (i+1)):=rfl
 have sub:(x::jt (ss.drop (i+1))).Sublist (jt ss):=by
  rw[<-el,<-ed];exact(VP i ss).filterMap lT
 have nin:=(Gk.mp (sub.nodup lo.nodup)).1
 have nV:=lo.free x (sub.subset (Fq ..));unfold zb;rw[ed,el];refine#[Gn.mpr (FY.mpr (.inl (JX.mpr (Fq ..)))),?_,rR nin nV];simp only[FL,GK,FA];lia
theorem Dg {Kn:Fl}{ss:E9 Hb}(h:ss[i]?=Fa s) (hl:lT s=FB):zb Kn (ss.drop i)=zb Kn (ss.drop (i+1)):=by
 have ed:ss.drop i=s::ss.drop (i+1):=by
  obtain⟨h,e⟩:=Gh.mp h;rw[<-e];exact Hs h
 rw[ed];unfold zb jt;rw[KL,hl]
theorem C6 {x:Fb}(hl:lT s=Fa x): ∃e1,s= .bind x e1:=by
 cases s with
 |bind y e1=>cases hl;exact#[e1,Gc]
 |loop _ _ _ _=>cases hl
 |cond _ _ _=>cases hl
 |step _ _ _ _ _ _=>cases hl
 |block _ _ _ _ _ _ _ _=>cases hl
inductive BrI {β:Type}(Z:Zf β) (Ls:Fi) (F:E9 (Fk×V)) (Kn:Fl) (d l:FC) (g:Jd×HX->Fv β) (σ0:L2.St) (m:FC) (σ:L2.St) (H:Hp):Prop
 |mk (ps:E9 (Hb×V)) (K1:Fl) (B1:HX) (c:E9 (a8×V)) (t:Ff) (f:FC) (_:m=t.length) (_:σ=σ0) (_:ps.length+t.length<l) (_:Bk (Z.B.bl.at_ c) B1) (_:c.length+t.length<=4000) (_:16*t.length+15<=f) (_:gX Kn (ps.map (·.1)).reverse K1)
  (_:RS (Zf.mo { Z with B:=Z.B.bk c } Ls (ps.map (·.2)).reverse) (fkS ps F) FM H t K1 (J6 f d K1 B1>>=λx=>g (AK (ps.map (·.1)).reverse x.1,x.2))):BrI Z Ls F Kn d l g σ0 m σ H
section
variable {β:Type}{Z:Zf β}{H:Hp}{p:Fv β}
theorem nA {e f:HH}{te:TE}(hL:H L=Fa (.lst us)) (he:PE X e te) (hv: ∀R:VK,R (.ref L) H->te σ H R) (q:Pe X f σ H λv H1=> ∃(Z:Zf β) (F':E9 (Fk×V)) (b':Gu) (t':Ff) (Xy:Fl) (p':Fv β),uy Z L/\us.length<F8/\RS (Z.mo L us) F' b' H1 t' Xy p'/\(∀H2,RS (Z.mo L (us++[v])) F' b' H2 t' Xy p'->Bd X ss D σ H2))
  (hb:IA e "append" X.env (eval e X.env)=eval e X.env:=by rfl) (Kq:FK [f] X.env=[(FS,eval f X.env)]:=by rfl) (hp:ip p2 p4:=by rfl):
  Bd X (.Expr (.Call (.Attribute e "append" p2) [f] [] p4) p5::ss) D σ H:=by
 refine iN he hv hL (q.mono λv H1 z=>?_) hb Kq hp;obtain⟨Z,F',b',t',Xy,p',N,h1,R',h2⟩:=z;exact#[us,R'.QI,h1,h2 _ (R'.push N)]
theorem mS {te:TE}(Y:RX X Z.a Z.E) (he:PE X e te) (hv: ∀Q:VK,Q (.str (sb u)) H->te (Fa (.ref Z.B.r)::σ) H Q) (R:RS Z F b H t K1 p) (hc:K1.values.contains u=FM) (hf:K2.funs=K1.funs) (hl:K2.values.length+1=K1.values.length) (hk: ∀v,K2.values.contains v=(!decide (v=u)&&K1.values.contains v))
  (q: ∀H',RS Z F b H' t K2 p->Bd X ss D (Fa (.ref Z.B.r)::σ) H') (hp:ip p2 p4:=by rfl) (Kq:FK [e] X.env=[[001]]:=by rfl):
  Bd X (.Expr (.Call (.Attribute [005] "forget" p2) [e] [] p4) p5::ss) D (Fa (.ref Z.B.r)::σ) H:=by
 rw[00];obtain⟨dr,er⟩:=S.rd.ins;obtain⟨kk,k1,k2,k3⟩:=S.kn.vals;obtain⟨hu,S'⟩:=S.XB hc hf hl hk k1;refine bD (Y.m1 Y.T.W6.c (pO Y.T) [01] aQ S Gc #[_,he,hv _ #[Z.B.r,dr,Z.B.q,Z.B.kd,Z.B.fn,Z.B.ds,Z.B.bl,n,u,kk,Gc,er,k1,hu,?_]] hp Kq);exact q _ (R.go S' (eR (.inr (.inl Gc))) R.l R.w)
end
theorem amt (T:aW K mg a) (XC:XT K a) (IL:qh K a) (hk:8<=k)
  (G:T.Xf.O P w base k (pZ a m λ_=>True)):
  T.WH.O P w base (k+1) (jZ a m):=by
 refine ams T XC hk T.WH.F ahl λGU A outer s H β B L H0 Ro F b t Kn Bs d fu g Q E hr hd hm hf hB hc=>?_;intro X D Z Y R q;have lL:=R.lL;have room:=R.room;refine cJ (Z:=Z.at t.length) Y aix R.at λH t1 R=>?_;have l1:t1.length+1<=t.length:=R.l;have R:=RS.back (Z:=Z) lL R;refine mx 2 Y R λLs H N R=>?_;refine fS Y.lv (BrI Z Ls F Kn (6-d) t.length g [Fa (.ref B.r),Fa (.int d),Fa (.ref Ls),FB]) _ #[[],Kn,Bs,B.bl.c,t1,fu,Gc,Gc,by show 0+t1.length<_;lia,hB,by lia,by lia,gX.nil,R] ?_;rintro mm σ H ⟨ps,K1,B1,c,t2,f,rfl,rfl,ul,hB1,hc1,hf1,lo,R⟩;obtain⟨f,rfl⟩: ∃f',f=f'+1:=#[f-1,by lia];have N': ∀ {c:E9 (a8×V)},uy { Z with B:=Z.B.bk c } Ls:=#[N.n0,N.nm,N.nx,N.nq];have len:((ps.map (·.2)).reverse:E9 V).length=ps.length:=by rw[GK,Fx]
 refine jn (dq (iF (Z:=Zf.mo { Z with B:=Z.B.bk c } Ls (ps.map (·.2)).reverse) Y R (kD _ _ _ _).bind λnb=>#[_,Gc,?_]));rw[cR R.tok YY];cases hs:(FE t2 == Jh (Fc "}")) with
 |false=>
  have R1:RS (Zf.mo { Z with B:=Z.B.bk c } Ls (ps.map (·.2)).reverse) (fkS ps F) FM H t2 K1 (K8 f (6-d) K1 B1>>=λs=>J6 f (6-d) s.2.1 s.2.2>>=λx=>g (AK (ps.map (·.1)).reverse (.cons s.1 x.1),x.2)):=by
   have:=R.asf (Av hs);simp only[bind_assoc,pure_bind] at this;exact this
  refine cc (nA (β:=β) R.QI (pv 2) [05] #[_,Y.call2 #[G,hr,T.Xf.c,Gc] (pv 1) [01] Gc,(B.bk c).more Ls (ps.map (·.2)).reverse,t2.length,H0,Ro,fkS ps F,FS,t2,K1,B1,d,f,_,Gc,hd,#[hm,Hl],by lia,hB1,hc1,Dz λs=>(kD f (6-d) s.2.1 s.2.2).bind,R1.at,λs v H' t' c' kn hB' WI R2=>?_]);have l2:t'.length+1<=t2.length:=R2.l;have R2:=RS.back (Z:=Zf.mo { Z with B:=Z.B.bk c' } Ls (ps.map λx:Hb×V=>x.2).reverse) (l:=t2.length) (by show t2.length<=L;have:t.length<=L:=lL;lia) R2;refine#[{ Z with B:=Z.B.bk c' },_,_,_,_,_,N',by rw[len];exact Gp (show ps.length<=4000 by lia) [01],R2,λH3 R3=>?_];refine gm #[_,l2,(s.1,v)::ps,s.2.1,s.2.2,c',t',f,Gc,Gc,(by rw[FA];lia),hB',WI,(by lia),?_,?_]
  .rw[FQ,GP]
   exact lo.snoc kn
  .rw[FQ,FQ,GP,GP]
   simp only[tV];exact R3
 |true=>
  obtain⟨xp,r,rfl⟩:=w6 R (beq_iff_eq.mp hs);refine bN (A8 (Z:=Zf.at (Zf.mo { Z with B:=Z.B.bk c } Ls (ps.map (·.2)).reverse) ((Jh (Fc "}"),xp)::r).length) Y YY (R.at.as (p':=GF>>=λ_=>g (AK (ps.map (·.1)).reverse .nil,B1)) (bK (zC hs))) λH t5 R=>?_);have l5:t5.length+1<=((Jh (Fc "}"),xp)::r).length:=R.l;have R:=RS.back (Z:=Zf.mo { Z with B:=Z.B.bk c } Ls (ps.map λx:Hb×V=>x.2).reverse) (by show((Jh (Fc "}"),xp)::r).length<=L;have:t.length<=L:=lL;lia) R;have eK:K1=zb Kn (ps.map (·.1)).reverse:=by
   obtain⟨v1,f1⟩:=K1;unfold zb;rw[<-lo.vals,<-lo.funs]
  rw[eK] at R;generalize hss:(ps.map (·.1)).reverse=ss at R lo;generalize hus:(ps.map (·.2)).reverse=us at R len;refine jK 3 Y.lv Y.nd (pv 2) [05] (λi σ H=> ∃v:Ft V,σ=[Fa (.ref B.r),Fa (.int d),Fa (.ref Ls),v]/\RS (Zf.mo { Z with B:=Z.B.bk c } Ls us) (fkS ps F) FM H t5 (zb Kn (ss.drop i)) (g (AK ss .nil,B1))) #[FB,Gc,R] (λ_ _ _ _ ⟨_,_,R⟩=>R.QI) ?_ ?_
  .rintro i y σ H hi ⟨v,rfl,R⟩
   rw[<-hus] at hi;obtain⟨s,j,hs,hj⟩:=abG (F:=F) hi;rw[hss] at hs;have sa:a7 a (eQ (Zf.mo { Z with B:=Z.B.bk c } Ls us).B) H s y:=R.f hj;obtain⟨C,ty,kit⟩:=IL.of sa;refine bH #[_,cZ (bw kZ (by rfl) T.Lh Sr (aa (pv 3) (aa (ig (by rfl) T.TU) ag))),_,_,_,_,Gc,ty,kit,_,Gc,?_];cases hl:lT s with
   |none=>
    rw[Dg hs hl] at R;exact bN (cf #[_,Gc,R])
   |some x=>
    obtain⟨e1,rfl⟩:=C6 hl;obtain⟨h1,h2,h3⟩:=lo.drop hs;unfold a7 at sa;obtain⟨ue,⟨p,dx,rfl,mp,zp⟩,_⟩:=sa;exact cc (mS (Z:=Zf.mo { Z with B:=Z.B.bk c } Ls us) Y (ah (pv 3) Gc) (λQ q=>#[p,_,dx,_,_,Gc,zp,T.RM,T.Oe,Gc,q]) (K2:=zb Kn (ss.drop (i+1))) R h1 Gc h2 h3 λH R=>cf (cf #[_,Gc,R]))
  .rintro σ H ⟨v,rfl,R⟩
   have eL:us.length=ss.length:=by rw[len,<-hss,GK,Fx]
   rw[eL,QF] at R;have R1:=R.less N';refine aM #[_,pv 2,q (AK ss .nil,B1) (.ref Ls) H t5 c hB1 (by lia) ?_];have R2:RS { Z with B:=Z.B.bk c } F FM H t5 Kn (g (AK ss .nil,B1)):=by
    have:=R1.cut ps.length;rw[show(fkS ps F).drop ps.length=F from E9.drop_left' (by rw[Fx])] at this;exact this
   refine R2.and #[us,#[Ls,Gc,N.nm,R.QI],?_];rw[<-hss,<-hus,<-Hc (E9.reverse (ps.map (·.2)))];exact tJ (F:=F) (by unfold bE;rfl) λe=>R1.f e
theorem Af:cV "for" (Fc "for"):=[007]
section
variable {K:Fl}{β:Type}{g:CU->Fv β}{a:Jd×HX}
theorem abH (h1:Fw t "let"=FS) (h:Fw t "for"=FM):(K8 (k+1) d K B>>=g) t=(Hw d>>=λn=>GF>>=λ_=>GO K>>=λx=>Hr "in">>=λ_=>FT k HA K>>=λlo=>Ge "..">>=λ_=>FT k HA K>>=λhi=>
  Ge "{">>=λ_=>J6 k n (K.with x) B>>=λl=>g (.loop x lo hi l.1,K,l.2)) t:=by
 rw[aV (Cn h1 h)];simp only[bind_assoc,pure_bind]
theorem aiF (h1:Fw t "let"=FS) (h2:Fw t "for"=FS) (h:Fw t "if"=FM):(K8 (k+1) d K B>>=g) t=(Hw d>>=λn=>GF>>=λ_=>FT k HA K>>=λc=>Ge "{">>=λ_=>J6 k n K B>>=λa=>lf k n K c a>>=g) t:=by
 rw[aV (EF h1 h2 h)];simp only[bind_assoc]
theorem wv (h:Fw t "else"=FS):(lf k n K c a>>=g) t=g (.cond c a.1 .nil,K,a.2) t:=by
 unfold lf;rw[bind_assoc];exact(bK (x:=FS) (r:=t) (by unfold XU;rw[Fj (by rw[h];exact Fd)])).trans Gc
theorem AO (h:Fw (x::r) "else"=FM):(lf k n K c a>>=g) (x::r)=(GF>>=λ_=>Ge "{">>=λ_=>J6 k n K a.2>>=λb=>g (.cond c a.1 b.1,K,b.2)) (x::r):=by
 unfold lf;rw[bind_assoc];refine(bK (x:=FM) (r:=r) (by unfold XU;rw[Fm h];rfl)).trans ?_;rw[Fm Gc];simp only[bind_assoc,pure_bind]
 rfl
end
theorem aiG (T:aW K mg a) (XC:XT K a) (hk:8<=k) (G:mK P w K mg base a k)
  (G2:T.WH.O P w base k (jZ a m)):
  T.Xg.O P w base (k+1) (pZ a (m+1) λt=>Fw t "let"=FS/\Fw t "for"=FM):=by
 refine yX T XC hk T.Xg.F aho (λ_=>rfl) λGU A outer s H β B L H0 Ro F b t Kn Bs d fu g Q E hr hd ho hf hB hc=>?_;intro X D Z en Y R q;have lL:=R.lL;have hm:Kn.values.length+(Z.at t.length).L<=4000:=R.room;obtain⟨dm,n1,n2⟩:=ho;obtain⟨xp,r,e⟩:=e7 R (beq_iff_eq.mp n2);obtain⟨f,rfl⟩: ∃f,fu=f+1:=#[fu-1,by lia];have c:CB X "read_exp" ["reader","depth"] (aZ a FM FT 12 (Lv 13)):=#[G,hr,T.SI.c,Gc];have hF:16*(Z.at t.length).L+12<=f+16:=by show 16*t.length+12<=f+16;lia
 have R:=R.at.as (abH n1 n2);generalize hl:t.length=l at R lL hF hm hc hf
 have nb:FE t≠ .bad:=by rw[e];intro z;cases z
 subst e;refine sM (Z:=Z.at l) 2 Y hd nb R λlt R=>?_;refine iS (Z:=Z.at l) Y Af R λH t R=>?_;refine i4 (Z:=Z.at l) 3 Y R λu H t ft R=>?_;refine kU (Z:=Z.at l) Y YR R λH t R=>?_;refine eD (Z:=Z.at l) (d:=0) 4 Y c ak [05] R (nE λ_=>(bi "..").bind) (F3 _) yw hF λe1 v1 H t R=>?_;refine cJ (Z:=Z.at l) Y YS R λH t R=>?_;refine eD (Z:=Z.at l) (d:=0) 5 Y c ak [05] R (nE λ_=>(bi "{").bind) (F3 _) yw hF λe2 v2 H t R=>?_;refine gJ (Z:=Z.at l) Y (pv 3) [05] ft hm R λH R=>?_;have l7:t.length+1<=l:=R.l;refine aN 6 Y.nd #[_,Y.call2 #[G2,hr,T.WH.c,Gc] (pv 2) [01] Gc,B,l,H0,Ro,_,_,t,Kn.with u,Bs,d+1,f,_,Gc,lt,by lia,by lia,hB,by lia,R,λx v3 H t c' hB' WI R=>?_];refine kP (Z:=#[a,E,B.bk c',l,H0,Ro]) Y (pv 3) [05] ft R λH R=>?_;refine hU (Z:=#[a,E,B.bk c',l,H0,Ro]) Y (abe T) (aa (pv 3) (aa (pv 4) (aa (pv 5) (aa (pv 6) ag)))) [05] R Gc λw H i R=>?_;have R:=RS.back (Z:=#[a,E,B.bk c',L,H0,Ro]) lL R;refine q (.loop u e1 e2 x.1,Kn,x.2) w H t c' Gc hB' WI ((R.cut 3).and ?_);obtain⟨us,la,sa⟩:on a (eQ B) H x.1 v3:=R.f (i:=0) Gc;show a7 a (eQ B) H (.loop u e1 e2 x.1) w;unfold a7;exact#[v1,v2,v3,us,i,R.f (i:=2) Gc,R.f (i:=1) Gc,la,sa]
theorem aiH (T:aW K mg a) (XC:XT K a) (hk:8<=k) (G:mK P w K mg base a k)
  (G2:T.WH.O P w base k (jZ a m)):
  T.Xh.O P w base (k+1) (pZ a (m+1) λt=>Fw t "let"=FS/\Fw t "for"=FS/\Fw t "if"=FM):=by
 refine yX T XC hk T.Xh.F ahp (λ_=>rfl) λGU A outer s H β B L H0 Ro F b t Kn Bs d fu g Q E hr hd ho hf hB hc=>?_;intro X D Z en Y R q;have lL:=R.lL;obtain⟨dm,n1,n2,n3⟩:=ho;obtain⟨xp,r,e⟩:=e7 R (beq_iff_eq.mp n3);obtain⟨f,rfl⟩: ∃f,fu=f+1:=#[fu-1,by lia];have c:CB X "read_exp" ["reader","depth"] (aZ a FM FT 12 (Lv 13)):=#[G,hr,T.SI.c,Gc];have hF:16*(Z.at t.length).L+12<=f+16:=by show 16*t.length+12<=f+16;lia
 have R:=R.at.as (aiF n1 n2 n3);generalize hl:t.length=l at R lL hF hc hf
 have nb:FE t≠ .bad:=by rw[e];intro z;cases z
 subst e;refine sM (Z:=Z.at l) 2 Y hd nb R λlt R=>?_;refine iS (Z:=Z.at l) Y xh R λH t R=>?_;refine eD (Z:=Z.at l) (d:=0) 3 Y c ak [05] R (nE λ_=>(bi "{").bind) (F3 _) yw hF λe1 v1 H t R=>?_;have l4:t.length+1<=l:=R.l;have cb:CB X "read_braces" ["reader","depth"] (jZ a m):=#[G2,hr,T.WH.c,Gc];refine aN 4 Y.nd #[_,Y.call2 cb (pv 2) [01] Gc,B,l,H0,Ro,_,_,t,Kn,Bs,d+1,f,_,Gc,lt,by lia,by lia,hB,by lia,R,λx v3 H t c3 hB3 hc3 R=>?_];refine mx (Z:=#[a,E,B.bk c3,l,H0,Ro]) 5 Y R λLs H N R=>?_;have R:=(R.less N).and (e:=(.sts .nil, .ref Ls)) #[[],#[Ls,Gc,N.nm,R.QI],by unfold bE;rfl];have l5:t.length+1<=l:=R.l;refine gj (λσ' H'=> ∃(y:Jd) (B5:HX) (v5:V) (c5:E9 (a8×V)) (t5:Ff),σ'=[Fa (.ref B.r),Fa (.int d),Fa (.int ((d+1:FC):Int)),Fa v1,Fa v3,Fa v5]/\Bk (B.bl.at_ c5) B5/\c5.length+t5.length<=4000/\RS #[a,E,B.bk c5,l,H0,Ro] ((.sts y,v5)::(.sts x.1,v3)::(.e e1,v1)::F) FM H' t5 Kn (g (.cond e1 x.1 y,Kn,B5))) ?_ ?_
 .rintro σ H ⟨y,B5,v5,c5,t5,rfl,hB5,hc5,R⟩
  refine hU (Z:=#[a,E,B.bk c5,l,H0,Ro]) Y (ahB T) (aa (pv 3) (aa (pv 4) (aa (pv 5) ag))) [05] R Gc λw H i R=>?_;have R:=RS.back (Z:=#[a,E,B.bk c5,L,H0,Ro]) lL R;refine q (.cond e1 x.1 y,Kn,B5) w H t5 c5 Gc hB5 hc5 ((R.cut 3).and ?_);obtain⟨us,la,sa⟩:on a (eQ B) H x.1 v3:=R.f (i:=1) Gc;obtain⟨us5,la5,sa5⟩:on a (eQ B) H y v5:=R.f (i:=0) Gc;show a7 a (eQ B) H (.cond e1 x.1 y) w;unfold a7;exact#[v1,v3,us,v5,us5,i,R.f (i:=2) Gc,la,sa,la5,sa5]
 .refine dq (uR (Z:=#[a,E,B.bk c3,l,H0,Ro]) Y R (λb=>en _ t b (R.as (wv (cq b "else"))).w) (λnb e=>#[_,Gc,bN #[.nil,x.2, .ref Ls,c3,t,Gc,hB3,hc3,R.as (wv ((b7 R.tok ra).symm.trans e))]]) λ{y r} et e nb=>?_)
  subst et;have e:=(b7 R.tok ra).symm.trans e;obtain⟨y,yp⟩:=y;obtain rfl:y=_:=beq_iff_eq.mp e;refine#[YU,_,AO e,λH R=>#[_,Gc,cc (aN 5 Y.nd #[_,Y.call2 cb (pv 2) [01] Gc,B.bk c3,l,H0,Ro,_,_,r,Kn,x.2,d+1,f,_,Gc,lt,by lia,by rw[FA] at l5;lia,hB3,by rw[FA] at hc3;show c3.length+_<=_;lia,R.cut 1,λy v5 H t c5 hB5 hc5 R=>cf #[y.1,y.2,v5,c5,t,Gc,hB5,hc5,R]])]]
abbrev abI (P:Ga) (w:GN) (K:Fe) (mg:FR->Ft Fh) (base:GY) (a:bf) (k:FC) (f:Fi) (fd:Gs) (ok:Ff->Prop):Prop:=bU P w K mg base (fY P w) k f fd ["reader"] (nX a (λ_=>[]) λ_ t=>ok t)
theorem aiI (T:aW K mg a) (XC:XT K a) (hk:8<=k)
  (G1:abI P w K mg base a k a.f_Z a.aeM λt=>Fw t "let"=FM)
  (G2:T.Xg.O P w base k (pZ a m λt=>Fw t "let"=FS/\Fw t "for"=FM))
  (G3:T.Xh.O P w base k (pZ a m λt=>Fw t "let"=FS/\Fw t "for"=FS/\Fw t "if"=FM))
  (G4:abI P w K mg base a k a.f_2 a.aeS λt=>Fw t "let"=FS/\Fw t "for"=FS/\Fw t "if"=FS/\Fw t "block"=FM)
  (G5:abI P w K mg base a k a.f_1 a.aeR λt=>Fw t "let"=FS/\Fw t "for"=FS/\Fw t "if"=FS/\Fw t "block"=FS):
  T.Xf.O P w base (k+1) (pZ a m λ_=>True):=by
 refine yX T XC hk T.Xf.F ahm (λ_=>rfl) λGU A outer s H β B L H0 Ro F b t Kn Bs d fu g Q E hr hd ho hf hB hc=>?_;intro X D Z en Y R q;have see: ∀ {ss:E9 Stmt}{A:E9 Stmt}{s:String}{v:FR}{j:FC}{p1 p2 p3 p4 p5:Pos}(lit:cV v (Fc s)) (hp:ip p2 p4),(Fw t s=FM->Bd X A (D.to X ss) [Fa (.ref B.r),Fa (.int d)] H)->(Fw t s=FS->Bd X ss D [Fa (.ref B.r),Fa (.int d)] H)->Bd X (.If (.Call (.Attribute [005] "sees" p2) [.Constant (.str v) j p3] [] p4) A [] p5::ss) D [Fa (.ref B.r),Fa (.int d)] H:=λlit hp yes no=>
  bH (dq (iF (Z:=Z) Y R (lG _ _ _ _).bind (λnb=>#[_,Gc,by rw[b7 R.tok lit];exact aO yes no]) hp))
 refine see zP Gc (λe1=>aM (eZ Y #[G1,hr,T.d_Z.c,Gc] #[B,L,H0,Ro,F,b,t,Kn,Bs,d,fu,g,Gc,hd,e1,hf,hB,hc,en,R,q])) λe1=>?_;refine see Af Gc (λe2=>aM #[_,Y.call2 #[G2,hr,T.Xg.c,Gc] (pv 1) [01] Gc,B,L,H0,Ro,F,b,t,Kn,Bs,d,fu,g,Gc,hd,#[ho.1,e1,e2],hf,hB,hc,en,R,q]) λe2=>?_;refine see xh Gc (λe3=>aM #[_,Y.call2 #[G3,hr,T.Xh.c,Gc] (pv 1) [01] Gc,B,L,H0,Ro,F,b,t,Kn,Bs,d,fu,g,Gc,hd,#[ho.1,e1,e2,e3],hf,hB,hc,en,R,q]) λe3=>?_;refine see uc Gc (λe4=>aM (eZ Y #[G4,hr,T.d_2.c,Gc] #[B,L,H0,Ro,F,b,t,Kn,Bs,d,fu,g,Gc,hd,#[e1,e2,e3,e4],hf,hB,hc,en,R,q])) λe4=>?_;exact aM (eZ Y #[G5,hr,T.d_1.c,Gc] #[B,L,H0,Ro,F,b,t,Kn,Bs,d,fu,g,Gc,hd,#[e1,e2,e3,e4],hf,hB,hc,en,R,q])
theorem tG {H:Hp}{Q:VK}{E:XK}(h:jZ a 0 vs H Q E):False:=by
 obtain⟨B,L,H0,Ro,F,b,t,Kn,Bs,d,f,g,e,hd,hm,_⟩:=h;lia
theorem yC (T:aW K mg a) (XC:XT K a) (IL:qh K a) (hk:8<=k) (G:mK P w K mg base a k): ∀m:FC,
  T.WH.O P w base (k+3+3*m) (jZ a m):=by
 intro m
 induction m with
 |zero=>exact fP T.WH.F ahl (λ_ _ _ _ h=>(tG h).elim) (λ_ _ _ _ _ _ _ _ _ h=>(tG h).elim)
 |succ m ih=>
  have Pa: ∀ {v:FR}{s:String},cV v (Fc s)->T.Xi.O P w base (k+2) (gv a [.str v] (dy s) 12 FM FM .e):=λl=>(abC l T XC hk G).mono (by lia)
  have Am:=aiD T XC hk G
  have Le:=amo T XC (by lia) (aiz T XC hk G)
  have St:=amq T XC (by lia) Pa (aiA YZ T XC (by lia) (abC YZ T XC hk G))
  have Bl:=amr T XC (by lia) Pa (aiA sD T XC (by lia) (abC sD T XC hk G)) (Am.mono (by lia))
  have Fo:=aiG T XC (by lia) (G.mono (by lia:k<=k+3+3*m)) ih
  have If_:=aiH T XC (by lia) (G.mono (by lia:k<=k+3+3*m)) ih
  have Sm:=aiI T XC (by lia) (Le.mono (by lia)) Fo If_ (Bl.mono (by lia)) (St.mono (by lia))
  have:=amt T XC IL (by lia) Sm;exact this.mono (by lia)
theorem r6:cV "const" (Fc "const"):=[007]
abbrev Rb.tp (B:Rb) (dc:E9 (a8×V)) (bp:Fi) (bc:E9 (a8×V)):Rb:= { B with ds:=#[B.ds.p,dc,B.ds.x],bl:=#[bp,bc,B.bl.x] }
def Dx (B:Rb) (H:Hp):Prop:= ∀b,eQ B b->H b=FB
inductive pf (a:bf) (ok:Ff->Prop) (vs:E9 V) (H:Hp) (Q:VK) (E:XK):Prop
 |mk {β:Type}(B:Rb) (L:FC) (H0:Hp) (Ro:β->Ff->Prop) (F:E9 (Fk×V)) (b:Gu) (t:Ff) (Kn:Fl) (nf:FC) (Ds:E9 Fb) (f:FC) (g:g8->Fv β) (_:vs=[.ref B.r]) (_:ok t) (_:16*t.length<=f) (_:Bk B.ds Ds) (_:B.ds.c.length+t.length<=4000) (_:Kn.funs.length+nf=9) (_:Dx B H0) (_:RS ⟨a,E,B,L,H0,Ro⟩ F b H t Kn (ij f Kn nf Ds>>=g))
  (_: ∀x v H' t' dc bp bc,(∀u,has dc u=x.2.2.2.contains u)->dc.length+t'.length<=4000->x.2.1.funs.length+x.2.2.1=9->Dx (B.tp dc bp bc) H0->RS #[a,E,B.tp dc bp bc,L,H0,Ro] ((.top x.1,v)::F) FM H' t' x.2.1 (g x)->Q v H'):pf a ok vs H Q E
inductive Eb (a:bf) (vs:E9 V) (H:Hp) (Q:VK) (E:XK):Prop
 |mk {β:Type}(B:Rb) (L:FC) (H0:Hp) (Ro:β->Ff->Prop) (F:E9 (Fk×V)) (b:Gu) (t:Ff) (Kn Kf:Fl) (Iw:Fb) (g:Fb->Fv β) (_:vs=[.ref B.r, .str (sb Iw)]) (_:cV (sb Iw) Iw) (_:GD.contains Iw=FS) (_: ∀u,Kf.taken u=(decide (u=Iw)||Kn.taken u)) (_:RS ⟨a,E,B,L,H0,Ro⟩ F b H t Kn (GO Kf>>=g))
  (_: ∀u H' t',Kn.values.contains u=FS->RS #[a,E,B,L,H0,Ro] F FM H' t' (Kn.with u) (g u)->Q (.str (sb u)) H'):Eb a vs H Q E
section
variable {k m:FC}{x He:FR}{st:Stmt}{f:Fi}{fd:Gs}{N:E9 FR}{ok:Ff->Prop}
theorem Ep (T:aW K mg a) (XC:XT K a) (hk:8<=k) (F:oX K x He st f fd) (S:az N ["reader"] (af st))
  (JG: ∀(GU:Fh) (A:GV) (outer:E9 Env) (s:Fn) (H:Hp) {β:Type}(B:Rb) (L:FC) (H0:Hp) (Ro:β->Ff->Prop) (F:E9 (Fk×V)) (b:Gu) (t:Ff) (Kn:Fl) (nf:FC) (Ds:E9 Fb) (fu:FC) (g:g8->Fv β) (Q:VK) (E:XK),bZ k (A.deeper (JJ He (af st) s.heap.objs.size f GU))->ok t->16*t.length<=fu->Bk B.ds Ds->B.ds.c.length+t.length<=4000->Kn.funs.length+nf=9->Dx B H0->
   let X:=e8 (fY P w) P w K mg base N He (af st) f GU A outer s H E
   let D:eA:= { nx:=λ_ H'=>Q .IJ H',rt:=Q }
   let Z:Zf β:=#[a,E,B,L,H0,Ro]
   RX X a E->RS Z F b H t Kn (ij fu Kn nf Ds>>=g)->(∀x v H' t' dc bp bc,(∀u,has dc u=x.2.2.2.contains u)->dc.length+t'.length<=4000->x.2.1.funs.length+x.2.2.1=9->Dx (B.tp dc bp bc) H0->RS #[a,E,B.tp dc bp bc,L,H0,Ro] ((.top x.1,v)::F) FM H' t' x.2.1 (g x)->Q v H')->Bd X (be st) D (L2.start N [.ref B.r]) H):bU P w K mg base (fY P w) (k+1) f fd ["reader"] (pf a ok):=by
 refine fP F S [03] [02];obtain⟨B,L,H0,Ro,F,b,t,Kn,nf,Ds,fu,g,rfl,h1,h2,h3,h4,h5,h6,R,q⟩:=h;exact JG GU A outer s H B L H0 Ro F b t Kn nf Ds fu g Q E hr h1 h2 h3 h4 h5 h6 (jS T XC hk S hr) R q
theorem amu (T:aW K mg a) (XC:XT K a) (hk:8<=k) (F:oX K x He st f fd) (S:az N ["reader","function"] (af st))
  (JG: ∀(GU:Fh) (A:GV) (outer:E9 Env) (s:Fn) (H:Hp) {β:Type}(B:Rb) (L:FC) (H0:Hp) (Ro:β->Ff->Prop) (F:E9 (Fk×V)) (b:Gu) (t:Ff) (Kn Kf:Fl) (Iw:Fb) (g:Fb->Fv β) (Q:VK) (E:XK),bZ k (A.deeper (JJ He (af st) s.heap.objs.size f GU))->cV (sb Iw) Iw->GD.contains Iw=FS->(∀u,Kf.taken u=(decide (u=Iw)||Kn.taken u))->
   let X:=e8 (fY P w) P w K mg base N He (af st) f GU A outer s H E
   let D:eA:= { nx:=λ_ H'=>Q .IJ H',rt:=Q }
   let Z:Zf β:=#[a,E,B,L,H0,Ro]
   RX X a E->RS Z F b H t Kn (GO Kf>>=g)->(∀u H' t',Kn.values.contains u=FS->RS #[a,E,B,L,H0,Ro] F FM H' t' (Kn.with u) (g u)->Q (.str (sb u)) H')->Bd X (be st) D (L2.start N [.ref B.r, .str (sb Iw)]) H):bU P w K mg base (fY P w) (k+1) f fd ["reader","function"] (Eb a):=by
 refine fP F S [03] [02];obtain⟨B,L,H0,Ro,F,b,t,Kn,Kf,Iw,g,rfl,h1,h2,h3,R,q⟩:=h;exact JG GU A outer s H B L H0 Ro F b t Kn Kf Iw g Q E hr h1 h2 h3 (jS T XC hk S hr) R q
end
section
variable {K:Fl}{β:Type}{g:g8->Fv β}
theorem tP (h:Fw t "const"=FM):(ij k K n D>>=g) t=(GF>>=λ_=>GO K>>=λx=>dU k K>>=λe=>g (.const x e,K.with x,n,D)) t:=by
 rw[aV (show ij k K n D t=(GF>>=λ_=>uN k K n D:Fv g8) t by unfold ij;rw[Fm h])];simp only[uN,dU,bind_assoc,pure_bind]
end
theorem aiJ (T:aW K mg a) (XC:XT K a) (hk:8<=k) (G:T.X8.O P w base k (gv a [] dU 12 FS FM .e)):
  T.Xc.O P w base (k+1) (pf a λt=>Fw t "const"=FM):=by
 refine Ep T XC hk T.Xc.F ahg λGU A outer s H β B L H0 Ro F b t Kn nf Ds fu g Q E hr ho hf hB hc hn hN=>?_;intro X D Z Y R q;have lL:=R.lL;have hm:Kn.values.length+(Z.at t.length).L<=4000:=R.room;obtain⟨xp,r,rfl⟩:=e7 R (beq_iff_eq.mp ho);have hF:16*(Z.at (((Hy (Fc "const"),xp)::r).length)).L+12<=fu+16:=by show 16*((Hy (Fc "const"),xp)::r).length+12<=fu+16;lia
 refine iS (Z:=Z.at _) Y r6 (R.at.as (tP ho)) λH t R=>?_;refine i4 (Z:=Z.at _) 1 Y R λu H t ft R=>?_;refine oM (Z:=Z.at _) 2 Y #[G,hr,T.X8.c,Gc] R hF λe v H t R=>?_;refine gJ (Z:=Z.at _) Y (pv 1) [05] ft hm R λH R=>?_;refine hU (Z:=Z.at _) Y (BI T) (aa (pv 1) (aa (pv 2) ag)) [05] R Gc λw H i R=>?_;have l:t.length+1<=r.length+1:=R.l;have R:=RS.back (Z:=Z) lL R;refine q (.const u e,Kn.with u,nf,Ds) w H t B.ds.c B.bl.p B.bl.c hB (by rw[FA] at hc;lia) hn hN ((R.cut 1).and ?_);exact#[v,i,R.f (i:=0) Gc]
theorem aiK (T:aW K mg a) (XC:XT K a):T.Z9.O P w base 9 (Eb a):=by
 refine amu T XC (k:=8) [01] T.Z9.F ahj λGU A outer s H β B L H0 Ro F b t Kn Kf Iw g Q E hr lit Vi hK=>?_;intro X D Z Y R q;have lL:=R.lL;have hm:Kn.values.length+(Z.at t.length).L<=4000:=R.room;refine bH (dq (mr (Z:=Z) Y R (pv 1) [05] (λbd=>(fN Kf).bind.LK bd R.w) λnb=>#[_,Gc,?_]));rw[b7 R.tok lit];refine aO (λe=>?_) λe=>?_
 .obtain⟨xp,r,rfl⟩:=e7 R (beq_iff_eq.mp e)
  refine bD (qO (Z:=Z) (i:=4) Y (aT (by rfl) T.OX) R nb ?_);rw[aV (q:=(FJ 4:Fv Fb)) (by rw[eI Vi,Fm (by rw[hK,GJ Gc];rfl)])]
  rfl
 .have en:GO Kf t=GO Kn t:=by
   obtain⟨⟨x,xp⟩,r,rfl⟩:=R.cons;cases x with
   |word u=>
    cases R9:GD.contains u with
    |true=>rw[iz R9,iz R9]
    |false=>
     have nf:decide (u=Iw)=FS:=Gb λz=>by
      have e:(Hy u == Hy Iw)=FS:=e;rw[z,G7] at e;cases e
     rw[eI R9,eI R9,hK,nf];rfl
   |num m=>rfl
   |sign s=>rfl
   |eof=>rfl
   |bad=>rfl
  refine i4 (Z:=Z.at t.length) 2 Y (R.at.asf en) λu H t ft R=>?_;refine gJ (Z:=Z.at _) Y (pv 2) [05] ft hm R λH R=>?_;exact aM (bB 2 (q u H t (jF ft) (RS.back (Z:=Z) lL R)))
def fH (f n:FC) (K:Fl):Fv (E9 Fb):=KO ",">>=λm=>(if m=FM then Ke f n K else(Ge ")">>=λ_=>pure []))
section
variable {K:Fl}{β:Type}{g:E9 Fb->Fv β}
theorem qd (hn:n≠0):(Ke (f+1) n K>>=g) t=(GO K>>=λx=>fH f (n-1) (K.with x)>>=λl=>g (x::l)) t:=by
 rw[aV (yD hn),bind_assoc];have e: ∀x,((KO ",">>=λm=>(if m=FM then(Ke f (n-1) (K.with x)>>=λl=>pure (x::l)) else(Ge ")">>=λ_=>pure [x])):Fv (E9 Fb))>>=g)=(fH f (n-1) (K.with x)>>=λl=>g (x::l)):=λx=>by
  unfold fH;rw[bind_assoc,bind_assoc]
  congr 1
  funext m
  cases m with
  |true=>rw[Fm Gc,Fm Gc,bind_assoc];simp only[pure_bind]
  |false=>rw[Fj Fd,Fj Fd,bind_assoc,bind_assoc];simp only[pure_bind]
 simp only[e]
theorem vq (no:Gf t ","=FS):(fH f n K>>=g) t=(Ge ")">>=λ_=>g []) t:=by
 unfold fH;rw[bind_assoc];refine(bK (x:=FS) (r:=t) (by unfold KO;rw[Fj (by rw[no];exact Fd)])).trans ?_;rw[Fj Fd,bind_assoc];simp only[pure_bind]
theorem t8 {x:GH×Gx}(yes:Gf (x::r) ","=FM):(fH f n K>>=g) (x::r)=(GF>>=λ_=>Ke f n K>>=g) (x::r):=by
 unfold fH;rw[bind_assoc];refine(bK (x:=FM) (r:=r) (by unfold KO;rw[Fm yes];rfl)).trans ?_;rw[Fm Gc]
 rfl
theorem mP (f n:FC) (K:Fl):aK (fH f n K):=(lE ",").strict λm=>by
 cases m with
 |true=>
  rw[Fm Gc];exact jr f n K
 |false=>
  rw[Fj Fd];exact(bi ")").bind
end
theorem nB {K:Fl}{f u:Fb} :(#[vs++f::K.values,K.funs]:Fl).taken u=(decide (u=f)||(⟨vs++K.values,K.funs⟩:Fl).taken u):=by
 unfold N6;rw[<-Gu.or_assoc]
 congr 1
 rw[Hd,Mt,Gg,Gn,Gn,FY,FY,Fy];constructor
 .rintro(h|h|h)
  .exact .inr (.inl h)
  .exact .inl h
  .exact .inr (.inr h)
 .rintro(h|h|h)
  .exact .inr (.inl h)
  .exact .inl h
  .exact .inr (.inr h)
theorem eU {α β:Type}{g:α->Fv β}(t:Ff):((FJ i:Fv α)>>=g) t=FJ i t:=rfl
section
variable {β:Type}{Z:Zf β}{H:Hp}{Q:VK}{p:Fv β}
theorem wA {e:HH}{i:FC}(Y:RX X Z.a Z.E) (he:PE X e (tC (.int i))) (R:RS Z F b H t Kn p) (h:p t=FJ i t) (hp:ip p2 p4:=by rfl) (Kq:FK [e] X.env=[[001]]:=by rfl):
  Pe X (.Call (.Attribute [005] "fail" p2) [e] [] p4) (Fa (.ref Z.B.r)::σ) H Q:=by
 rw[00];obtain⟨⟨x,xp⟩,t',rfl,tok,Q0,MT,_⟩:=S.wh.first;refine Y.m1 Y.T.V6.c (fE Y.T Y.C) [01] Y.up S Gc #[_,he,Z.B.r,Z.B.q,Z.B.kd,Z.B.fn,Z.B.ds,Z.B.bl,n,(x,xp),t',i,Gc,S.rd,?_] hp Kq;have w:=R.w;have w:=aic (p':=FJ i) h w;rw[abq] at w;exact w H R.k
end
inductive abJ (a:bf) (vs:E9 V) (H:Hp) (Q:VK) (E:XK):Prop
 |mk {β:Type}(B:Rb) (L:FC) (H0:Hp) (Ro:β->Ff->Prop) (F:E9 (Fk×V)) (b:Gu) (t:Ff) (Kn:Fl) (Iw:Fb) (f:FC) (g:E9 Fb->Fv β) (_:vs=[.ref B.r, .str (sb Iw)]) (_:cV (sb Iw) Iw) (_:GD.contains Iw=FS) (_:t.length<f) (_:RS ⟨a,E,B,L,H0,Ro⟩ F b H t Kn (Ke f 6 (Kn.with Iw)>>=g))
  (_: ∀ps v H' t',ps.length<=6->ps.Nodup->(∀x∈ps,x∉Kn.values)->RS #[a,E,B,L,H0,Ro] ((.ps ps,v)::F) FM H' t' #[ps.reverse++Kn.values,Kn.funs] (Ge ")">>=λ_=>g ps)->Q v H'):abJ a vs H Q E
inductive PsI {β:Type}(Z:Zf β) (Ls:Fi) (F:E9 (Fk×V)) (Kn:Fl) (Iw:Fb) (g:E9 Fb->Fv β) (σ0:L2.St) (m:FC) (σ:L2.St) (H:Hp):Prop
 |mk (ps:E9 Fb) (t:Ff) (f:FC) (_:m=t.length) (_:σ=σ0) (_:ps≠[]) (_:ps.length<=6) (_:ps.Nodup) (_: ∀x∈ps,x∉Kn.values) (_:t.length<f)
  (_:RS (Z.mo Ls (gF ps)) F FM H t #[ps.reverse++Kn.values,Kn.funs] (fH f (6-ps.length) #[ps.reverse++Iw::Kn.values,Kn.funs]>>=λl=>g (ps++l))):PsI Z Ls F Kn Iw g σ0 m σ H
section
variable {k m:FC}{x He:FR}{st:Stmt}{f:Fi}{fd:Gs}{N:E9 FR}
theorem amv (T:aW K mg a) (XC:XT K a) (hk:8<=k) (F:oX K x He st f fd) (S:az N ["reader","function"] (af st))
  (JG: ∀(GU:Fh) (A:GV) (outer:E9 Env) (s:Fn) (H:Hp) {β:Type}(B:Rb) (L:FC) (H0:Hp) (Ro:β->Ff->Prop) (F:E9 (Fk×V)) (b:Gu) (t:Ff) (Kn:Fl) (Iw:Fb) (fu:FC) (g:E9 Fb->Fv β) (Q:VK) (E:XK),bZ k (A.deeper (JJ He (af st) s.heap.objs.size f GU))->cV (sb Iw) Iw->GD.contains Iw=FS->t.length<fu->
   let X:=e8 (fY P w) P w K mg base N He (af st) f GU A outer s H E
   let D:eA:= { nx:=λ_ H'=>Q .IJ H',rt:=Q }
   let Z:Zf β:=#[a,E,B,L,H0,Ro]
   RX X a E->RS Z F b H t Kn (Ke fu 6 (Kn.with Iw)>>=g)->(∀ps v H' t',ps.length<=6->ps.Nodup->(∀x∈ps,x∉Kn.values)->RS ⟨a,E,B,L,H0,Ro⟩ ((.ps ps,v)::F) FM H' t' ⟨ps.reverse++Kn.values,Kn.funs⟩ (Ge ")">>=λ_=>g ps)->Q v H')->Bd X (be st) D (L2.start N [.ref B.r, .str (sb Iw)]) H):bU P w K mg base (fY P w) (k+1) f fd ["reader","function"] (abJ a):=by
 refine fP F S [03] [02];obtain⟨B,L,H0,Ro,F,b,t,Kn,Iw,fu,g,rfl,h1,h2,h3,R,q⟩:=h;exact JG GU A outer s H B L H0 Ro F b t Kn Iw fu g Q E hr h1 h2 h3 (jS T XC hk S hr) R q
theorem aiL (T:aW K mg a) (XC:XT K a):T.Z8.O P w base 10 (abJ a):=by
 refine amv T XC (k:=9) [01] T.Z8.F ahi λGU A outer s H β B L H0 Ro F b t Kn Iw fu g Q E hr lit Vi hf=>?_;intro X D Z Y R q;have lL:=R.lL;have one: ∀ {σ:L2.St}{H:Hp}{Q:VK}{p1 p2 p3 p4:Pos},Eb a [.ref B.r, .str (sb Iw)] H Q E->Pe X (.Call (.Name "read_parameter" p1) [.Name "reader" p2, .Name "function" p3] [] p4) (Fa (.ref B.r)::Fa (.str (sb Iw))::σ) H Q:=λh=>#[_,aG (aiK T XC) hr (by rfl) T.Z9.c Y.up (aa Y.rd (aa (pv 1) ag)),h]
 obtain⟨f,rfl⟩: ∃f,fu=f+1:=#[fu-1,by lia];refine aN 2 Y.nd (uW (aP (one #[B,t.length,H0,Ro,F,FS,t,Kn,Kn.with Iw,Iw,_,Gc,lit,Vi,λu=>nB (vs:=[]),R.at.as (qd [01]),λu H t1 fv R=>cF #[by show 1<=F8;decide,λLs hL=>?_]])));have l1:t1.length+1<=t.length:=R.l;have R:=RS.back (Z:=Z) lL R;have N:=R.nwl hL;have fr: ∀ {vs:E9 Fb}{u:Fb},vs.contains u=FS->u∉vs:=λh z=>by rw[Gn.mpr z] at h;cases h
 refine fS Y.lv (PsI Z Ls F Kn Iw g [Fa (.ref B.r),Fa (.str (sb Iw)),Fa (.ref Ls)]) _ #[[u],t1,f,Gc,Gc,E9.cons_ne_nil _ _,(by show 1<=6;decide),Gk.mpr #[HF,MV],λx hx=>by rw[FN.mp hx];exact fr fv,by lia,R.more hL] ?_;rintro mm σ H ⟨ps,t,f,rfl,rfl,pne,p6,pnd,pfr,hf1,R⟩;have lL:=R.lL;have sl:(gF ps).length=ps.length:=Fx ..;refine dq (uR (Z:=(Zf.mo Z Ls (gF ps)).at t.length) Y R.at (λb=>(mP _ _ _).bind.LK b R.w) (λnb e=>#[_,Gc,bN ?_]) λ{x r} et e nb=>?_)
 .have R:=R.as (vq ((cR R.tok wK).symm.trans e))
  rw[Hc] at R;exact aM (bB 2 (q ps (.ref Ls) H t p6 pnd pfr ((R.less N).and #[Ls,Gc,N.nm,R.QI])))
 .subst et
  have e:=(cR R.tok wK).symm.trans e;obtain⟨x,xp⟩:=x;obtain rfl:x=_:=beq_iff_eq.mp e;refine#[nfS,_,t8 e,λH R=>#[_,Gc,cc ?_]]
  have l5:r.length+1<=_:=R.l;obtain⟨f,rfl⟩: ∃f',f=f'+1:=#[f-1,by lia]
  have hLs:H Ls=Fa (.lst (gF ps)):=RS.QI (Z:=Z.at ((Jh (Fc ","),xp)::r).length) (L:=Ls) (us:=gF ps) R;refine bH (cO b9 (iA T.Kj hLs (pv 2) [05] #[_,aT (by rfl) T.Pz,Gc,_,Gc,?_]));rw[cj,sl];refine aO (λe=>?_) λe=>?_
  .have p6':ps.length=6:=by have:=F4 e;lia
   exact bD (wA (Z:=(Zf.mo Z Ls (gF ps)).at _) (i:=7) Y (aT (by rfl) T.QW) R ((aV (q:=(FJ 7:Fv (E9 Fb))) (uE (by lia))).trans (eU _)))
  .have p5:ps.length<6:=by have:=F6 e;lia
   refine nA (β:=β) hLs (pv 2) [05] (one #[B.more Ls (gF ps),_,H0,Ro,F,FM,r,_,_,Iw,_,Gc,lit,Vi,λu=>nB,R.as (qd (by lia)),λu H t5 fv R=>?_]);have l6:t5.length+1<=_:=R.l;have R:=RS.back (Z:=Zf.mo Z Ls (gF ps)) lL R;refine#[Z,_,_,_,_,_,N,Gp (show(gF ps).length<=6 by rw[sl];exact p6) [01],R,λH R=>?_];have ns:gF ps++[V.str (sb u)]=gF (ps++[u]):=by unfold gF;rw[Hk];rfl
   rw[ns] at R;have nu:=fr fv;have er: ∀(V:E9 Fb),(ps++[u]).reverse++V=u::(ps.reverse++V):=λV=>by rw[UU];rfl
   refine gm #[_,l6,ps++[u],t5,f,Gc,Gc,(λz=>by rw[S8] at z;exact nomatch z.2),by rw[FL,Jy];lia,?_,λx hx z=>?_,by lia,?_]
   .rw[Ln]
    refine#[pnd,Gk.mpr #[HF,MV],λx hx y hy z=>?_];rw[FN.mp hy] at z;exact nu (FY.mpr (.inl (JX.mpr (by rw[<-z];exact hx))))
   .rcases FY.mp hx with hx|hx
    .exact pfr x hx z
    .rw[FN.mp hx] at z
     exact nu (FY.mpr (.inr z))
   .rw[er,er,FL,Jy]
    have e2: ∀l,g (ps++[u]++l)=g (ps++u::l):=λl=>by rw[GG];rfl
    simp only[e2];exact R
end
theorem BN:cV "fun" (Fc "fun"):=[007]
theorem fo.Ue {a:bf}{H:Hp}{n:FC}{t:Ff}{K1 K2:Fl}(S:fo a B H n t K1) (hc: ∀u,K2.values.contains u=K1.values.contains u) (hl:K2.values.length=K1.values.length) (hf:K2.funs=K1.funs):fo a B H n t K2:=by
 obtain⟨kk,k1,k2,k3⟩:=S.kn.vals;obtain⟨ff,f1,f2⟩:=S.kn.funs;refine#[S.rd,S.wh,#[#[kk,k1,by rw[hl];exact k2,λu=>by rw[hc];exact k3 u],#[ff,f1,by rw[hf];exact f2],by rw[hl];exact S.kn.len,#[ff,f1,by rw[hf];exact S.kn.fl f1]],S.S6,S.So,S.P4,S.fr]
theorem Ax {aD:E9 (a8×V)}{j:a8}{v:V}(h:bO aD j=FB):(dz aD j v).length=aD.length+1:=by
 unfold dz;rw[Fj,FL]
 .rfl
 .intro z
  rw[LZ] at z;obtain⟨p,hp,e⟩:=z;have:(bO aD j).isSome=FM:=by
   unfold bO;rw[Ig,Np];exact#[p,hp,e]
  rw[h] at this;cases this
theorem fo.Ib {a:bf}{H:Hp}{B:Rb}{n:FC}{t:Ff}{Kn:Fl}{x:Fb}{c:FC}{ff:E9 (a8×V)}(S:fo a B H n t Kn) (hx:Kn.taken x=FS) (e:H B.fn=Fa (.dK ff)):
  fo a B (aF H B.fn (.dK (dz ff (nk x) (.int (c:FC))))) n t { Kn with funs:=(x,c)::Kn.funs } :=by
 obtain⟨dr,er⟩:=S.rd.ins;obtain⟨as,all,h1,h2,h3⟩:=S.rd.toks;obtain⟨kk,k1,k2,k3⟩:=S.kn.vals;obtain⟨ff',f1,f2⟩:=S.kn.funs;have hy:=S.S6;have hz:=S.So;have fl:=S.kn.fl e;obtain rfl:ff'=ff:=by rw[e] at f1;cases f1;rfl
 obtain⟨d1,d2,d3,d4,d5,d6⟩:=S.P4;have nr:B.r≠B.fn:=λw=>by rw[w,e] at er;cases er
 have nq:B.q≠B.fn:=λw=>by rw[w,e] at h1;cases h1
 unfold N6 at hx;rw[Mf] at hx;have none_:bO ff' (nk x)=FB:=by
  rw[f2];have:Kn.funs.find? (λf=>f.1 == x)=FB:=by
   rw[PH];intro y hy z;have:=hx.2;rw[VH] at this;exact this y hy z
  rw[this]
  rfl
 refine#[#[#[dr,by rw[ac nr];exact er],as,all,by rw[ac nq];exact h1,Paired.MU h2 λb x ⟨dx,ex⟩=>#[dx,?_],h3],S.wh,#[#[kk,by rw[ac d1];exact k1,k2,k3],#[_,ae,λu=>?_],S.kn.len,#[_,ae,?_]],(by rw[ac d4.symm];exact hy),(by rw[ac d5.symm];exact hz),S.P4,λb xs h=>?_]
 .rw[ac λw=>by rw[w,e] at ex;cases ex]
  exact ex
 .rw[gB,Hj]
  by_cases w:u=x
  .rw[Fm (by rw[w]),w,show((x,c).1 == x)=FM from G7 x]
   rfl
  .rw[Fj λz=>w (eu (JE z)),show((x,c).1 == u)=FS from beq_eq_false_iff_ne.mpr (IG w)]
   exact f2 u
 .rw[Ax none_,fl]
  rfl
 .have e2:=S.fr b xs h
  rw[ac λw=>by rw[w,e] at e2;cases e2];exact e2
theorem vr:gI X (.builtin "len") (λxs H Q=> ∃a aD,xs=[V.ref a]/\Dt X.prog X.w X.K a aD/\Q (.int aD.length) H):=by
 intro pins s σ H xs us Q I r h;obtain⟨a,aD,rfl,kd,q⟩:=h;obtain⟨u,rfl,ru⟩:=mT r;cases ru;obtain⟨vs,dd,rel⟩:=kd.at_;have z:=kd.len;refine call_len_dict kd.no (dd _ I.ND) (by rw[<-rel.length];rw[Ic] at z;lia) ?_;rw[<-rel.length];exact#[.int aD.length,H,I.tok _,#[_,Gc],q]
theorem b3.is {M:Fi->Prop}{H:Hp}(h:b3 M H us (.ref L)):H L=Fa (.lst us):=by
 obtain⟨p,e,_,h⟩:=h;cases e;exact h
section
variable {β:Type}{Z:Zf β}{H:Hp}{p:Fv β}
theorem RS.Ue (R:RS Z F b H t Kn p) (hc: ∀u,K2.values.contains u=Kn.values.contains u) (hl:K2.values.length=Kn.values.length) (hf:K2.funs=Kn.funs):RS Z F b H t K2 p:=by
 rw[00];exact R.go (S.Ue hc hl hf) db.refl R.l R.w
theorem RS.Ib (R:RS Z F b H t Kn p) (hx:Kn.taken x=FS) (e:H Z.B.fn=Fa (.dK ff)):RS Z F b (aF H Z.B.fn (.dK (dz ff (nk x) (.int (c:FC))))) t { Kn with funs:=(x,c)::Kn.funs } p:=by
 rw[00];exact R.go (S.Ib hx e) (eR (.inr (.inr (.inl Gc)))) R.l R.w
end
section
variable {K:Fl}{β:Type}{g:g8->Fv β}
def kj (k n:FC) (K:Fl) (D:E9 Fb) (g:g8->Fv β) (x:Fb) (ps:E9 Fb):Fv β:=dU k { K with values:=ps++K.values } >>=λe=>g (.func x ps e,{ K with funs:=(x,ps.length)::K.funs },n-1,D)
def lW (k n:FC) (K:Fl) (D:E9 Fb) (g:g8->Fv β) (x:Fb):Fv β:=KO ")">>=λm=>(if m=FM then Vbemac.give [] else Ke k 6 (K.with x))>>=λps=>kj k n K D g x ps
theorem Ao (h1:Fw t "const"=FS) (h2:Fw t "fun"=FM) (hn:n≠0):(ij k K n D>>=g) t=(GF>>=λ_=>GO K>>=λx=>Ge "(">>=λ_=>lW k n K D g x) t:=by
 rw[aV (show ij k K n D t=(GF>>=λ_=>abA k K n D:Fv g8) t by unfold ij;rw[Fj (by rw[h1];exact Fd),Fm h2,Fj hn])];unfold abA lW;simp only[kj,dU,bind_assoc,pure_bind]
 rfl
theorem wZ (h1:Fw t "const"=FS) (h2:Fw t "fun"=FM) (hn:n=0):(ij k K n D>>=g) t=FJ 7 t:=
 (aV (q:=(FJ 7:Fv g8)) (by unfold ij;rw[Fj (by rw[h1];exact Fd),Fm h2,Fm hn])).trans (eU t)
theorem qW:aK (kj k n K D g x ps):=(bi "=").bind.bind
theorem qy:aK (lW k n K D g x):=(lE ")").strict λm=>by
 cases m with
 |true=>rw[Fm Gc];exact qW
 |false=>rw[Fj Fd];exact(jr _ _ _).bind
theorem zR (h:Gf t ")"=FM):lW k n K D g x t=(Ge ")">>=λ_=>kj k n K D g x []) t:=by
 unfold lW;refine(bK (x:=FM) (r:=t.drop 1) (by unfold KO;rw[Fm h])).trans ?_;rw[Fm Gc];refine Eq.trans (b:=kj k n K D g x [] (t.drop 1)) Gc ?_;exact(bK (p:=Ge ")") (g:=λ_=>kj k n K D g x []) (x:=()) (r:=t.drop 1) (by unfold Ge;rw[Fm h])).symm
theorem xV (h:Gf t ")"=FS):lW k n K D g x t=(Ke k 6 (K.with x)>>=kj k n K D g x) t:=by
 unfold lW;refine(bK (x:=FS) (r:=t) (by unfold KO;rw[Fj (by rw[h];exact Fd)])).trans ?_;rw[Fj Fd]
end
theorem vQ {ps V:E9 Fb}{i:FC}{x:Fb}(h:ps[i]?=Fa x) (nd:ps.Nodup) (fr: ∀x∈ps,x∉V):(ps.drop i++V).contains x=FM/\(ps.drop (i+1)++V).length+1=(ps.drop i++V).length/\ ∀v,(ps.drop (i+1)++V).contains v=(!decide (v=x)&&(ps.drop i++V).contains v):=by
 have ed:ps.drop i=x::ps.drop (i+1):=by
  obtain⟨h,e⟩:=Gh.mp h;rw[<-e];exact Hs h
 have sub:(x::ps.drop (i+1)).Sublist ps:=by
  rw[<-ed];exact VP i ps
 have nin:=(Gk.mp (sub.nodup nd)).1
 have nV:=fr x (sub.subset (Fq ..));rw[ed];refine#[Gn.mpr (Fq ..),Gc,λz=>?_]
 rw[Ws,GB];by_cases e:z=x
 .subst e
  rw[GJ Gc];show _=FS;rw[VO];intro w;rcases FY.mp (Gn.mp w) with w|w
  .exact nin w
  .exact nV w
 .rw[Gb e,show(z == x)=FS from beq_eq_false_iff_ne.mpr e]
  rfl
theorem aiM (T:aW K mg a) (XC:XT K a) (kF:Dt P w K a.Hh dv) (hk:10<=k) (G:T.X8.O P w base k (gv a [] dU 12 FS FM .e)):
  T.Xd.O P w base (k+1) (pf a λt=>Fw t "const"=FS/\Fw t "fun"=FM):=by
 refine Ep T XC (by lia) T.Xd.F ahh λGU A outer s H β B L H0 Ro F b t Kn nf Ds fu g Q E hr ho hf hB hc hn hN=>?_;intro X D Z Y R q;have lL:=R.lL;obtain⟨n1,n2⟩:=ho;obtain⟨xp,r,ex⟩:=e7 R (beq_iff_eq.mp n2);have hF:16*(Z.at t.length).L+12<=fu+16:=by show 16*t.length+12<=fu+16;lia
 rw[00];obtain⟨dr,er⟩:=S.rd.ins;obtain⟨ff,f1,_⟩:=S.kn.funs;have fl:=S.kn.fl f1;refine bH #[_,a0 b9 (bw yP (by rfl) T.Kj HN (aa [08] ag)) (bW dX (bw vr (by rfl) T.Kj HN (aa (ig (by rfl) T.M6) ag)) (aT (by rfl) T.P2)) (aL _),B.r,_,dr,_,_,Gc,er,T.F9,T.IK,Gc,B.fn,ff,Gc,f1,a.Hh,dv,Gc,kF,_,_,Gc,Gc,Gc,_,Gc,?_];rw[cj];refine aO (λe=>?_) λe=>?_
 .have e:(ff.length:Int)=3+6:=F4 e
  exact bD (wA (Z:=Z) (i:=7) Y (aT (by rfl) T.QW) R (wZ n1 n2 (by lia)))
 have n0:nf≠0:=λz=>F6 e (by show(ff.length:Int)=3+6;lia)
 have R:=R.at.as (Ao n1 n2 n0);generalize hl:t.length=l at R lL hF hc hf;subst ex;refine iS (Z:=Z.at l) Y BN R λH t R=>?_
 refine tL (Z:=Z.at l) 1 Y R λu H t lit Vi ft R=>?_;refine cJ (Z:=Z.at l) Y zx R λH t R=>?_;refine mx (Z:=Z.at l) 2 Y R λLs H N R=>?_;have R:=(R.less N).and (e:=(.ps [], .ref Ls)) #[Ls,Gc,N.nm,R.QI];have l5:t.length+1<=l:=R.l;refine gj (λσ' H'=> ∃(ps:E9 Fb) (v:V) (t:Ff),σ'=[Fa (.ref B.r),Fa (.str (sb u)),Fa v,FB,FB]/\ps.length<=6/\ps.Nodup/\(∀x∈ps,x∉Kn.values)/\RS (Z.at l) ((.ps ps,v)::F) FM H' t #[ps.reverse++Kn.values,Kn.funs] (Ge ")">>=λ_=>kj fu nf Kn Ds g u ps)) ?_ ?_
 .rintro σ H ⟨ps,v,t,rfl,p6,pnd,pfr,R⟩
  refine cJ (Z:=Z.at l) Y uG R λH t R=>?_;have R:=R.Ue (K2:= { Kn with values:=ps++Kn.values }) (λv=>by
   rw[Hd,Gn,Gn,FY,FY,JX]) (by
   show(ps++Kn.values).length=(ps.reverse++Kn.values).length
   rw[FL,FL,GK]) Gc
  refine oM (Z:=Z.at l) 3 Y #[G,hr,T.X8.c,Gc] R hF λe v3 H t R=>?_;obtain⟨Lp,rfl,nLp,hLp⟩:b3 (eQ B) H (gF ps) v:=R.f (i:=1) Gc;refine jK 4 Y.lv Y.nd (pv 2) [05] (λi σ H=> ∃y:Ft V,σ=[Fa (.ref B.r),Fa (.str (sb u)),Fa (.ref Lp),Fa v3,y]/\RS (Z.at l) ((.e e,v3)::(.ps ps, .ref Lp)::F) FM H t { Kn with values:=ps.drop i++Kn.values } (g (.func u ps e,{ Kn with funs:=(u,ps.length)::Kn.funs },nf-1,Ds))) #[FB,Gc,R] (λ_ _ _ _ ⟨_,_,R⟩=>b3.is (R.f (i:=1) Gc)) ?_ ?_
  .rintro i y σ H hi ⟨y0,rfl,R⟩
   unfold gF at hi;rw[Gw] at hi;obtain⟨x,hx,rfl⟩:=Gj.mp hi;obtain⟨h1,h2,h3⟩:=vQ hx pnd pfr;exact mS (Z:=Z.at l) (K2:= { Kn with values:=ps.drop (i+1)++Kn.values }) Y (pv 4) [05] R h1 Gc h2 h3 λH R=>cf #[_,Gc,R]
  .rintro σ H ⟨y0,rfl,R⟩
   have sl:(gF ps).length=ps.length:=Fx ..;rw[sl,QF] at R
   have R:RS (Z.at l) _ FM H t Kn _:=R;rw[00];obtain⟨dr,er⟩:=S.rd.ins;obtain⟨gg,g1,_⟩:=S.kn.funs
   have gl:=S.kn.fl g1;refine aR (g9 (dn hr) [08] (pv 1) (bw bJ (by rfl) T.Kj HN (aa (pv 2) ag)) Gc) #[_,_,Gc, .inl (cB.of (b3.is (R.f (i:=1) Gc))),B.r,_,dr,_,_,Gc,er,T.F9,T.IK,Gc,B.fn,_,Gc, .inl #[gg,nk u,g1,Gc,Gp (show gg.length<=9 by lia) [01],Gc],?_]
   have R:=R.Ib (x:=u) (c:=(gF ps).length) ft g1;rw[sl] at R ⊢;refine hU (Z:=Z.at l) Y (abf T) (aa (pv 1) (aa (pv 2) (aa (pv 3) ag))) [05] R Gc λw H i R=>?_
   have l9:t.length+1<=l:=R.l
   have R:=RS.back (Z:=Z) lL R;refine q (.func u ps e,{ Kn with funs:=(u,ps.length)::Kn.funs },nf-1,Ds) w H t B.ds.c B.bl.p B.bl.c hB (by lia) (by show Kn.funs.length+1+(nf-1)=9;lia) hN ((R.cut 2).and ?_);exact#[.ref Lp,v3,i,R.f (i:=1) Gc,R.f (i:=0) Gc]
 .refine jn (dq (iF (Z:=Z.at l) Y R qy λnb=>#[_,Gc,?_]))
  rw[cR R.tok uG];cases hs:(FE t == Jh (Fc ")")) with
  |true=>exact bN #[[], .ref Ls,t,Gc,F3 _,MV,(λ_ z=>nomatch z),R.as (zR hs)]
  |false=>exact cc (aN 2 Y.nd #[_,aG (aiL T XC) (hr.mono hk) (by rfl) T.Z8.c Y.up (aa Y.rd (aa (pv 1) ag)),B,l,H0,Ro,F,FM,t,Kn,u,fu,_,Gc,lit,Vi,by lia,(R.as (xV hs)).cut 1,λps v H t p6 pnd pfr R=>cf #[ps,v,t,Gc,p6,pnd,pfr,R]])
theorem ER:cV "desk" (Fc "desk"):=[007]
theorem gH {α:Type}{o:Ft α}{x:α}(h1:o=FB) (h2:o=Fa x):False:=nomatch h1.symm.trans h2
theorem Y0 {b:Gu}(h:b=FS): ¬b=FM:=λz=>Fd (h.symm.trans z)
abbrev Rb.nb (B:Rb) (nb:Fi):Rb:= { B with bl:=#[nb,[],B.bl.x] }
abbrev Rb.dk (B:Rb) (c:E9 (a8×V)):Rb:= { B with ds:=#[B.ds.p,c,B.ds.x] }
theorem fo.abK {a:bf}{H:Hp}{B:Rb}{n:FC}{t:Ff}{Kn:Fl}{nb:Fi}(S:fo a B H n t Kn) (Vj:H nb=FB) {dr:Fi}(er:H B.r=Fa (.ins a.GA dr (qY B.q B.kd B.fn B.ds.p B.bl.p n))):
  fo a (B.nb nb) (aF (aF H nb (.dK [])) B.r (.ins a.GA dr (qY B.q B.kd B.fn B.ds.p nb n))) n t Kn/\db (eQ B) H (aF (aF H nb (.dK [])) B.r (.ins a.GA dr (qY B.q B.kd B.fn B.ds.p nb n))):=by
 obtain⟨as,all,h1,h2,h3⟩:=S.rd.toks;obtain⟨kk,k1,k2,k3⟩:=S.kn.vals;obtain⟨ff,f1,f2⟩:=S.kn.funs;have hy:=S.S6;obtain⟨d1,d2,d3,d4,d5,d6⟩:=S.P4;have old: ∀ {b:Fi}{o:HO},H b=Fa o->b≠B.r->aF (aF H nb (.dK [])) B.r (.ins a.GA dr (qY B.q B.kd B.fn B.ds.p nb n)) b=Fa o:=λe w=>by
  rw[ac w,ac (ai e Vj)];exact e
 have nir: ∀ {b:Fi}{o:HO},H b=Fa o->(∀C dx fs,o≠ .ins C dx fs)->b≠B.r:=λe no w=>by
  rw[w,er] at e;exact no _ _ _ (FG e).symm
 have nbr:nb≠B.r:=(ai er Vj).symm
 have amw: ∀ {b:Fi}{x:GH×Gx},fQ a.Jm H b x->b≠B.r:=λ{b x} ⟨dx,ex⟩ w=>by
  rw[w,er] at ex;have:=Gq (λo:HO=>match o with| .ins _ _ fs=>fs.length|_=>0) (FG ex)
  exact FH this (by show¬(6=4);decide)
 refine#[#[#[#[dr,ae],as,all,old h1 (nir h1 λ_ _ _ z=>nomatch z),Paired.MU h2 λb x h=>?_,h3],S.wh,#[#[kk,old k1 (nir k1 λ_ _ _ z=>nomatch z),k2,k3],#[ff,old f1 (nir f1 λ_ _ _ z=>nomatch z),f2],S.kn.len,#[ff,old f1 (nir f1 λ_ _ _ z=>nomatch z),S.kn.fl f1]],old hy (nir hy λ_ _ _ z=>nomatch z),by show aF (aF H nb (.dK [])) B.r _ nb=Fa (.dK []);rw[ac nbr];exact ae,#[d1,d2,ai k1 Vj,d4,ai f1 Vj,ai hy Vj],λb xs h=>?_],λb o e m=>old e λz=>m (.inl z)]
 .have w:=amw h
  obtain⟨dx,ex⟩:=h;exact#[dx,old ex w]
 .have e2:=S.fr b xs h
  exact old e2 (nir e2 λ_ _ _ z=>nomatch z)
theorem tE {q kd fn ds bl nb:Fi}{n:FC} :Ib "blocks" (.ref nb) (qY q kd fn ds bl n)=qY q kd fn ds nb n:=by
 unfold qY;simp only[Ib]
 rfl
theorem fo.putD {a:bf}{H:Hp}{B:Rb}{n:FC}{t:Ff}{Kn:Fl}(S:fo a B H n t Kn):fo a (B.dk c) (aF H B.ds.p (.dK c)) n t Kn:=by
 obtain⟨dr,er⟩:=S.rd.ins;obtain⟨as,all,h1,h2,h3⟩:=S.rd.toks;obtain⟨kk,k1,k2,k3⟩:=S.kn.vals;obtain⟨ff,f1,f2⟩:=S.kn.funs;have hy:=S.So;have e:=S.S6;obtain⟨d1,d2,d3,d4,d5,d6⟩:=S.P4;have nr:B.r≠B.ds.p:=λw=>by rw[w,e] at er;cases er
 have nq:B.q≠B.ds.p:=λw=>by rw[w,e] at h1;cases h1
 refine#[#[#[dr,(by show aF H B.ds.p (.dK c) B.r=_;rw[ac nr];exact er)],as,all,(by show aF H B.ds.p (.dK c) B.q=_;rw[ac nq];exact h1),Paired.MU h2 λb x ⟨dx,ex⟩=>#[dx,?_],h3],S.wh,#[#[kk,(by show aF H B.ds.p (.dK c) B.kd=_;rw[ac d2];exact k1),k2,k3],#[ff,(by show aF H B.ds.p (.dK c) B.fn=_;rw[ac d4];exact f1),f2],S.kn.len,#[ff,(by show aF H B.ds.p (.dK c) B.fn=_;rw[ac d4];exact f1),S.kn.fl f1]],ae,(by show aF H B.ds.p (.dK c) B.bl.p=_;rw[ac d6.symm];exact hy),S.P4,λb xs h=>?_]
 .rw[ac λw=>by rw[w,e] at ex;cases ex]
  exact ex
 .have e2:=S.fr b xs h
  rw[ac λw=>by rw[w,e] at e2;cases e2];exact e2
section
variable {β:Type}{H H0:Hp}{p:Fv β}{E:XK}{Ro:β->Ff->Prop}
theorem RS.putD (R:RS #[a,E,B,L,H0,Ro] F b H t Kn p):RS #[a,E,B.dk c,L,H0,Ro] F b (aF H B.ds.p (.dK c)) t Kn p:=by
 rw[00];have k:db (eQ B) H (aF H B.ds.p (.dK c)):=eR (.inr (.inr (.inr (.inl Gc))));exact#[#[n,S.putD],R.k.trans k,λe=>jh.HV k.two (R.f e),R.l,R.w]
theorem RS.abK {n:FC}{nb dr:Fi}(R:RS #[a,E,B,L,H0,Ro] F b H t Kn p) (hN:Dx B H0) (S:fo a B H n t Kn) (Vj:H nb=FB) (er:H B.r=Fa (.ins a.GA dr (qY B.q B.kd B.fn B.ds.p B.bl.p n))):
  Dx (B.nb nb) H0/\RS #[a,E,B.nb nb,L,H0,Ro] F b (aF (aF H nb (.dK [])) B.r (.ins a.GA dr (qY B.q B.kd B.fn B.ds.p nb n))) t Kn p:=by
 obtain⟨S',k⟩:=S.abK Vj er;have m: ∀ {b},eQ (B.nb nb) b->eQ B b\/b=nb:=λ{b} z=>by
  rcases z with z|z|z|z|z|z
  .exact .inl (.inl z)
  .exact .inl (.inr (.inl z))
  .exact .inl (.inr (.inr (.inl z)))
  .exact .inl (.inr (.inr (.inr (.inl z))))
  .exact .inr z
  .exact .inl (.inr (.inr (.inr (.inr (.inr z)))))
 have h0:H0 nb=FB:=by
  cases e:H0 nb with
  |none=>rfl
  |some o=>
   have:=R.k nb o e λz=>by rw[hN nb z] at e;cases e
   rw[Vj] at this;cases this
 have N':Dx (B.nb nb) H0:=λb z=>(m z).elim (hN b) λz=>by rw[z];exact h0
 refine#[N',#[n,S'],λb o e _=>?_,λe=>jh.HV (λb o e w=>#[λz=>(m z).elim w (λz=>gH (by rw[z];exact Vj) e),k b o e w]) (R.f e),R.l,R.w.mono (λ_ _ z=>z) λ_ _ z H' k'=>z H' λb o e _=>k' b o e λz=>gH (N' b z) e];have w: ¬eQ B b:=λz=>gH (hN b z) e
 exact k b o (R.k b o e w) w
end
section
variable {K:Fl}{β:Type}{g:g8->Fv β}
theorem wJ (h1:Fw t "const"=FS) (h2:Fw t "fun"=FS):(ij k K n D>>=g) t=(Hr "desk">>=λ_=>eE D>>=λx=>Ge "{">>=λ_=>J6 k 6 K []>>=λl=>g (.desk x l.1,K,n,x::D)) t:=by
 have c1: ¬Fw t "const"=FM:=by rw[h1];exact Fd
 have c2: ¬Fw t "fun"=FM:=by rw[h2];exact Fd
 cases hd:Fw t "desk" with
 |true=>
  rw[aV (show ij k K n D t=(GF>>=λ_=>Ar k K n D:Fv g8) t by unfold ij;rw[Fj c1,Fj c2,Fm hd])];refine Eq.trans ?_ (bK (p:=Hr "desk") (x:=()) (r:=t.drop 1) (by unfold Hr;rw[Fm hd])).symm;unfold Ar;simp only[bind_assoc,pure_bind]
  rfl
 |false=>
  have c3: ¬Fw t "desk"=FM:=by rw[hd];exact Fd
  refine(aV (q:=(FJ 2:Fv g8)) (by unfold ij;rw[Fj c1,Fj c2,Fj c3])).trans ?_;exact((eU t).trans (eU t).symm).trans (aV (p:=Hr "desk") (q:=(FJ 2:Fv Nc)) (by unfold Hr;rw[Fj c3])).symm
theorem tm (nb:x≠ .bad) (en:cQ x=FS):eE D ((x,xp)::t)=FJ 2 ((x,xp)::t):=by
 cases x with
 |word u=>
  rw[dF] at en;have R9:GD.contains u=FM:=by cases h:GD.contains u;rw[h] at en;cases en;rfl
  unfold eE;rw[cU,Fm R9]
  rfl
 |num m=>rfl
 |sign s=>rfl
 |eof=>rfl
 |bad=>exact FH Gc nb
theorem lQ (R9:GD.contains u=FS):eE D ((.word u,xp)::t)=if D.contains u=FM then FJ 4 ((.word u,xp)::t) else .ok (u,t):=by
 unfold eE;rw[cU,Fj (by rw[R9];exact Fd)]
end
theorem aiN (T:aW K mg a) (XC:XT K a) (hk:8<=k)
  (G:T.WH.O P w base k (jZ a 7)):
  T.Xe.O P w base (k+1) (pf a λt=>Fw t "const"=FS/\Fw t "fun"=FS):=by
 refine Ep T XC hk T.Xe.F ahk λGU A outer s H β B L H0 Ro F b t Kn nf Ds fu g Q E hr ho hf hB hc hn hN=>?_;intro X D Z Y R q;have lL:=R.lL;have hm:Kn.values.length+t.length<=4000:=R.room;have R:=R.at.as (wJ ho.1 ho.2);generalize hl:t.length=l at R lL hc hf hm;refine kU (Z:=Z.at l) Y ER R λH t R=>?_;have l1:t.length+1<=l:=R.l;rw[00];refine aN 1 Y.nd (wI (Z:=Z.at l) Y R (λ_=>rfl) T.L9 S.S6 (md Ds).bind (λnb en=>?_) (λu e1 hk hu=>?_) λu xp r e1 hk hu=>#[Ge "{">>=λ_=>J6 fu 6 Kn []>>=λl=>g (.desk u l.1,Kn,nf,u::Ds),(bK (x:=u) (r:=r) ((lQ hk).trans (Fj (Y0 ((hB u).symm.trans hu))))).trans Gc,λH R=>?_])
 .obtain⟨⟨x,xp⟩,r,rfl⟩:=R.cons
  exact(aV (q:=FJ 2) (tm nb en)).trans (eU _)
 .obtain⟨⟨x,xp⟩,r,rfl⟩:=R.cons
  obtain rfl:x= .word u:=e1;exact(aV (q:=FJ 4) ((lQ hk).trans (Fm ((hB u).symm.trans hu)))).trans (eU _)
 rw[e1,FA] at l1;rw[00];obtain⟨dr,er⟩:=S.rd.ins;refine aR (g9 (dn hr) [08] (pv 1) sr Gc) #[B.r,_,dr,_,_,Gc,er,T.F9,T.L9,Gc,B.ds.p,_,Gc, .inl #[B.ds.c,nk u,S.S6,Gc,Gp (show B.ds.c.length<=4000 by lia) [01],Gc],?_];have hD: ∀v,has (dz B.ds.c (nk u) (.bl FM)) v=(u::Ds).contains v:=λv=>by
  rw[rl,GB,hB v]
  congr 1
  rw[Hd,Gg,beq_iff_eq]
 have hDl:=cH B.ds.c (nk u) (.bl FM)
 have R:=R.putD (c:=dz B.ds.c (nk u) (.bl FM));generalize dz B.ds.c (nk u) (.bl FM)=c3 at R hD hDl ⊢;generalize aF H B.ds.p (.dK c3)=H at R ⊢;rw[00];obtain⟨dr,er⟩:=S.rd.ins;refine aR (b5 (pv 0) e9 Gc) λnb Vj=>#[B.r,_,dr,_,Gc,(by rw[ac λz=>by rw[<-z,er] at Vj;cases Vj];exact er),T.F9,T.JR,(by show 6<1000;decide),?_]
 rw[tE];obtain⟨hN,R⟩:=R.abK hN S Vj er;refine aM (jH Y (DQ T) (aP (bB 1 (aP #[_,Y.call2 #[G,hr,T.WH.c,Gc] ak [01] Gc,(B.dk c3).nb nb,l,H0,Ro,F,_,r,Kn,[],0,fu,_,Gc,F3 _,by decide,by lia,(λv=>rfl),(by show 0+r.length<=4000;lia),R,λx v H t c' hB' WI R=>cF (R.new Gc λw H i R=>?_)]))));have l9:t.length+1<=l:=R.l;have R:=RS.back (Z:=#[a,E,B.tp c3 nb c',L,H0,Ro]) lL R;obtain⟨us,la,sa⟩:on a (eQ (B.tp c3 nb c')) H x.1 v:=R.f (i:=0) Gc;exact q (.desk u x.1,Kn,nf,u::Ds) w H t c3 nb c' hD (by lia) hn hN ((R.cut 1).and #[v,us,i,la,sa])
theorem aiO (T:aW K mg a) (XC:XT K a) (hk:8<=k)
  (G1:T.Xc.O P w base k (pf a λt=>Fw t "const"=FM))
  (G2:T.Xd.O P w base k (pf a λt=>Fw t "const"=FS/\Fw t "fun"=FM))
  (G3:T.Xe.O P w base k (pf a λt=>Fw t "const"=FS/\Fw t "fun"=FS)):
  T.Xb.O P w base (k+1) (pf a λ_=>True):=by
 refine Ep T XC hk T.Xb.F ahf λGU A outer s H β B L H0 Ro F b t Kn nf Ds fu g Q E hr ho hf hB hc hn hN=>?_;intro X D Z Y R q;refine bH (dq (iF (Z:=Z) Y R (lK _ _ _ _).bind λnb=>#[_,Gc,?_]));rw[b7 R.tok r6];refine aO (λe1=>aM (eZ Y #[G1,hr,T.Xc.c,Gc] #[B,L,H0,Ro,F,b,t,Kn,nf,Ds,fu,g,Gc,e1,hf,hB,hc,hn,hN,R,q])) λe1=>?_;refine bH (dq (iF (Z:=Z) Y R (lK _ _ _ _).bind λnb=>#[_,Gc,?_]));rw[b7 R.tok BN];refine aO (λe2=>aM (eZ Y #[G2,hr,T.Xd.c,Gc] #[B,L,H0,Ro,F,b,t,Kn,nf,Ds,fu,g,Gc,#[e1,e2],hf,hB,hc,hn,hN,R,q])) λe2=>?_;exact aM (eZ Y #[G3,hr,T.Xe.c,Gc] #[B,L,H0,Ro,F,b,t,Kn,nf,Ds,fu,g,Gc,#[e1,e2],hf,hB,hc,hn,hN,R,q])
section
open Vbemac (tokens)
theorem vC (u:Fb):bO dv (nk u)=(Jb.funs.find? λf=>f.1 == u).map λf=>V.int (f.2:FC):=by
 have h1:(Ie "min":a8)=nk (Fc "min"):=by show(Ie "min":a8)=Ie (sb (Fc "min"));congr 1
 have h2:(Ie "max":a8)=nk (Fc "max"):=by show(Ie "max":a8)=Ie (sb (Fc "max"));congr 1
 have h3:(Ie "abs":a8)=nk (Fc "abs"):=by show(Ie "abs":a8)=Ie (sb (Fc "abs"));congr 1
 unfold dv Jb Lj;rw[h1,h2,h3];have ne: ∀ {v:Fb},¬v=u-> ¬nk v=nk u:=λh z=>h (eu (JE z))
 have st: ∀(v:Fb) (x:V) (r:E9 (a8×V)),bO ((nk v,x)::r) (nk u)=if v=u then Fa x else bO r (nk u):=λv x r=>by
  by_cases e:v=u
  .rw[Fm e];exact cg (by rw[e])
  .rw[Fj e];exact b4 (ne e)
 rw[st,st,st,Hj,Hj,Hj];dsimp only;by_cases e1:Fc "min"=u
 .rw[Fm e1,show(Fc "min" == u)=FM from beq_iff_eq.mpr e1];rfl
 .rw[Fj e1,show(Fc "min" == u)=FS from beq_eq_false_iff_ne.mpr e1]
  dsimp only;by_cases e2:Fc "max"=u
  .rw[Fm e2,show(Fc "max" == u)=FM from beq_iff_eq.mpr e2];rfl
  .rw[Fj e2,show(Fc "max" == u)=FS from beq_eq_false_iff_ne.mpr e2]
   dsimp only;by_cases e3:Fc "abs"=u
   .rw[Fm e3,show(Fc "abs" == u)=FM from beq_iff_eq.mpr e3];rfl
   .rw[Fj e3,show(Fc "abs" == u)=FS from beq_eq_false_iff_ne.mpr e3];rfl
abbrev F0:Fi->E9 V->Prop:=λ_ _=>False
theorem abb.st {a:bf}{H H':Hp}(N:abb a H H' r dr q kd fn ds bl) (hq:H q=Fa (.lst (as.map V.ref))) (nq:q≠r) (tk:Paired (fQ a.Jm H) as (tokens bs)) (nt: ∀b∈as,b≠r) (hl:bs.length<=3000):
  fo a #[r,q,kd,fn,#[ds,[],F0],#[bl,[],F0]] H' 0 (tokens bs) Jb:=by
 have len:(tokens bs).length<=4000:=by
  have:=dS (bs.length+1) (1,1) bs;unfold tokens;lia
 refine#[#[#[dr,N.ins],as,tokens bs,N.kept _ _ hq nq,?_,Gc],fK _ _ _,#[#[[],N.kd1,FF _,λu=>rfl],#[dv,N.fn1,vC],by show 0+(tokens bs).length<=4000;lia,#[dv,N.fn1,Gc]],N.ds1,N.bl1,#[N.P4.1,N.P4.2.1,N.P4.2.2.1,N.P4.2.2.2.1,N.P4.2.2.2.2.1,N.P4.2.2.2.2.2],λ_ _ z=>z.elim];clear len hq;revert nt;generalize tokens bs=ts at tk ⊢
 induction tk with
 |nil=>exact λ_=> .nil
 |cons h t ih=>exact λnt=> .cons (by obtain⟨dx,e⟩:=h;exact#[dx,N.kept _ _ e (nt _ (Fq ..))]) (ih λb hb=>nt b (Fp _ hb))
end
abbrev DT (a:bf) (M:Fi->Prop) (H:Hp) (ss:E9 Ho) (us:E9 V):Prop:=Paired (λs v=>fj a M H s v) ss us
inductive ki (K:Fe) (a:bf) (vs:E9 V) (H:Hp) (Q:VK) (E:XK):Prop
 |mk (l:Fi) (bs:Fb) (_:vs=[.ref l]) (_:cB K H l (jJ bs)) (_:bs.length<=3000) (_:W (J3 (L3 (GZ bs)) Jb Nf []) (GZ bs) (λss _=> ∀H' (L:Fi) (us:E9 V) (M:Fi->Prop),aS H H'->H L=FB-> ¬M L->H' L=Fa (.lst us)->DT a M H' ss us->Q (.ref L) H') (λk x=> ∀H',aS H H'->nJ a.HM E H' k x)):ki K a vs H Q E
theorem D8 {k n:FC}{K:Fl}{β:Type}{g:Jr->Fv β}(h0:FE t≠ .eof):(J3 (k+1) K n D>>=g) t=(ij k K n D>>=λx=>J3 k x.2.1 x.2.2.1 x.2.2.2>>=λl=>g (x.1::l)) t:=by
 have e:J3 (k+1) K n D t=(ij k K n D>>=λx=>J3 k x.2.1 x.2.2.1 x.2.2.2>>=λl=>pure (x.1::l):Fv Jr) t:=by
  cases h1:Fw t "const" with
  |true=>
   rw[uH h0 h1,tP h1];simp only[dU,bind_assoc,pure_bind]
  |false=>
   cases h2:Fw t "fun" with
   |true=>
    by_cases hn:n=0
    .rw[yu h0 h1 h2 hn,wZ h1 h2 hn]
    .rw[Bx h0 h1 h2 hn,Ao h1 h2 hn]
     unfold lW;simp only[kj,dU,bind_assoc,pure_bind]
     rfl
   |false=>
    rw[wJ h1 h2];cases h3:Fw t "desk" with
    |true=>
     rw[yG h0 h1 h2 h3];refine Eq.trans ?_ (bK (p:=Hr "desk") (x:=()) (r:=t.drop 1) (by unfold Hr;rw[Fm h3])).symm
     rfl
    |false=>
     rw[yq h0 h1 h2 h3];exact((aV (p:=Hr "desk") (q:=(FJ 2:Fv Nc)) (by unfold Hr;rw[Fj (Y0 h3)])).trans (eU t)).symm
 rw[aV e];simp only[bind_assoc,pure_bind]
abbrev fkT (ps:E9 (Ho×V)):E9 (Fk×V):=ps.map λx=>(Fk.top x.1,x.2)
theorem wd {a:bf}{M:Fi->Prop}{H:Hp}{l:E9 Ho}{ws:E9 V}(hl:DT a M H l ws): ∀ {ps:E9 (Ho×V)},(∀ {i:FC}{x:Fk×V},(fkT ps)[i]?=Fa x->jh a M H x)->DT a M H ((ps.map λx:Ho×V=>x.1).reverse++l) ((ps.map λx:Ho×V=>x.2).reverse++ws)
 |[],_=>hl
 | (e,v)::ps,h=>by
  rw[FQ,FQ,GP,GP,GG,GG];exact wd (.cons (h (i:=0) Gc) hl) λ{i x} q=>h (i:=i+1) q
inductive ShI (a:bf) (E:XK) (B:Rb) (H0:Hp) (Ro:Jr->Ff->Prop) (Ls:Fi) (l:FC) (σ0:L2.St) (m:FC) (σ:L2.St) (H:Hp):Prop
 |mk (ps:E9 (Ho×V)) (K1:Fl) (nf:FC) (D:E9 Fb) (dc:E9 (a8×V)) (bp:Fi) (bc:E9 (a8×V)) (t:Ff) (f:FC) (_:m=t.length) (_:σ=σ0) (_:ps.length+t.length<=l) (_: ∀u,has dc u=D.contains u) (_:dc.length+t.length<=4000) (_:K1.funs.length+nf=9) (_:16*t.length+1<=f) (_:Dx (B.tp dc bp bc) H0)
  (_:uy #[a,E,B.tp dc bp bc,l,H0,Ro] Ls) (_:RS (Zf.mo #[a,E,B.tp dc bp bc,l,H0,Ro] Ls (ps.map λx:Ho×V=>x.2).reverse) (fkT ps) FS H t K1 (J3 f K1 nf D>>=λx=>pure ((ps.map λx:Ho×V=>x.1).reverse++x))):ShI a E B H0 Ro Ls l σ0 m σ H
theorem amx (T:aW K mg a) (XC:XT K a) (kS:zM P w K a.J4 dO) (kF:Dt P w K a.Hh dv) (hk:8<=k)
  (G:T.Xb.O P w base k (pf a λ_=>True)):
  T.d_j.O P w base (k+1) (ki K a):=by
 have G1:=m7 (P:=P) (w:=w) (base:=base) T kF
 have G2:=alQ (P:=P) (w:=w) (base:=base) T kS
 have G3:=yU (P:=P) (w:=w) (base:=base) T XC;refine fP T.d_j.F aaZ (λvs H Q E h=>?_) [02]
 .obtain⟨l,bs,rfl,_⟩:=h
  rfl
 obtain⟨l,bs,rfl,hS,hl,hW⟩:=h;refine aN 1 aaZ.nd #[_,gT T.Vd G1 (hr.mono (by lia)) (by rfl) T.U8 T.ZX.c.b .nil aQ (aa (aG G2 (hr.mono (by lia)) (by rfl) T.d_i.c aQ (aa (pv 0) ag)) ag),l,bs,Gc,hS,hl,λH1 q as s1 hq0 hq1 tk=>?_];intro r dr hr0 hdr ne;refine#[r,dr,q,Gc,ae,λH2 kd fn ds bl N=>#[Gc,?_]];have qr:q≠r:=(ai hq1 hr0);have up1: ∀ {b:Fi}{o:HO},H1 b=Fa o->aF (aF H1 dr (.own r)) r (.ins a.GA dr []) b=Fa o:=λe=>by
  rw[ac (ai e hr0),ac (ai e hdr)];exact e
 have aiP: ∀ {as:E9 Fi}{ts:Ff},Paired (fQ a.Jm H1) as ts-> ∀b∈as,b≠r:=λtk=>by
  induction tk with
  |nil=>exact λb hb=>nomatch hb
  |cons h t ih=>
   intro b hb;rcases Fy.mp hb with hb|hb
   .obtain⟨dx,e⟩:=h
    rw[hb];exact ai e hr0
   .exact ih b hb
 have S2:=N.st (up1 hq1) qr (Paired.MU tk λb x ⟨dx,e⟩=>#[dx,up1 e]) (aiP tk) hl
 have s02:aS H H2:=λb o e=>N.kept b o (up1 (s1 b o e)) (ai (s1 b o e) hr0)
 have upn: ∀ {b:Fi},aF (aF H1 dr (.own r)) r (.ins a.GA dr []) b=FB->H b=FB:=λ{b} e=>by
  cases z:H b with
  |none=>rfl
  |some o=>rw[up1 (s1 b o z)] at e;cases e
 have hN:Dx ⟨r,q,kd,fn,⟨ds,[],F0⟩,⟨bl,[],F0⟩⟩ H:=λb z=>by
  rcases z with z|z|z|z|z|⟨_,z⟩
  .rw[z]
   cases e:H r with
   |none=>rfl
   |some o=>exact(gH hr0 (s1 r o e)).elim
  .rw[z];exact upn N.kd0
  .rw[z];exact upn N.fn0
  .rw[z];exact upn N.ds0
  .rw[z];exact upn N.bl0
  .exact z.elim
 clear N aiP up1 upn;have tl:(GZ bs).length<=3002:=by
  have:=dS (bs.length+1) (1,1) bs;unfold GZ;lia
 generalize hRo:(λ(ss:Jr) (_:Ff)=> ∀H' (L:Fi) (us:E9 V) (M:Fi->Prop),aS H H'->H L=FB-> ¬M L->H' L=Fa (.lst us)->DT a M H' ss us->Q (.ref L) H')=Ro at hW;generalize hB:(#[r,q,kd,fn,#[ds,[],F0],#[bl,[],F0]]:Rb)=B at S2 hN;have Br:B.r=r:=by rw[<-hB]
 have same: ∀ {dc bp bc} {H':Hp},Dx (B.tp dc bp bc) H->db (eQ (B.tp dc bp bc)) H H'->aS H H':=λn k b o e=>k b o e λz=>gH (n b z) e
 have R:RS ⟨a,E,B,(GZ bs).length,H,Ro⟩ (fkT []) FS H2 (GZ bs) Jb (J3 (L3 (GZ bs)) Jb Nf []>>=λx=>pure ([]++x)):=#[#[_,S2],λb o e _=>s02 b o e,(λe=>nomatch e),FF _,by
  rw[jz];exact hW.mono (λ_ _ z=>z) λ_ _ z H' k'=>z H' λb o e=>k' b o e λz=>gH (hN b z) e]
 rw[<-Br];refine aN 2 aaZ.nd (mq λLs hL=>?_);have hx: ∀b zs,¬B.bl.x b zs:=λb zs=>by rw[<-hB];exact λz=>z
 have hdc:B.ds.c=[]:=by rw[<-hB]
 refine fS Jf (ShI a E B H Ro Ls (GZ bs).length [Fa (.ref l),Fa (.ref B.r),Fa (.ref Ls)]) _ #[[],Jb,Nf,[],B.ds.c,B.bl.p,B.bl.c,GZ bs,L3 (GZ bs),Gc,Gc,by show 0+_<=_;lia,(λ_=>by rw[hdc];rfl),by rw[hdc];show 0+_<=_;lia,Gc,by unfold L3;lia,hN,R.nwl hL,R.more hL] ?_;rintro mm σ H4 ⟨ps,K1,nf,D,dc,bp,bc,t,f,rfl,rfl,ul,hD,hDl,hn,hf,hN',N,R⟩;obtain⟨f,rfl⟩: ∃f',f=f'+1:=#[f-1,by lia];obtain⟨n4,S⟩:=R.S;obtain⟨⟨x,xp⟩,t5,rfl,tok,Q0,MT,_⟩:=S.wh.first;obtain⟨dr4,er4⟩:=S.rd.ins;refine#[_,ld (cZ (bS (pv 1) T.F9 T.ZY.c G3 (hr.mono (by lia)) aA)),B.r,dr4,_,Gc,er4,Gc,B.r,B.q,B.kd,B.fn,B.ds.p,bp,n4,(x,xp),t5,Gc,S.rd,(λb=>(rT _ _ _ _).bind.LK (Q0.trans b) R.w H4 R.k),λnb=>#[_,Gc,?_]];have len:((ps.map λx:Ho×V=>x.2).reverse:E9 V).length=ps.length:=by rw[GK,Fx]
 cases he:AU x with
 |true=>
  have ex:x= .eof:=by cases x<;>first|rfl|cases he
  subst ex;refine bN (aM (bB 2 ?_));have w:=(R.as (p':=pure ((ps.map λx:Ho×V=>x.1).reverse++[])) ((bK (CF Gc)).trans Gc)).w
  have w:Ro ((ps.map λx:Ho×V=>x.1).reverse++[]) ((.eof,xp)::t5):=w
  rw[<-hRo] at w;refine w H4 Ls _ (eQ (B.tp dc bp bc)) (same hN' (R.less N).k) N.n0 N.nm R.QI ?_;rw[<-Hc (ps.map λx:Ho×V=>x.2).reverse];exact wd .nil λe=>(R.less N).f e
 |false=>
  have ne:FE ((x,xp)::t5)≠ .eof:=λz=>by
   have z:x= .eof:=z;rw[z] at he;cases he
  refine cc (nA (β:=Jr) R.QI (pv 2) [05] #[_,aG G hr (by rfl) T.Xb.c aA (aa (pv 1) ag),(B.tp dc bp bc).more Ls (ps.map λx:Ho×V=>x.2).reverse,((x,xp)::t5).length,H,Ro,fkT ps,FS,(x,xp)::t5,K1,nf,D,f,_,Gc,Hl,by lia,hD,hDl,hn,λb z=>(de z).elim (λz=>by rw[z];exact N.n0) (hN' b),R.at.as (D8 ne),λy v H' t' dc' bp' bc' SY amy Yf hN2 R2=>?_]);have l2:t'.length+1<=((x,xp)::t5).length:=R2.l;have R2:=RS.back (Z:=Zf.mo #[a,E,B.tp dc' bp' bc',(GZ bs).length,H,Ro] Ls (ps.map λx:Ho×V=>x.2).reverse) (by show((x,xp)::t5).length<=(GZ bs).length;lia) R2;have N2:uy ⟨a,E,B.tp dc' bp' bc',(GZ bs).length,H,Ro⟩ Ls:=by
   refine#[N.n0,λz=>?_,N.nx,N.nq];rcases z with z|z|z|z|z|⟨zs,z⟩
   .exact N.nm (.inl z)
   .exact N.nm (.inr (.inl z))
   .exact N.nm (.inr (.inr (.inl z)))
   .exact N.nm (.inr (.inr (.inr (.inl z))))
   .obtain⟨n5,S5⟩:=R2.S
    have h1:=R2.QI
    have h2:=S5.So
    have z:Ls=bp':=z;rw[z] at h1;cases h1.symm.trans h2
   .exact hx _ _ z
  refine#[_,_,_,_,_,_,N2,by rw[len];exact Gp (show ps.length<=4000 by lia) [01],R2,λH3 R3=>?_];refine gm #[_,l2,(y.1,v)::ps,y.2.1,y.2.2.1,y.2.2.2,dc',bp',bc',t',f,Gc,Gc,(by rw[FA];lia),SY,amy,Yf,(by lia),λb z=>hN2 b (cw z),N2,?_];rw[FQ,FQ,GP,GP];simp only[GG];exact#[R3.S,R3.k,R3.f,FP (JZ _ _) R3.l,R3.w]
theorem AS {P:Ga}{w:GN}{K:Fe}{mg:FR->Ft Fh}{base:GY}{a:bf}(T:aW K mg a) (XC:XT K a) (IL:qh K a) (KT:zJ K a.Il di) (kS:zM P w K a.J4 dO) (kF:Dt P w K a.Hh dv):
  T.d_j.O P w base 178 (ki K a):=by
 have E:mK P w K mg base a 151:=(amn T XC KT 13).1
 have Br:=yC T XC IL [01] E 7
 have Gi:=aiz T XC [01] E
 have Co:=aiJ T XC [01] Gi
 have Fu:=aiM T XC kF [01] Gi
 have De:=aiN T XC [01] Br
 have To:=aiO T XC [01] (Co.mono (by decide:153<=176)) (Fu.mono [01]) De;exact amx T XC kS kF [01] To
def iq (z:Int):Gu:=decide (0<=z)&&decide (z<=255)
def gU (zs:E9 Int):Gu:=decide (zs.length<=3000)&&zs.all iq
inductive sh (K:Fe) (vs:E9 V) (H:Hp) (Q:VK) (_E:XK):Prop
 |mk (l:Fi) (zs:E9 Int) (_:vs=[.ref l]) (_:cB K H l (fW zs)) (_:zs.length<=4000) (_: ∀H',aS H H'->Q (.bl (gU zs)) H'):sh K vs H Q _E
theorem lF (h:gU zs=FS):Ot zs=FB:=by
 unfold Ot;rw[Fj];intro z;have:gU zs=FM:=z;rw[h] at this;cases this
theorem m8 (h:gU zs=FM): ∃bs:Fb,Ot zs=Fa bs/\jJ bs=fW zs/\bs.length<=3000:=by
 have h0:=h;unfold gU at h;rw[GR,Gg] at h;refine#[zs.map λc=>OC c.toNat,?_,?_,by rw[Fx];exact h.1]
 .unfold Ot
  exact Fm h0
 .unfold jJ fW
  rw[JK];refine E9.map_congr_left λz hz=>?_;have b:=LW.mp h.2 z hz;unfold iq at b;rw[GR,Gg,Gg] at b;show V.int (nb (OC z.toNat))=V.int z;unfold nb
  congr 1
  rw[Jc.toNat_ofNat'];lia
theorem aiQ (T:aW K mg a):T.d_w.U P w base 1 (sh K):=by
 refine T.d_w.F.ok aa0 [03] [02];obtain⟨l,zs,rfl,hS,hl,hQ⟩:=h;refine#[_,(aj (aJ (lC (ca eP (bw bJ (by rfl) T.Kj HN (aa (pv 0) ag)) (aT (by rfl) T.QX) (aL _)) (jw (bw (aaH Gc) (by rfl) T.afl boot_all (aa (Bu Gc aa0.nd (j3 (pv 0)) (own:=[("byte",1)]) (n6 (by show Cd ["text","byte"] (af s_w) _ [("byte",1)]=FM;decide+kernel)) (λ_ _ _ _ _=>jc (i:=1) aa0.nd Gc (G9 Gc)) (λ_ _ _ _ _=>rJ) (λ_ _ _ _ _=>(iy eP eP ak (pv 1) ak))) ag)))))),?_];have il:(fW zs).length=zs.length:=Fx ..;refine#[_,_,Gc, .inl hS,_,_,Gc,Gc,_,Gc,?_];rw[il];unfold gU at hQ;refine aO (λe=>?_) λe=>?_
 .have le:zs.length<=3000:=by have:=F4 e;lia
  rw[GJ le] at hQ;refine#[l,Gc,#[_,hS],λD hD=>?_];refine qS (K:=K) (a:=l) (xs:=fW zs) (λi H'=>aS H H'/\H' D=Fa (.lst (((zs.take i).map iq).map V.bl))) #[a9 hD,ae] (λi H' _ z=>z.1.seq hS) ?_ ?_
  .rintro i y H' hi ⟨s1,SY⟩
   obtain⟨z,hz,rfl⟩: ∃z,zs[i]?=Fa z/\y=V.int z:=by
    unfold fW at hi;rw[Gw] at hi;cases e:zs[i]? with
    |none=>rw[e] at hi;cases hi
    |some c=>rw[e] at hi;exact#[c,Gc,(FG hi).symm]
   have eN: ∀b:Gu,b=iq z-> ∃acc,H' D=Fa (.lst acc)/\acc.length<F8/\(aS H (aF H' D (.lst (acc++[V.bl b])))/\aF H' D (.lst (acc++[V.bl b])) D=Fa (.lst (((zs.take (i+1)).map iq).map V.bl))):=λb hb=>by
    refine#[_,SY,?_,λb' o e=>by rw[ac (ai e hD)];exact s1 b' o e,?_]
    .rw[Fx,Fx]
     exact Gp (FP (Ug i zs) hl) [01]
    .rw[ae,Lo,hz,hb]
     show Fa (HO.lst (((zs.take i).map iq).map V.bl++[V.bl (iq z)]))=Fa (HO.lst (((zs.take i++[z]).map iq).map V.bl))
     rw[Hk,Hk]
     rfl
   refine#[Gc,?_];unfold Em;dsimp only;rw[Fm Gc];refine#[_,_,Gc,Gc,_,Gc,?_];refine aO (λe0=>?_) λe0=>?_
   .refine#[_,_,Gc,Gc,eN _ ?_]
    unfold iq;rw[e0]
    rfl
   .refine eN _ ?_
    unfold iq;rw[e0]
    rfl
  .rintro H' ⟨s1,SY⟩
   rw[il,LY] at SY;refine#[D,zs.map iq,Gc,cB.of SY,?_];have:=hQ H' s1;rw[Je] at this;rw[Ti];exact this
 .have le: ¬zs.length<=3000:=by have:=F6 e;lia
  rw[Gb le] at hQ;exact hQ H λ_ _ e=>e
section
open Vbemac (expandSteps)
theorem abL {Qo:Jr->Ff->Prop}{Qe:FC->Gx->Prop}(ho: ∀ss t,Ou bs= .ok ss->wV [] Lj ss->Qo ss t) (he: ∀e,Ou bs= .error e->Qe e.1 e.2):W (J3 (L3 (GZ bs)) Jb Nf []) (GZ bs) Qo Qe:=by
 unfold W;have r:Ou bs=(match J3 (L3 (GZ bs)) Jb Nf [] (GZ bs) with
  | .error e=> .error e
  | .ok (a,_)=> .ok a):=rfl
 cases e:J3 (L3 (GZ bs)) Jb Nf [] (GZ bs) with
 |error x=>rw[e] at r;exact he x r
 |ok z=>rw[e] at r;exact ho z.1 z.2 r (ms _ Jb _ _ Gc _ _ _ (ly _ _ _) e).1
def Dn (M:Kd) (bs:Fb):Except Int (Jr×E9 GC×FC):=match Ou bs with
 | .error _=> .error (-3)
 | .ok s=>match expandSteps M s with
  | .error c=> .error c
  | .ok (l,n)=> .ok (s,l,n)
theorem Y1 {f:Jr->E9 GC->FC->Vbemac.Ans} :UZ M bs f=(match Dn M bs with
  | .error c=>[c]
  | .ok (s,l,n)=>f s l n):=by
 unfold UZ Vbemac.withSheet Dn;cases Ou bs with
 |error e=>rfl
 |ok s=>dsimp only;cases expandSteps M s<;>rfl
def Bad (K:Fe) (a:bf) (E:XK) (H:Hp) (c:Int):Prop:= ∀(C d fI:Fi) (fs:E9 (FR×V)),dD K a.Hg C fI->fs.lookup ("number":FR)=Fa (.int c)->H d=FB->E (.ref C) (Fa d) (aF H d (ci d fs))
theorem Bad.toW {K:Fe}{a:bf}{E:XK}{H:Hp}(XC:XW K a) (h:Bad K a E H c):o8 a E H c:=λC hC d hd=>by
 have: ∃fI,dD K a.Hg C fI:=by
  unfold xcl at hC;simp only[Fy,HF,or_false,Prod.mk.injEq] at hC;rcases hC with⟨_,rfl⟩|⟨_,rfl⟩|⟨_,rfl⟩|⟨_,rfl⟩|⟨_,rfl⟩|⟨_,rfl⟩
  .exact#[_,XC.Ma]
  .exact#[_,XC.OY]
  .exact#[_,XC.NS]
  .exact#[_,XC.NT]
  .exact#[_,XC.Mb]
  .exact#[_,XC.OZ]
 obtain⟨fI,x⟩:=this;exact h C d fI _ x Gc hd
theorem uu {X:Cx}{σ:L2.St}{H:Hp}{Q:VK}{e1 e2 e3:HH}{t1 t2 t3:TE}{lo x hi:Int}{p:Pos}(h1:PE X e1 t1) (h2:PE X e2 t2) (h3:PE X e3 t3) (v1: ∀Q:VK,Q (.int lo) H->t1 σ H Q) (v2: ∀Q:VK,Q (.int x) H->t2 σ H Q) (v3: ∀Q:VK,Q (.int hi) H->t3 σ H Q) (q:Q (.bl (FI x lo hi)) H) (hm:Vo [.LtE, .LtE] [e2,e3]=FS:=by with_unfolding_all rfl):
  Pe X (.Compare e1 [.LtE, .LtE] [e2,e3] p) σ H Q:=by
 refine#[_,iy eP eP h1 h2 h3 hm,v1 _ (v2 _ #[_,_,Gc,Gc,_,Gc,?_])];unfold FI at q;by_cases h:lo<=x
 .rw[GJ h,Je] at q
  rw[GJ h];exact cc (v3 _ #[_,_,Gc,Gc,q])
 .rw[Gb h,Jk] at q
  rw[Gb h];exact bN q
theorem wu {H:Hp}{Q:VK}(b c:Gu) (q:Pe X e σ H λv H1=>v= .bl b/\(b=FM->Pe X (.BoolOp .And (f::es) p) σ H1 Q)/\(b=FS->Q (.bl (b&&c)) H1)):Pe X (.BoolOp .And (e::f::es) p) σ H Q:=
 #[_,lC du du,q.mono λv H1 ⟨hv,h1,h2⟩=>#[b,hv,by
  cases b with
  |true=>exact cc (h1 Gc)
  |false=>exact bN (h2 Gc)]]
theorem Y2 {H:Hp}{Q:VK}(q:Pe X e σ H Q):Pe X (.BoolOp .And [e] p) σ H Q:=#[_,jw du,q]
theorem kE (T:aW K mg a) (XC:XN K a):T.ZA.U P w mg base 2 (dQ a.LR (gC (-1))):=
 okI T.ZA.F agl λGU A outer s H p Q hr q=>#[_,aj (bj (fi (by rfl) T.HU XC.rm (bP T XC.Oj) hr T.WE.c.b .nil aQ (aa (pv 0) (aa (dL cK ak) ag)))),_,Gc,q]
inductive wU (K:Fe) (a:bf) (vs:E9 V) (H:Hp) (Q:VK) (E:XK):Prop
 |mk (x:Gu) (_:vs=[.bl x]) (_:x=FM->Q .IJ H) (_:x=FS->Bad K a E H (-1)):wU K a vs H Q E
theorem amz (T:aW K mg a) (XC:XN K a):T.d_g.O P w base 4 (wU K a):=by
 refine fP T.d_g.F alG [03] [02];obtain⟨x,rfl,h1,h2⟩:=h;refine bH (jn #[_,cZ (pv 0),?_]);cases x with
 |true=>exact#[_,Gc,bN (cf (h1 Gc))]
 |false=>exact#[_,Gc,cc (aR (eX eF XC.Oj (kE T XC) (hr.mono (by decide)) (by rfl) T.Pg T.ZA.c.b) #[F3 _,_,#[Gc,Gc],λd hd=>h2 Gc _ d _ _ XC.Oj Gc hd])]
inductive xC (vs:E9 V) (H:Hp) (Q:VK) (_E:XK):Prop
 |mk (x:Int) (_:vs=[.int x]) (_:Q (.bl (JT x)) H):xC vs H Q _E
theorem aiR (T:aW K mg a):T.d_3.U P w base 1 xC:=by
 refine T.d_3.F.ok alF [03] [02];obtain⟨x,rfl,q⟩:=h;exact aM (uu (lo:= -XX) (hi:=XX) (bW cX ak (aT (by rfl) T.PB)) (pv 0) (aT (by rfl) T.PB) (λ_ q=>#[_,_,Gc,Gc,q]) [05] [05] q)
def vJ (z t lo hi:Int):Gu:=FI z 1 6&&(FI t 1 4&&(JT lo&&(JT hi&&decide (lo<=hi))))
inductive sV (vs:E9 V) (H:Hp) (Q:VK) (_E:XK):Prop
 |mk (z t lo hi:Int) (_:vs=[.int z, .int t, .int lo, .int hi]) (_:Q (.bl (vJ z t lo hi)) H):sV vs H Q _E
theorem aiS (T:aW K mg a):T.aad.U P w base 2 sV:=by
 refine T.aad.F.ok Yt [03] [02];obtain⟨z,t,lo,hi,rfl,q⟩:=h;unfold vJ at q;have h1: ∀ {X:Cx}{σ:L2.St}{e f:HH}{p:Pos},(∀Q:VK,Q (.bl (FI z 1 6)) H->Pe X e σ H Q)->(∀Q:VK,Q (.bl (FI t 1 4)) H->Pe X f σ H Q)->Pe X (.BoolOp .And [e,f] p) σ H λv H'=>v= .bl (FI z 1 6&&FI t 1 4)/\H'=H:=λh1 h2=>wu _ (FI t 1 4) (h1 _ #[Gc,λe=>Y2 (h2 _ (by rw[e];exact#[Gc,Gc])),λe=>#[Gc,Gc]]);refine aN 4 Yt.nd (Pe.mono (h1 (λQ q=>uu ak (pv 0) (aT (by rfl) T.RW) [05] [05] [05] q) λQ q=>uu ak (pv 1) (aT (by rfl) T.QB) [05] [05] [05] q) λv H' ⟨hv,hH⟩=>?_);subst hv hH;refine aM (wu (FI z 1 6&&FI t 1 4) (JT lo&&(JT hi&&decide (lo<=hi))) (bB 4 #[Gc,λe=>?_,λe=>by rw[Gu.and_assoc];exact q]))
 .rw[GR] at e
  rw[e.1,e.2,Je,Je] at q;refine wu (JT lo) (JT hi&&decide (lo<=hi)) (bL (aP (bB 2 (cF #[lo,Gc,Gc,λe=>?_,λ_=>q]))) (aiR T) [07] T.d_3.c aQ);rw[e,Je] at q;refine wu (JT hi) (decide (lo<=hi)) (bL (aP (bB 3 (cF #[hi,Gc,Gc,λe=>?_,λ_=>q]))) (aiR T) [07] T.d_3.c aQ);rw[e,Je] at q;exact Y2 #[_,ca eP (pv 2) (pv 3) (aL _),_,_,Gc,Gc,q]
end
inductive Ck (K:Fe) (a:bf) (vs:E9 V) (H:Hp) (Q:VK) (E:XK):Prop
 |mk {l:Fi}{bs:Fb}{G:Kd}(_:vs=[.int G.zones, .int G.quarters, .int G.lo, .int G.hi, .ref l]) (_:G.quarters<=4) (_:cB K H l (jJ bs)) (_:bs.length<=3000) (_: ∀c,Dn G bs= .error c-> ∀H',aS H H'->Bad K a E H' c) (_: ∀ss Z H' U o n,Dn G bs= .ok (ss,o,n)->Z.a=a->aS H Z.N->TS Z H' U o n (Jt ss) []->Q (.ref Z.x) H'):Ck K a vs H Q E
theorem aiT (T:aW K mg a) (XC:XN K a) (KX:mh K a) (G_j:T.d_j.O P w base 178 (ki K a)):T.d_4.O P w base 179 (Ck K a):=by
 refine fP T.d_4.F alH [03] [02];obtain @⟨l,bs,G,rfl,q4,sl,lb,er,q⟩:=h;refine aM (bL (aP (abo (ym T) [07] (aP (bB 0 (aP (bB 1 (aP (bB 2 (aP (bB 3 (cF #[Gc,λm dm H1 hm s1 e1=>?_]))))))))))) (al9 T XC.toXW KX) [07] T.d_U.c aA);refine aP (bL (aP (bB 4 (cF #[l,bs,Gc,s1.seq sl,lb,abL (λss t hr' wt=>?_) λe he=>?_]))) G_j hr T.d_j.c aA)
 .intro H2 L us M s2 _ _ hL tl
  have ex:Dn G bs=(match MI G ss with| .error c=> .error c| .ok (l,n)=> .ok (ss,l,n)):=by unfold Dn;rw[hr']<;>rfl
  have tl':Paired (λs v=>fj a (λp=>H2 p=FB) H2 s v) ss us:=Paired.MU tl λs v h=>fj.HV (λb o e _=>#[λz=>(by rw[z] at e;cases e),e]) s h
  refine cF (.mk Gc (s2 _ _ e1) q4 hL tl' wt (λc h H' s3=>(er c (by rw[ex,h]) H' ((s1.trans s2).trans s3)).toW XC.toXW) λZ H' U o n h ha hN R=>q ss Z H' U o n (by rw[ex,h]) ha (by rw[hN];exact s1.trans s2) R)
 .intro H2 s2 d hd
  exact er (-3) (by unfold Dn;rw[he]) H2 (s1.trans s2) _ d _ _ XC.fc Gc hd
theorem lc {H H':Hp}(s:aS H H') {p:Fi}(h:H' p=FB):H p=FB:=by
 cases e:H p with
 |none=>rfl
 |some o=>rw[s _ _ e] at h;cases h
theorem Az (zs:E9 Int):(fW zs).length=zs.length:=Fx _
def NwI (H:Hp) (zs:E9 Int) (Q:VK):Prop:= ∀(H':Hp) (p:Fi),aS H H'->H p=FB->H' p=Fa (.lst (fW zs))->Q (.ref p) H'
inductive Y3 (vs:E9 V) (H:Hp) (Q:VK) (_E:XK):Prop
 |mk (l:Fi) (zs:E9 Int) (_:vs=[.ref l]) (_:H l=Fa (.lst (fW zs))) (_:zs.length<=300000) (_:NwI H (Ut zs) Q):Y3 vs H Q _E
theorem amA (T:aW K mg a):T.d_D.U P w base 1 Y3:=by
 refine T.d_D.F.ok alI [03] [02];obtain⟨l,zs,rfl,z,hm,hQ⟩:=h;refine#[_,(aj (aJ (bW zY (fR (aa (bw bJ (by rfl) T.Kj HN (aa (pv 0) ag)) ag)) (pv 0)))),?_];refine#[l,_,Gc, .inl (cB.of z),by show 1<=F8;decide,λp hp=>#[p,l,_,_,Gc,Gc,ae,by rw[ac (ai z hp)];exact z,?_,λp' UQ=>hQ _ p' ((a9 hp).trans (a9 UQ)) (lc (a9 hp) UQ) ?_]]
 .show 1+(fW zs).length<=_
  rw[Az];exact FP (MG hm 1) [01]
 .rw[ae,Az]
  rfl
inductive aiU (a:bf) (vs:E9 V) (H:Hp) (Q:VK) (_E:XK):Prop
 |mk {ol:Fi}{v:V}{o:GC}(_:vs=[v]) (_:iO a ol H v o) (_:NwI H (Ko o) Q):aiU a vs H Q _E
theorem amB (T:aW K mg a) (O:OdK K a):T.d_N.U P w base 1 (aiU a):=by
 refine T.d_N.F.ok ak9 [03] [02];obtain @⟨ol,v,o,rfl,ho,q⟩:=h;refine#[_,(ax (cv (cZ (bw kZ (by rfl) T.Lh Sr (aa (pv 0) (aa (ig (by rfl) T.Pf) ag)))) (aj (aJ (fR (aa ak (aa [08] (aa [08] (aa [08] (aa [08] (aa [08] (aa [08] (aa [08] ag))))))))))) bo)
   (aj (aJ (bW zY (fR (aa ak (aa [08] (aa [08] (aa [08] (aa [08] (aa [08] (aa [08] ag)))))))) [08])))),?_]
 cases o with
 |step d z t b p p' am=>
  obtain⟨u,dx,rfl,_,e⟩:=ho;have f: ∀ {y:FR}{v:V}{R:V->Hp->Prop},ao K a.Hz y->([("desk",V.int d),("zone", .int z),("quarter", .int t),("side",Cv b),("low", .int p),("high", .int p'),("amount", .int am)]:E9 (FR×V)).lookup y=Fa v->R v H->dC K y R (.ref u) H:=λn l r=>#[u,_,dx,_,_,Gc,e,T.NQ,n,l,r]
  refine#[_,_,_,_,Gc,O.s.of e,O.ss,_,Gc,cc ?_];refine f T.M0 Gc (f T.M3 Gc (f T.LS Gc (f T.M4 Gc (f T.NC Gc (f T.M5 Gc (f T.Mj Gc #[by show 8<=F8;decide,λp hp=>q _ p (a9 hp) hp ae]))))))
 |block d z b p g u l=>
  obtain⟨r,_,⟨y,dx,rfl,_,e⟩,hl,le⟩:=ho;have f: ∀ {x:FR}{v:V}{R:V->Hp->Prop}{H':Hp},aS H H'->ao K a.HB x->([("desk",V.int d),("zone", .int z),("side",Cv b),("price", .int p),("group", .int g),("parent",abn u),("amounts", .ref r)]:E9 (FR×V)).lookup x=Fa v->R v H'->dC K x R (.ref y) H':=λs n l r=>#[y,_,dx,_,_,Gc,s _ _ e,T.Ng,n,l,r]
  have s0:aS H H:=λ_ _ z=>z
  refine#[_,_,_,_,Gc,O.b.of e,O.bs,_,Gc,bN ?_];refine f s0 T.MB Gc (f s0 T.MC Gc (f s0 T.ME Gc (f s0 T.Ml Gc (f s0 T.Mm Gc (f s0 T.LU Gc #[by show 7<=F8;decide,λp hp=>?_])))));refine f (a9 hp) T.Lw Gc #[_,_,_,_,Gc,Gc,ae,by rw[ac (ai hl hp)];exact hl,?_,λp' UQ=>q _ p' ((a9 hp).trans (a9 UQ)) (lc (a9 hp) UQ) ?_]
  .show 7+(l.map V.int).length<=_
   rw[Fx];exact FP (MG le 7) [01]
  .rw[ae]
   cases u<;>rfl
theorem Dl {H H':Hp}{v:V}(s:aS H H'): ∀ {o:GC},iO a ol H v o->iO a ol H' v o
 | .step ..,⟨u,dx,e1,m,e⟩=>#[u,dx,e1,m,s _ _ e]
 | .block ..,⟨q,n,⟨u,dx,e1,m,e⟩,h,le⟩=>#[q,n,#[u,dx,e1,m,s _ _ e],s _ _ h,le]
theorem E6 {H:Hp}{v:V} : ∀ {o:GC},iO a ol H v o->(Ko o).length<=11
 | .step ..,_=>by show 8<=11;decide
 | .block ..,⟨_,_,_,_,le⟩=>FC.add_le_add_right le 7
theorem nG {α β:Type}{F:α->β->Prop} : ∀ {l:E9 α}{m:E9 β}{i:FC}{x:α},Paired F l m->l[i]?=Fa x-> ∃y,m[i]?=Fa y/\F x y
 |_::_,_::_,0,_, .cons h _,e=>by cases e;exact#[_,Gc,h]
 |_::_,_::_,i+1,_, .cons _ t,e=>nG (i:=i) t e
def AN (H0:Hp) (D:Fi) (H:Hp) (v:V) (o:GC):Prop:= ∃p,v= .ref p/\p≠D/\H0 p=FB/\H p=Fa (.lst (fW (Ut (Ko o))))/\(Ko o).length<=11
inductive Y4 (a:bf) (vs:E9 V) (H:Hp) (Q:VK) (_E:XK):Prop
 |mk {x dx ol:Fi}{fs:E9 (FR×V)}{os:E9 V}{l:E9 GC}(_:vs=[.ref x]) (_:H x=Fa (.ins a.Gr dx fs)) (_:fs.lookup ("orders":FR)=Fa (.ref ol)) (_:H ol=Fa (.lst os)) (_:Paired (λv o=>iO a ol H v o) os l) (_:l.length<=48) (_: ∀H' D us,aS H H'->H D=FB->H' D=Fa (.lst us)->Paired (AN H D H') us l->Q (.ref D) H'):Y4 a vs H Q _E
theorem aiV (T:aW K mg a) (O:OdK K a):T.d_x.U P w base 2 (Y4 a):=by
 have G_D:=amA (P:=P) (w:=w) (base:=base) T
 have G_N:=amB (P:=P) (w:=w) (base:=base) T O;refine T.d_x.F.ok aa1 [03] [02];obtain @⟨x,dx,ol,fs,os,l,rfl,hx,lo,ho,po,le,q⟩:=h;refine#[_,(aj (aJ (Bu Gc aa1.nd (j3 [08]) (own:=[("order",1)]) (n6 (by show Cd ["expansion","order"] (af s_x) _ [("order",1)]=FM;decide+kernel)) (λ_ _ _ _ _=>jc (i:=1) aa1.nd Gc (G9 Gc)) (λ_ _ _ _ _=>rJ) (λ_ _ _ _ _=>(aG G_D [07] (by rfl) T.d_D.c aQ (aa (aG G_N [07] (by rfl) T.d_N.c aQ (aa (pv 1) ag)) ag)))))),?_]
 have ll:=bA po;refine#[x,_,dx,_,_,Gc,hx,T.HI,T.JP,lo,ol,Gc,#[_,cB.of ho],λD hD=>?_]
 refine qS (K:=K) (a:=ol) (xs:=os) (λi H'=>aS H H'/\ ∃us,H' D=Fa (.lst us)/\Paired (AN H D H') us (l.take i)) #[a9 hD,[],ae,by rw[XH];exact .nil] (λi H' _ z=>cB.of (z.1 _ _ ho)) ?_ ?_
 .rintro i y H' hi ⟨s1,us,SY,pr⟩
  obtain⟨o,hl,oy⟩:=nG po hi;refine#[Gc,?_];unfold Em;dsimp only;rw[Fm Gc];refine#[Gc,Dl s1 oy,λH2 p s2 hp e2=>?_];have tl:=E6 oy;refine#[p,_,Gc,e2,FP tl [01],λH3 r s3 hr3 e3=>#[us,s3 _ _ (s2 _ _ SY),?_,?_,us++[.ref r],ae,?_]]
  .have:=bA pr
   rw[NV] at this;exact Gp (show us.length<=48 by lia) [01]
  .exact λb o e=>by rw[ac (ai e hD)];exact s3 _ _ (s2 _ _ (s1 b o e))
  .have nr:r≠D:=λz=>by rw[z,s2 _ _ SY] at hr3;cases hr3
   rw[Lo,hl];refine gn (Paired.MU pr λv o ⟨p,e,n,f,z,t⟩=>#[p,e,n,f,by rw[ac n];exact s3 _ _ (s2 _ _ z),t]) #[r,Gc,nr,lc (s1.trans s2) hr3,by rw[ac nr];exact e3,tl]
 .rintro H' ⟨s1,us,SY,pr⟩
  rw[ll,LY] at pr;exact q H' D us s1 hD SY pr
section
open Vbemac (bytesOf)
theorem wa: ∀ {b c:Gu},O7 b=O7 c->b=c:=by decide
theorem Bv: ∀ {o u:GC},Ko o=Ko u->o=u
 | .step .., .step ..,h=>by
  simp only[Ko,PR,XF,and_true,true_and] at h;obtain⟨rfl,rfl,rfl,e,rfl,rfl,rfl⟩:=h;rw[wa e]
 | .step .., .block ..,h=>by cases (IB h).1
 | .block .., .step ..,h=>by cases (IB h).1
 | .block _ _ _ _ _ x _, .block _ _ _ _ _ y _,h=>by
  simp only[Ko,PR,XF,true_and] at h;obtain⟨rfl,rfl,e,rfl,rfl,f,rfl⟩:=h;rw[wa e,show x=y by cases x<;>cases y<;>simp only at f ⊢ <;>first|(congr 1;lia)|lia]
abbrev Do (o:GC):QM:= .list ((Ut (Ko o)).map QM.int)
theorem sx: ∀l r:E9 GC,Rq (l.map Do) (r.map Do)=decide (l=r)
 |[],[]=>rfl
 |[],_::_=>rfl
 |_::_,[]=>rfl
 |x::l,y::r=>by
  show(Rq _ _&&Rq (l.map Do) (r.map Do))=_
  rw[sx l r,PySem.W.ked_eqvAll,Hd,Kx,Gg,Gg,Gg,PR];exact and_congr_left λ_=>#[λh=>Bv (IB h).2,λh=>by rw[h]]
theorem tO: ∀l:E9 GC,QM.canLayAll0 (l.map Do)=FM
 |[]=>rfl
 |x::l=>Kx.mpr #[PySem.W.ke_canLayAll0 _,tO l]
theorem qa: ∀l:E9 GC,QM.depthAll (l.map Do)<=1
 |[]=>by decide
 |x::l=>FC.max_le.mpr #[Hi (JM (PySem.W.ke_depthAll _)),qa l]
theorem lS (l:E9 GC):Sw (.list (l.map Do))=FM:=Kx.mpr #[tO l,GJ (FP (Hi (qa l)) [01])]
theorem wY {H:Hp} : ∀zs:E9 Int,lO K H (fW zs) (zs.map QM.int)
 |[]=> .nil
 |z::zs=> .cons (.int z) (wY zs)
theorem rn {H0 H:Hp} : ∀ {us:E9 V}{l:E9 GC},Paired (AN H0 D H) us l->lO K H us (l.map Do)
 |_,_, .nil=> .nil
 |_,_, .cons ⟨p,e,_,_,h,_⟩ t=>by
  rw[e];exact .cons (.lst (cB.of h) (wY _)) (rn t)
theorem EH {H0 H H':Hp}(s:aS H H') {us:E9 V}{l:E9 GC}(h:Paired (AN H0 D H) us l):Paired (AN H0 D H') us l:=Paired.MU h λv o ⟨p,e,n,f,z,t⟩=>#[p,e,n,f,s _ _ z,t]
inductive Cp (a:bf) (x:Fi) (H:Hp) (l:E9 GC):Prop
 |mk {dx ol:Fi}{fs:E9 (FR×V)}{os:E9 V}(_:H x=Fa (.ins a.Gr dx fs)) (_:fs.lookup ("orders":FR)=Fa (.ref ol)) (_:H ol=Fa (.lst os)) (_:Paired (λv o=>iO a ol H v o) os l) (_:l.length<=48):Cp a x H l
theorem TS.aiW {Z:Zx}{H:Hp}{l:E9 GC}(R:TS Z H U l n d r):Cp Z.a Z.x H l:=by
 obtain⟨B,nm,R,_⟩:=R;obtain @⟨r,b,ff,d,s,nd,kk,os,FO,W,A,gs,eb,hj⟩:=R;have sB:=W.O.same;exact .mk (sB _ _ eb.hx) Gc (sB _ _ eb.ho) (Paired.MU eb.po λv o h=>Dl sB h) eb.le
theorem TS.same {Z:Zx}{H:Hp}{l:E9 GC}(R:TS Z H U l n d r):aS Z.N H:=by
 obtain⟨B,nm,R,_⟩:=R;exact R.same
theorem Cp.keep {H H':Hp}{l:E9 GC}(s:aS H H') (h:Cp a x H l):Cp a x H' l:=by
 obtain⟨h1,h2,h3,h4,h5⟩:=h;exact .mk (s _ _ h1) h2 (s _ _ h3) (Paired.MU h4 λv o h=>Dl s h) h5
theorem nz {z t lo hi:Int}{zs ys:E9 Int}(h:(vJ z t lo hi&&(gU zs&&gU ys))=FS):LC z t lo hi zs ys=[-1]:=by
 show OU [[6,z,t,lo,hi],zs,ys]=_
 unfold OU;rw[show WZ [[6,z,t,lo,hi],zs,ys]=(match KW z t lo hi,bytesOf zs,bytesOf ys with
   |some M,some b,some c=>Fa (.same M b c)
   |_,_,_=>FB) from Gc]
 cases h1:vJ z t lo hi with
 |false=>rw[show KW z t lo hi=FB from Fj (by show¬vJ z t lo hi=FM;rw[h1];exact Fd)]
 |true=>
  rw[h1,Je] at h;cases h2:gU zs with
  |false=>rw[lF h2];cases KW z t lo hi<;>rfl
  |true=>
   rw[h2,Je] at h;rw[lF h];cases KW z t lo hi<;>cases bytesOf zs<;>rfl
theorem EC {z t lo hi:Int}{zs ys:E9 Int}{bs cs:Fb}(h:vJ z t lo hi=FM) (hb:bytesOf zs=Fa bs) (hc:bytesOf ys=Fa cs): ∃G:Kd,(G.zones:Int)=z/\(G.quarters:Int)=t/\G.lo=lo/\G.hi=hi/\G.quarters<=4/\LC z t lo hi zs ys=(match Dn G bs with
  | .error c=>[c]
  | .ok (_,l,_)=>match Dn G cs with
   | .error c=>[c]
   | .ok (_,r,_)=>[0,O7 (decide (l=r))]):=by
 have h':=h;unfold vJ FI at h;simp only[GR,Gg] at h;refine#[#[z.toNat,t.toNat,lo,hi],by lia,by show(t.toNat:Int)=t;lia,Gc,Gc,by show t.toNat<=4;lia,?_]
 show OU [[6,z,t,lo,hi],zs,ys]=_
 unfold OU;rw[show WZ [[6,z,t,lo,hi],zs,ys]=(match KW z t lo hi,bytesOf zs,bytesOf ys with
   |some M,some b,some c=>Fa (.same M b c)
   |_,_,_=>FB) from Gc,hb,hc,show KW z t lo hi=Fa _ from Fm h']
 refine Y1.trans ?_;cases Dn #[z.toNat,t.toNat,lo,hi] bs with
 |error c=>rfl
 |ok x=>exact Y1
theorem amC (T:aW K mg a) (XC:XN K a) (KX:mh K a) (O:OdK K a) (G_j:T.d_j.O P w base 178 (ki K a)):
  T.d_b.U P w base 180 (m6 K):=by
 refine T.d_b.F.ok DH [03] [02];obtain⟨z,t,lo,hi,l,k,zs,ys,rfl,hS,hl,hS2,Tt,hQ⟩:=h;refine#[_,(ax (C9 (R:=a.Hg) (G:=a.Hg) (i:=8) (λv od Sk=> ∃(C d fI:Fi) (c:Int) (fs:E9 (FR×V)),v= .ref C/\od=Fa d/\dD K a.Hg C fI/\LC z t lo hi zs ys=[c]/\Sk d=Fa (ci d fs)/\fs.lookup ("number":FR)=Fa (V.int c)) Gc Gc (λC d H h=>by obtain⟨_,_,fI,_,_,e,_,x,_⟩:=h;cases e;exact#[fI,x, .inr Gc]) (by rfl) T.HU DH.nd Gc Gc
    (λpins Ew PE_=>ax (bj (aG (amz T XC) [07] (by rfl) T.d_g.c PE_ (aa (lC (aG (aiS T) [07] (by rfl) T.aad.c aQ (aa (pv 0) (aa (pv 1) (aa (pv 2) (aa (pv 3) ag))))) (lC (aG (aiQ T) [07] (by rfl) T.d_w.c aQ (aa (pv 4) ag)) (jw (aG (aiQ T) [07] (by rfl) T.d_w.c aQ (aa (pv 5) ag))))) ag)))
     (ax (cC (i:=6) DH.nd Gc (G9 Gc) (aG (aiT T XC KX G_j) hr (by rfl) T.d_4.c PE_ (aa (pv 0) (aa (pv 1) (aa (pv 2) (aa (pv 3) (aa (pv 4) ag)))))))
     (aj (cC (i:=7) DH.nd Gc (G9 Gc) (aG (aiT T XC KX G_j) hr (by rfl) T.d_4.c PE_ (aa (pv 0) (aa (pv 1) (aa (pv 2) (aa (pv 3) (aa (pv 5) ag))))))))))
    (λa'=>(aj (aJ (fR (aa (E2 (K:=K) Gc [00] oO (pv 8) (by rfl)) ag))))))
   (aj (aJ (fR (aa ak (aa (df (a0 (aaJ hr.units) (aG (aiV T O) [07] (by rfl) T.d_x.c aQ (aa (pv 6) ag)) (aG (aiV T O) [07] (by rfl) T.d_x.c aQ (aa (pv 7) ag)) (aL _)) ak ak) ag)))))),?_]
 refine#[?_,?_]
 .have bad: ∀ {H1:Hp}{c:Int},LC z t lo hi zs ys=[c]->Bad K a (λv od Sk=> ∃(C d fI:Fi) (c:Int) (fs:E9 (FR×V)),v= .ref C/\od=Fa d/\dD K a.Hg C fI/\LC z t lo hi zs ys=[c]/\Sk d=Fa (ci d fs)/\fs.lookup ("number":FR)=Fa (V.int c)) H1 c:=λh C d fI fs x lk hd=>#[C,d,fI,_,fs,Gc,Gc,x,h,ae,lk]
  refine#[z,t,lo,hi,Gc,_,Gc,aO (λh1=>?_) λh1=>#[_,Gc,nofun,λ_=>bad (nz (by rw[h1];rfl))]];refine#[l,zs,Gc,hS,hl,λH1 s1=>#[_,Gc,aO (λh2=>?_) λh2=>#[_,Gc,nofun,λ_=>bad (nz (by rw[h1,h2];rfl))]]];refine#[k,ys,Gc,s1.seq hS2,Tt,λH2 s2=>#[_,Gc,λht=>?_,λht=>bad (nz (by rw[h1,h2,ht];rfl))]];obtain⟨bs,eb,ev',hb⟩:=m8 h2;obtain⟨cs,eb2,ev2,hb2⟩:=m8 ht;obtain⟨G,rfl,rfl,rfl,rfl,q4,ec⟩:=EC h1 eb eb2;refine .mk Gc q4 (by rw[ev'];exact(s1.trans s2).seq hS) hb (λc h H' _=>bad (by rw[ec,h])) λss Z H3 U o n h ha hN R=>?_;subst ha;rw[h] at ec;have s3:=hN.trans R.same;refine .mk Gc q4 (by rw[ev2];exact((s1.trans s2).trans s3).seq hS2) hb2 (λc h H' _=>bad (by rw[ec,h])) λss2 Z2 H4 U2 o2 n2 h' ha2 hN2 R2=>?_;rw[h'] at ec;have ec:_=[0,O7 (decide (o=o2))]:=ec;have A1:=R.aiW.keep (hN2.trans R2.same);have A2:=R2.aiW;rw[ha2] at A2;obtain⟨x1,x2,x3,x4,x5⟩:=A1;refine .mk Gc x1 x2 x3 x4 x5 λH5 D us s5 hD hD5 pr=>?_;obtain⟨y1,y2,y3,y4,y5⟩:=A2.keep s5;refine .mk Gc y1 y2 y3 y4 y5 λH6 D2 us2 s6 hD2 hD6 pr2=>?_;refine#[_,_, .lst (cB.of (s6 _ _ hD5)) (rn (EH s6 pr)), .lst (cB.of hD6) (rn pr2),lS _,lS _,?_];refine#[_,Gc,?_];rw[show QM.eqv (.list (o.map Do)) (.list (o2.map Do))=decide (o=o2) from sx o o2];refine aO (λe=>?_) λe=>?_
  .rw[e] at ec
   exact#[by show 2<=F8;decide,λp hp=>hQ _ p (by rw[ec];exact ae)]
  .rw[e] at ec
   exact#[by show 2<=F8;decide,λp hp=>hQ _ p (by rw[ec];exact ae)]
 .rintro C d H2 a' ⟨C',d',fI,c,fs,eC,ed,X1,ec',hd,lk⟩ ha'
  cases ed;cases eC;have nd:d≠a':=λz=>by rw[z,ha'] at hd;cases hd
  have h1:aF H2 a' (jT C d a') d=Fa (ci d fs):=by rw[ac nd];exact hd
  refine#[_,_,_,a',d,_,_,X1,Gc,ae,h1,lk,?_];refine#[by show 1<=F8;decide,λp hp=>?_];refine hQ _ p ?_;rw[ec'];exact ae
end
theorem mh.at_ (I:mh K a) (hi:(yB a)[i]?=Fa C) (hj:(yB a)[j]?=Fa D) (h:i<15) (h':j<15):HK K (.ref C) (.ref D)=Fa (decide (i=j)):=by
 have:=Gq (λl=>(l[i]?.bind λr:E9 (Ft Gu)=>r[j]?)) I.kit
 rw[Gw,hi,Gw,Mw h] at this;simp only[Mg,Ft.bind_some,Gw,hj,Mw h'] at this;exact FG this
theorem abM {a:bf}(I:mh K a):qh K a:=#[I.ty _ (.tail _ (.tail _ (.tail _ (.tail _ (.tail _ (.tail _ (.tail _ (.head _)))))))),I.ty _ (.tail _ (.tail _ (.tail _ (.tail _ (.tail _ (.tail _ (.tail _ (.tail _ (.head _))))))))),I.ty _ (.tail _ (.tail _ (.tail _ (.tail _ (.tail _ (.tail _ (.tail _ (.tail _ (.tail _ (.head _)))))))))),I.ty _ (.tail _ (.tail _ (.tail _ (.tail _ (.tail _ (.tail _ (.tail _ (.tail _ (.tail _ (.tail _ (.head _))))))))))),I.ty _ (.tail _ (.tail _ (.tail _ (.tail _ (.tail _ (.tail _ (.tail _ (.tail _ (.tail _ (.tail _ (.tail _ (.head _)))))))))))),I.at_ (i:=7) (j:=7) Gc Gc [01] [01],I.at_ (i:=8) (j:=7) Gc Gc [01] [01],I.at_ (i:=9) (j:=7) Gc Gc [01] [01],I.at_ (i:=10) (j:=7) Gc Gc [01] [01],I.at_ (i:=11) (j:=7) Gc Gc [01] [01]]
theorem Cw {mg:FR->Ft Fh}{base:GY}{a:bf}(T:aW K mg a) (XC:XN K a) (kS:zM P w K a.J4 dO) (kF:Dt P w K a.Hh dv) (KT:zJ K a.Il di) (I:mh K a) (O:OdK K a):T.d_b.U P w base 180 (m6 K):=
 amC T XC I O (AS T XC.toXT (abM I) KT kS kF)
end OS
open PySem PySem.W PyProof.Rows
theorem PySem.Challenge.cw_ordersheets_s07_same_holds : PySem.Challenge.rw_ordersheets_s07_same.Holds :=
 OS.hd OS.Cw

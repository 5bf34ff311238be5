import PyProof.Rows.All
import KE.OsGo
import Wide.All
import OpenK.AllK
import Wide.FinOn
import PyProof.EqAt
import PyProof.EqKinds
import PyProof.TupleCall
import KE.BitLaws
import Open.SpecLaws
import KE.OsHead
import PyProof.StationsW
import PyProof.PassesOwn
import PyProof.ExcClass
import PyProof.ExcClass2
import PyProof.ExcArgs
import PyProof.ExcBaseAll.Exception
import PyProof.InstLoad
import PyProof.InstStoreFacts
import VbemacSpec
import PySem.Str
import PySem.Challenge.RW_ordersheets_s06_steps
import PyProof.RulesAs
import PyVbemac
local macro_rules|`(#[$x,*])=>`(⟨$x,*⟩)
open Option renaming some->EQ,none->Fa
open Bool renaming true->FB,false->FM
open _root_ renaming rfl->FS
set_option compiler.extract_closed false
set_option hygiene false
local macro_rules
|`([00])=>`((by decide+kernel))
|`([01])=>`((by decide))
|`([02])=>`((λGp A outer s H vs Q E hr h=>?_))
|`([03])=>`((λvs H Q E h=>by cases h;subst_vars;rfl))
|`([04])=>`((λ_ _ _ _ _ _ us hl=>OS.u2 hl λ_ _=>[0x0]))
|`([05])=>`((λ_ q=>q))
set_option hygiene true
open _root_ renaming List->EA,if_neg->EI,if_pos->EL,Option->ET,Nat->E1,absurd->E7,of_decide_eq_true->Ft,of_decide_eq_false->Fw,decide_eq_false->FA,decide_eq_true_iff->FH,congrArg->FN,Bool->FR,decide_eq_true->Gb,beq_self_eq_true->Gr,UInt8->Io,Array->IQ,if_false->L5,Unit->Mo,decide_eq_true_eq->M9,if_true->Sk,not_or->Vg
open Vbemac renaming Bytes->EC,text->ED,Toks->EG,Known->EK,Exp->ER,P->EU,isKey->EV,peek->E4,within->E8,fail->E9,expr->Ff,sign->FC,isSign->FD,Bytes->FJ,Pos->FT,Out->FU,KEYS->FZ,next->F3,Tok->F5,SIGNS->F6,primary->F9,newName->Ge,unary->Gj,tokens->Gq,Stmt->Gv,behind->GJ,Top->GK,Env->GL,key->GN,deeper->GS,DEEP->GW,digit->Ha,isKey->He,Blocks->Hm,Scope->Hr,place->HC,side->Ib,runOne->Ij,zoneIn->Il,known0->Im,Stmts->Ip,MOST->Ir,knownBlock->IB,Order->IF,Sheet->IG,deskCount->IJ,Funs->Jd,runAll->Jh,evAmounts->Jm,maybeName->Jn,isPrice->Jo,Exps->Jw,tops->Jx,stmts->JA,letter->JH,Market->JI,params->JJ,bytesOf->JQ,BIG->JR,ifSign->Kd,addBlock->Kl,stmt->Kv,BUILT->KI,signOf->KW,fuel->Lj,isSign->Ll,marketOf->Lz,ev->LQ,expandSteps->LX,compare->L3,Toks->L9,expandTops->Mn,FUNS->Mp,truth->MY,read->NA,answer->N5,lex->Oi,SLOPE->OQ,arguments->Pf,Rest->PM,valueIn->Qq,blank->Rw,evEither->SN,MOSTORDERS->T9,withOrders->Ua,moreAdded->UG,moreTimes->UH,blockName->UI,compared->Vc,evRest->Vh,builtIn->VM,checked->VN,moreAnd->VP,addStep->VQ,runLoop->VR,anyName->VS,moreOr->Wc,placed->Wd,decode->We,arith->WZ,added->W0,times->W3,evOpt->W4,ifKey->W5,PRICE->W6,evBoth->Ys,ands->Yw
open Bool renaming false_ne_true->EE,and_eq_true->Gh,eq_iff_iff->GD,noConfusion->GP,and_false->HY,false_eq_true->Ii,false_and->Iy,true_and->IK,or_eq_false_iff->Lx,or_eq_true->LL,or_false->Oo,not_eq_false'->OP,or_true->Pk,false_or->Rr,true_or->Sq,and_eq_true_iff->Th,not_eq_true'->U8,eq_false_iff->U9
open PySem.W renaming Frag->EF,mg_of->Fm,mg_none_of->GR,findIn->Hh,kitOne->Hy,kia_one->HA,fnOf->HB,emptyDict->HQ,keepIn->HR,instObj->IV,nsIn->Jv,callWith_K->Ki,codeIn->KA,methodCall_KW->KN,plainGet->My,lookIn->Ng,plainGet_of->ND,callWith_K0->NF,methodObj->Oj,hasDictIn->Ol,specialIn->Om,isFn->Oq,length_le_weightAllW->PH,takerIn->PL,nsMap_none_of_in->Qt,cellsFrom_some->QV,isNs_of_in->SM,plainOver->Ts,kitx_list->Tt,kitx_dict->Tu,WRecords->Ub,handedIn->Uc,makesIn->UJ,takesIn->UK,findCls->UL,WalkOS->Vd,typeIn->Ve,nsOkIn->Vf,mroIn->VT
open PySem renaming Value->EH,Addr->EJ,Shared->EM,wpAny_bind->E3,starEach->Fb,Str->Fh,wpAny->Fl,wpAny_pure->Fx,Program->Fz,sizeLine->FE,FuncData->FL,wpAny_loadPart_at->FW,World->Ga,mem_of_lookup->Gg,Around->Gk,Heap->Gn,bindArgs->GQ,Expr->G8,typeLookup->Hg,boot_len->Hl,sizeLine_eq->Ht,cellsFrom->Hx,excClassObj->HF,compareOp->HL,attributeBase->HM,sysModules->HN,wpAny_mono->HP,wpAny_truthy_bool->Ic,backTo->Ie,Obj->Ih,builtinLookup_eq_fast->Iv,mainGlobals->ID,keywordEach->IE,checkBuiltinCall->IY,wpAny_Call_Name_kw->Je,NameKind->Jq,tupleKind_room_in1->JN,wpAny_passesOwn->JU,typeLookup_type->JV,backToKw->Kj,intItems->Kk,bootBuiltins->Kr,getMethod->Ku,codeAny->KP,swapsWith->K7,foldedSetIterable->Lk,plainObj_wpAny_Assign_Attribute->LH,numAt->LM,StoreFacts->LP,argBest->L0,sliceBounds->L4,compEnvC->L6,wpAny_execs_nil->Mj,codeAny_mono->Mu,ExcBaseFacts->Mv,tupleKind->MM,pushCells->MN,callWith->MR,Within->M5,wpAny_standAt->Nb,wpAny_holding->Nc,rawInt->Nf,DictEntry->NG,letOwnedTupleGo->Oe,pushCells_keeps->Of,codeAny_call_builtin->OT,importBound->OV,binaryOp->OW,cLine->OX,PassesOwn->Pc,noteFrame->Pd,valueAt->Pj,wpAny_call->P2,GenState->Qu,atKey->Qv,wpAny_lookBehind->QT,pastItsLine_dict->QU,setFlight->QW,pyNext->QY,IsPair->QZ,BindsTo->Se,callerA->Sf,getAttr->Sg,setAttr->Sh,getItem->Sj,notedBy->So,wpAny_setField->SJ,lastMarks->UD,bindL->UM,bindC->UO,wpAny_nextOf_list_item->UY,tupleKeyHash->U1,wpAny_nsSet1->U3,wpAny_typeOf->U4,Fin->Vi,wpAny_isTrue_Compare1->VI,wpAny_loadName_local->V4,ZipApart->Wb,wpAny_loadName_cell->WV,Builtin->WY,wpAny_getItem_heap->Yk,getattributeRaised->Yl,builtinsNs->Ym,wpAny_Name->Yn,typeIs_str->Yp,isInstance->Yq
open List renaming mem_cons_of_mem->EN,mem_cons_self->EO,mem_cons->EW,length_map->EY,length_cons->EZ,length_append->Fc,mem_singleton->Fd,map_cons->Fe,mem_append->Fp,getElem?_eq_some_iff->FF,nodup_cons->FI,contains_iff_mem->FK,getElem?_map->FQ,contains_cons->FY,append_assoc->F4,length_reverse->F7,size_toArray->F8,reverse_cons->Gf,mem_of_getElem?->Gs,append_nil->Gw,find?_cons->GF,map_append->GG,mem_append_right->GI,drop_eq_getElem_cons->GO,getElem?_eq_getElem->GU,not_mem_nil->GZ,getD_eq_getElem?_getD->HX,getElem?_eq_none->Ig,replicate->Iz,take_of_length_le->II,lookup->IM,range->IS,length_singleton->IT,map_map->Jg,takeWhile_cons->Jp,lookup_cons->Jr,mem_reverse->Js,drop_of_length_le->JE,length_nil->JK,mem_of_find?_eq_some->J3,filterMap_cons->Kb,mem_map_of_mem->Kc,of_mem_zip->Kt,getElem?_replicate->Kz,nodup_append->KO,mem_map->KQ,all_eq_true->Lf,length_drop->Lg,any_eq_true->Lh,mem_append_left->Lu,mem_of_getLast?->Lw,getElem?_range->LO,nodup_nil->Mb,take_add_one->Mw,find?_isSome->Mx,all_cons->MO,any_cons->MP,length_eq_zero_iff->MW,take_length->MX,getElem?_set_self->M8,length_replicate->Ny,length_filter_le->Nz,getElem?_set_ne->NN,drop_drop->NO,length->NP,find?_eq_none->OO,length_filter_eq_length_iff->Pb,map_nil->Ph,length_take->PR,filter_cons->PU,take_append->PV,drop_length->PX,eq_nil_of_length_eq_zero->P1,find?_some->Qp,forIn_nil->QI,getElem?_append_left->QR,getLastD_eq_getLast?->QS,getLast?_cons_cons->RC,drop_eq_nil_of_le->R9,append_eq_nil_iff->Sa,all_map->Sn,any_map->Sr,take_append_drop->SA,eq_nil_or_concat->SD,concat_eq_append->SE,filterMap_append->SG,getElem?_reverse->SH,length_take_le'->Ti,mem_of_mem_take->Tj,dropLast_concat->Tn,mem_of_mem_drop->Tp,toList_toArray->T4,reverse_append->T6,mem_filterMap->Uy,map_inj_right->UA,any_eq_false->U2,find?_append->U5,mem_of_head?->U6,length_range->U7,drop_sublist->Va,cons_append->VJ,perm_middle->VL,mem_filter->V6,forIn_cons->V7,length_zip->V8,map_const'->V9,sum_cons->Yr
open PySem.Heap renaming get?_push_of_some->E2,lt_size->Fn,get?_push_size->Gy,get?_update_other->GA,size_push->Hf,get?_update_self->IU,SameBut->LZ,get?_update_ne->T5
open Option.some renaming inj->E5
open Nat renaming le_refl->E6,le_trans->Fj,zero_le->Fs,lt_of_lt_of_le->Fv,lt_of_le_of_lt->FP,ne_of_lt->Gu,lt_succ_self->G6,succ_le_succ->G7,add_sub_cancel_left->Hk,lt_irrefl->Hq,lt_succ_of_lt->IC,le_add_right->Ju,le_of_eq->JG,le_of_lt->J6,add_comm->J7,zero_add->J8,le_succ->KH,le_of_succ_le->KS,ne_of_gt->KU,add_sub_cancel->Ml,add_right_comm->Mm,le_succ_of_le->ML,sub_self->PK,succ->Q0,add_assoc->RD,add_le_add_left->Ux,lt_of_le_of_ne->UZ,min_eq_right->V5,min_eq_left->WW
open StateT renaming bind->Fi
open PySem.Value renaming ref->Fq,none->Hn,int->JL,builtin->Li,bool->L7,type->L8,str->NQ,isStrOf->Oh,float->SO
open Option renaming map_eq_some_iff->FG,isSome_map->Hv,bind_eq_some_iff->HK,isSome_iff_exists->Ka,map_some->Ly,none->Ss,some_ne_none->SK,isSome_some->Tr,getD_none->UE,map_map->VO
open Or renaming inl->Gx
open True renaming intro->GH
open Vbemac.Tok renaming word->GV,sign->Iu
open Sum renaming inr->Hu,inl->Ji
open PySem.Obj renaming mapFields->HD,isFreed_of_fields->Ld,data_mapFields->OU
open PySem.F renaming store_Exception->HG,plainAttrs_list->Iw,slot_list_append->J4,type_list_append->J5,slot_zip_getattribute->K8,slot_dict_getitem->Qm,excBase_Exception->Qn,slot_dict_pop->Rn,slot_list_pop->Rp,type_list_pop->Rq
open Ne renaming symm->HS
open False renaming elim->HW
open PySem.PassesOwn renaming leaving->Iq,never->K9
open List.cons renaming inj->IZ
open Sum.inr renaming inj->Ja
open PyProof.Rows renaming envOfC->Jf,callWith_type1->Jt,boot_tuple->LY,callWith_builtin1->NM,AllBare->Pg,subscriptTail->T7,subscriptTail_builtinR->UX,Subscript_->Yo
open Array renaming getElem?_eq_some_iff->JT,toList->RE,getElem?_toList->Sb,mem_toList_iff->SI,length_toList->Tq,find?_toList->T8,toList_map->Vb
open PySem.Calls renaming spliced_cons->Ks,callWith_builtin->KJ,spliced_nil->KL,evalArgs_plain->NC,Name_function_global->Qs
open PyVbemac renaming steps->Ky
open PySem.NameKind renaming free->KY,cell->Qr
open Int renaming toNat_of_nonneg->LW
open PySem.Builtin.SmallTypes renaming ownedTupleIsFree->Mi,nextOf->NH
open UInt8 renaming toNat->Mt,ofNat->NI,toNat_inj->P4,ofNat_toNat->UC,toNat_lt->Wa
open ForInStep renaming yield->MQ
open Vbemac.Known renaming taken->Na
open PySem.Heap.Ns1 renaming of_empty->Og
open PySem.Builtin.Dict renaming updateFrom->PJ
open PySem.Paired renaming length->QJ,snoc->Yt
open Nat.succ renaming inj->QK
open PySem.EntryCells renaming newEntry->QX
open PySem.SeqAt.EqAt renaming int_str->Rt,str_int->Ru
open PySem.Around renaming under->Rv,under_plainId->Sd
open PySem.Code renaming isFrame->Si,quiet_builtin->Uz
open PySem.Heap.DictOf renaming new->Sv
open Vbemac.Exp renaming call->SQ
open PySem.Data renaming seq->Tv
open PySem.Value.type renaming inj->Tw
open PySem.Txt renaming join->Ud
open Int.ofNat renaming inj->UP
open PySem.Bind renaming checkArgs->WX
open Sum.inl renaming inj->W7
open PySem.Str renaming join->Yu
open PySem.Within renaming cons->Yv
open PySem.Heap.IsSliceOf renaming new->aa8
set_option Elab.async false
set_option linter.all false
set_option maxRecDepth 100000
set_option cleanup.letToHave false
set_option maxHeartbeats 4000000
set_option maxRecDepth 100000 in
set_option maxHeartbeats 0 in
theorem OS.aa9:PySem.Challenge.rw_ordersheets_s06_steps.wellSaid=FB:=by decide+kernel
namespace OS
open PySem PySem.W
def live (o:Ih):ET Ih:=match o with
 |⟨_,_, .freed,_⟩=>Fa
 |o=>EQ o
noncomputable def pick (l:EA Ih):E1->EA E1->EA (ET Ih):=
 @EA.rec Ih (λ_=>E1->EA E1->EA (ET Ih)) (λ_ _=>[])
  (λo _ f i as=> @EA.rec E1 (λ_=>EA (ET Ih)) [] (λa t _=> @FR.rec (λ_=>EA (ET Ih)) (f (Q0 i) as) (live o::f (Q0 i) t) (E1.beq a i)) as) l
theorem yC (o:Ih) (l:EA Ih) (i a:E1) (t:EA E1):pick (o::l) i (a::t)=if a=i then live o::pick l (i+1) t else pick l (i+1) (a::t):=by
 show @FR.rec (λ_=>EA (ET Ih)) _ _ (E1.beq a i)=_
 cases h:E1.beq a i
 ·rw[EI (E1.ne_of_beq_eq_false h)];rfl
 ·rw[EL (E1.eq_of_beq_eq_true h)];rfl
theorem DM {K:EA (E1×Ih)}(l:EA Ih): ∀(i:E1),pick l i (K.map (·.1))=K.map (λp=>EQ p.2)-> ∀p∈K,i<=p.1/\l[p.1-i]?.bind live=EQ p.2:=by
 induction l generalizing K with
 |nil=>
  intro i h p hp;cases K with
  |nil=>cases hp
  |cons q r=>cases h
 |cons o l ih=>
  intro i h p hp;cases K with
  |nil=>cases hp
  |cons q r=>
   rw[Fe,yC] at h;split at h
   ·rename_i e
    obtain⟨h1,h2⟩:=IZ h;rcases EW.mp hp with z|z
    ·rw[z,e,PK];exact#[E6 _,h1]
    ·have⟨a,b⟩:=ih (i+1) h2 p z
     refine#[by lia,?_];rw[show p.1-i=p.1-(i+1)+1 by lia];exact b
   ·have⟨a,b⟩:=ih (K:=q::r) (i+1) h p hp
    refine#[by lia,?_];rw[show p.1-i=p.1-(i+1)+1 by lia];exact b
theorem ub {K:Frag}{a:E1}{o:Ih}(e:K.lookup a=EQ o):(a,o)∈K:=by
 induction K with
 |nil=>cases e
 |cons p r ih=>
  obtain⟨b,x⟩:=p;simp only[IM] at e;split at e
  ·rename_i q;cases e;rw[beq_iff_eq.mp q];exact .head _
  ·exact .tail _ (ih e)
noncomputable def hook (K:Params->Frag) (as:EA E1) (e: ∀P,as=(K P).map (·.1)):Hook:=
 #[EA (ET Ih),λs=>pick s.heap.objs.toList 0 as,λw=>(K w.params).map λp=>EQ p.2,InK K,λw s h a o x=>by
  rw[e w.params] at h;have:=(DM _ 0 h _ (ub x)).2;rw[Sb] at this;unfold Gn.get?;cases z:s.heap.objs[a]? with
  |none=>rw[show(a,o).1-0=a from rfl,z] at this;cases this
  |some y=>rw[show(a,o).1-0=a from rfl,z] at this;rcases y with⟨_,_,x,_⟩;cases x<;>exact this,InK.keeps]
theorem UQ {K:Params->Frag}{as:EA E1}{e: ∀P,as=(K P).map (·.1)} {w:Ga}{h:Gn}(Y:(hook K as e).says w h):(K w.params).In h:=Y
end OS
namespace L2
open PySem PySem.Spec PyProof.Rows
abbrev a0:=Sum Int Fh
def jf:a0->EH->FR
 | .inl k,v=>EH.isInt k v
 | .inr x,v=>Oh x v
def ah3 (w:Ga):a0->Int
 | .inl k=>hashInt k
 | .inr x=>hashStr w x
theorem cF: ∀ {k:a0}{v:EH},jf k v=FB->(∃i t,k=Ji i/\v=JL i t)\/(∃x t,k=Hu x/\v=NQ x t)
 | .inl i,v,h=>by
  obtain⟨t,e⟩:=EH.isInt_shape (k:=i) (v:=v) h;exact .inl #[i,t,FS,e]
 | .inr x,v,h=>by
  obtain⟨t,e⟩:=EH.isStrOf_shape (x:=x) (v:=v) h;exact .inr #[x,t,FS,e]
theorem Yx (a b:Int):decide ((Ji a:a0)=Ji b)=(a == b):=by
 by_cases e:a=b
 ·subst e;simp
 ·have h: ¬(Ji a:a0)=Ji b:=λq=>e (W7 q)
  rw[FA h];exact(beq_eq_false_iff_ne.mpr e).symm
theorem Yy (a b:Fh):decide ((Hu a:a0)=Hu b)=decide (a=b):=by
 by_cases e:a=b
 ·subst e;simp
 ·have h: ¬(Hu a:a0)=Hu b:=λq=>e (Ja q)
  rw[FA h,FA e]
theorem Yz (a:Int) (b:Fh):decide ((Ji a:a0)=Hu b)=FM:=FA (λq=>nomatch q)
theorem YA (a:Fh) (b:Int):decide ((Hu a:a0)=Ji b)=FM:=FA (λq=>nomatch q)
def aT (prog:Fz) (w:Ga):PySem.KeyKind prog w a0 where
 is:=jf
 hash:=ah3 w
 inj:=λv a b ha hb=>by
  rcases cF ha with⟨i,t,rfl,rfl⟩|⟨x,t,rfl,rfl⟩
  ·rcases cF hb with⟨j,u,rfl,e⟩|⟨y,u,rfl,e⟩
   ·injection e with e1 _;rw[e1]
   ·exact nomatch e
  ·rcases cF hb with⟨j,u,rfl,e⟩|⟨y,u,rfl,e⟩
   ·exact nomatch e
   ·injection e with e1 _;rw[e1]
 byValue:=λk v h=>by
  rcases cF h with⟨i,t,rfl,rfl⟩|⟨x,t,rfl,rfl⟩<;>rfl
 pyHash:=λhv h=>by
  rcases cF hv with⟨i,t,rfl,rfl⟩|⟨x,t,rfl,rfl⟩
  ·exact wpAny_pyHash_int h
  ·exact wpAny_pyHash_str h
 eqBool:=λhu hv h=>by
  rcases cF hu with⟨i,t,rfl,rfl⟩|⟨x,t,rfl,rfl⟩
  ·rcases cF hv with⟨j,u,rfl,rfl⟩|⟨y,u,rfl,rfl⟩
   ·rw[Yx] at h;exact wpAny_eqBool_int h
   ·rw[Yz] at h;exact Rt i t y u _ _ _ _ h
  ·rcases cF hv with⟨j,u,rfl,rfl⟩|⟨y,u,rfl,rfl⟩
   ·rw[YA] at h;exact Ru x t j u _ _ _ _ h
   ·rw[Yy] at h;exact wpAny_eqBool_str h
 «strs»:=λk x t v h=>by
  rcases cF h with⟨i,u,rfl,e⟩|⟨y,u,rfl,e⟩
  ·exact nomatch e
  ·injection e with e1 _
   subst e1;cases v<;>rfl
inductive V where
 |HZ|bl (b:FR)|int (i:Int)|str (x:Fh)|RF (b:IQ Io)|W8 (b:UInt64)|ref (a:EJ)|ty (n:String)
 deriving DecidableEq
def bh:V->EH->Prop
 | .HZ,u=>u=Hn
 | .bl b,u=>u=L7 b
 | .int i,u=> ∃t,u=JL i t
 | .str x,u=> ∃t,u=NQ x t
 | .RF b,u=> ∃t,u=EH.bytes b t
 | .W8 b,u=> ∃t,u=SO b t
 | .ref a,u=>u=Fq a
 | .ty n,u=>u=L8 n
abbrev aX:EA V->EA EH->Prop:=Paired bh
def fR:ET V->ET EH->Prop
 |some v,some u=>bh v u
 |none,none=>True
 |_,_=>False
def KV {κ:Type} :EA (κ×V)->EA (κ×EH)->Prop:=Paired λ(p:κ×V) (q:κ×EH)=>p.1=q.1/\bh p.2 q.2
def kV:a0->V
 | .inl i=> .int i
 | .inr x=> .str x
inductive HO where
  |lst (xs:EA V)
  |tup (xs:EA V)
  |dK (aC:EA (a0×V))|dT (aC:EA (EA a0×V))
  |set (S:Int->FR) (n:E1)
  |ins (C dx:EJ) (fs:EA (Fh×V))
  |own (x:EJ)
  |xd (fs:EA (Fh×V))
  |met (f x:EJ)
  |rng (lo hi:Int)
  |P5 (o:Ih) (u:HO)
  |YB (ps:IQ EH)
  |ext (φ:Gn->Prop)
abbrev Hp:=EJ->ET HO
section
variable (P:Fz) (w:Ga)
def cw (H:Hp) (h:Gn) (a:EJ):HO->Prop
 | .lst xs=>xs.length<=FE/\ ∃(Hc:EA EH) (n:E1),aX xs Hc/\h.get? a=EQ { cls:= .type "list",data:= .seq Hc.toArray n }
 | .tup xs=>xs.length<=FE/\ ∃Hc:EA EH,aX xs Hc/\IsTup h a Hc.toArray
 | .dK aC=>aC.length<=FE/\(a == HN)=FM/\ ∃vs,KV aC vs/\h.DictOf (aT P w) a vs
 | .dT aC=>aC.length<=FE/\(a == HN)=FM/\ ∃xs:EA (EA a0×EJ×EH),
   Paired (λ(p:EA a0×V) (q:EA a0×EJ×EH)=>p.1=q.1/\H q.2.1=EQ (.tup (p.1.map kV))/\bh p.2 q.2.2) aC xs/\
   ∃o es ep,h.get? a=EQ o/\o.ExactDict/\o.data= .dict es ep/\es.toList=xs.map (entryOfKey (MM (aT P w)))/\(xs.map (·.1)).Nodup
 | .set S n=>h.SetOf (intKind P w) a S n
 | .ins C dx fs=>H dx=EQ (.own a)/\fs.length<=1000/\dx≠a/\h.get? a=EQ (IV C dx)/\
   ∃mA,h.Ns1 dx mA/\(∀f,fR (fs.lookup f) (mA f))/\M5 mA (fs.map (·.1))
 | .own _=> ∃o,h.get? a=EQ o
 | .xd fs=> ∃mA,h.Ns1 a mA/\ ∀f,fR (fs.lookup f) (mA f)
 | .rng lo hi=> ∃t u v,h.get? a=EQ { cls:= .type "range",data:= .fields [.int lo t, .int hi u, .int 1 v].toArray }
 | .P5 o u=>h.get? a=EQ o/\cw H h a u
 | .YB ps=>h.get? a=EQ { cls:= .none,data:= .fields ps }
 | .met f x=>h.get? a=EQ (Oj (.ref f) (.ref x))
 | .ext φ=>φ h/\(∃o,h.get? a=EQ o)/\ ∀h1 h2:Gn,φ h1->(∀o,h1.get? a=EQ o->h2.get? a=EQ o)->φ h2
def h9 (H:Hp) (h:Gn):Prop:= ∀a o,H a=EQ o->cw P w H h a o
end
def Rd (H:Hp) (a:EJ) (u:HO):Prop:=H a=EQ u\/ ∃o,H a=EQ (.P5 o u)
theorem Rd.ok {P:Fz}{w:Ga}{H:Hp}{h:Gn}{a:EJ}{u:HO}(r:Rd H a u) (x:h9 P w H h):cw P w H h a u:=by
 rcases r with r|⟨o,r⟩
 ·exact x a u r
 ·obtain⟨_,q⟩:=x a _ r
  exact q
structure Un (fs ex:EA EJ) (H H':Hp) (h h':Gn):Prop where
 keep: ∀b o,h.get? b=EQ o->H b=Fa->b∉fs->b∉ex->h'.get? b=EQ o
 slot: ∀b o,h.get? b=EQ o->H b=Fa->b∈fs->b∉ex-> ∃sl,h'.get? b=EQ { o with slots:=sl }
 free: ∀b o,h.get? b=EQ o->H b=Fa->b∉ex->H' b=Fa
 there: ∀b o,h.get? b=EQ o->b∉ex-> ∃o',h'.get? b=EQ o'
 Qw: ∀b xs,H b=EQ (.tup xs)->H' b=EQ (.tup xs)
 P6: ∀b o u,H b=EQ (.P5 o u)->H' b=EQ (.P5 o u)
 Qx: ∀b ps,H b=EQ (.YB ps)-> ∃more,H' b=EQ (.YB (ps++more))
def CG (h:Gn) (H:Hp):EA EJ:=(IS h.objs.size).filter λa=>(H a).isSome
def qp (h:Gn) (H:Hp):Gn:=PySem.W.hideAll h (CG h H)
theorem yc (h:Gn) (H:Hp):(qp h H).objs.size=h.objs.size:=PySem.W.hideAll_size _ _
theorem Cc {h:Gn}{H:Hp}{b:EJ}{o:Ih}(e:h.get? b=EQ o) (n:H b=Fa):(qp h H).get? b=EQ o:=
 PySem.W.hideAll_get _ e λhm=>by
  have q:(H b).isSome=FB:=(V6.mp hm).2;rw[n] at q;simp at q
theorem Df {h:Gn}{H:Hp}{b:EJ}{o:Ih}(e:(qp h H).get? b=EQ o):h.get? b=EQ o/\H b=Fa:=by
 have e':h.get? b=EQ o:=PySem.W.of_hideAll (CG h H) e;refine#[e',?_];cases q:H b with
 |none=>rfl
 |some x=>
  have hm:b∈CG h H:=V6.mpr #[EA.mem_range.mpr (Fn e'),by simp [q]]
  have z:(qp h H).get? b=Fa:=PySem.W.hideAll_none (CG h H) hm;rw[z] at e;cases e
structure Mod (K:EF) (mg:Fh->ET EH) (base:Gn):Prop where
 UQ:K.In base
 glob:base.Ns ID mg
 blt: ∃mb,base.Ns Ym mb/\ ∀x:Fh,x≠"__name__"->mb x=Kr x
 nolimit:base.NoLimit
def rl (l:EA Env):EA EJ:=l.filterMap (·.frame)
abbrev XK:=EH->ET EJ->Hp->Prop
abbrev VK:=V->Hp->Prop
def cO (K:EF) (H:Hp) (a:EJ) (xs:EA V):Prop:=
 Rd H a (.lst xs)\/
  ∃(o:Ih) (Hc:IQ EH) (n:E1),K.lookup a=EQ o/\o.cls= .type "list"/\o.dict=Fa/\o.data= .seq Hc n/\Hc.size<=FE/\aX xs Hc.toList
def rh (K:EF) (H:Hp) (a:EJ) (xs:EA V):Prop:=
 Rd H a (.tup xs)\/
  ∃(o:Ih) (Hc:IQ EH) (n:E1),K.lookup a=EQ o/\o.cls= .type "tuple"/\o.data= .seq Hc n/\Hc.size<=FE/\aX xs Hc.toList
section
variable {X:Cx}{pins:EA (EJ×Ih)}{σ:St}{H:Hp}{s:EM}{a:EJ}{xs ys:EA V}
theorem cO.of {K:EF}(h:H a=EQ (.lst xs)):cO K H a xs:= .inl (.inl h)
end
structure gw (K:EF) (C:EJ):Prop where
 pg:My K C Fh.empty=FB
 hd:Ol K C=FB
 po:Ts K C=FB
 sa:Hh K (.ref C) "__setattr__"=EQ (EQ (.builtin "object.__setattr__"))
def ak (K:EF) (C:EJ) (f:Fh):Prop:=Hh K (.ref C) f=EQ Fa
structure Meth (K:EF) (C:EJ) (m:Fh) (f:EJ):Prop where
 at_:Hh K (.ref C) m=EQ (EQ (.ref f))
 fn:Oq K (.ref f)=FB
 kp:HR K (.ref f)=FB
structure bW (k:E1) (A:Gk):Prop where
 hd:A.handled=Fa
 dp:A.depth+2*k+5<recursionLimit
 un:A.units+16*k+200<OX
abbrev Sp:=EA V->Hp->VK->XK->Prop
abbrev pS:=EA Env->Hp->EM->XK->EH->EM->Prop
structure vg (P:Fz) (w:Ga) (K:EF) (mg:Fh->ET EH) (base:Gn) (A:Gk) (outer:EA Env) (s:EM) (H:Hp):Prop where
 frames:A.frames=EQ outer
 mod:Mod K mg base
 bs: ∀b o,base.get? b=EQ o->s.heap.get? b=EQ o/\H b=Fa
 Ue:base.objs.size<=s.heap.objs.size
 funs:s.heap.FunFrames base outer
 VU: ∀b∈rl outer,H b=Fa
 HH:h9 P w H s.heap
 bare:Pg s.gens
def CE (outer:EA Env) (P:Fz) (w:Ga) (H:Hp) (s:EM) (Q:VK) (u:EH) (s':EM):Prop:=
 ∃v H',s'.os=s.os/\Pg s'.gens/\Un (rl outer) [] H H' s.heap s'.heap/\h9 P w H' s'.heap/\bh v u/\Q v H'
def CR (CX:pS) (outer:EA Env) (P:Fz) (w:Ga) (H:Hp) (s:EM) (Q:VK) (E:XK) (r:Result) (s':EM):Prop:=
 match r with
 | .ok (.ret u)=>CE outer P w H s Q u s'
 | .ok _=>False
 | .error e=>CX outer H s E e s'
structure bS (P:Fz) (w:Ga) (K:EF) (mg:Fh->ET EH) (base:Gn) (CX:pS) (k:E1) (f:EJ) (fd:FL) (ps:EA Fh) (sp:Sp):Prop where
 len: ∀vs H Q E,sp vs H Q E->vs.length=ps.length
 run: ∀(A:Gk) (outer:EA Env) (s:EM) (H:Hp) (args:Args) (us:EA EH) (vs:EA V) (Q:VK) (E:XK),bW k A->vg P w K mg base A outer s H->Se s fd args (ps.zip us)->aX vs us->sp vs H Q E->
  KP (model P w) A (.call (.ref f) args) (CR CX outer P w H s Q E) s
def gk (K:EF) (fd:FL) (ps:EA Fh) (ds:EA EH):Prop:=
 ∀(s:EM) (us:EA EH),K.In s.heap->(us++ds).length=ps.length->Se s fd #[us,[]] (ps.zip (us++ds))
theorem gk.all {K:EF}{fd:FL}{ps:EA Fh}(h: ∀us:EA EH,us.length=ps.length->GQ fd #[us,[]]=pure (ps.zip us)):gk K fd ps []:=λs us _ hl=>by
 rw[Gw] at hl ⊢;exact .of_eq (h us hl)
section
variable {X:Cx}{CX:pS}{k:E1}{f C:EJ}{fd:FL}{ps:EA Fh}{sp:Sp}{QL:EA V}{ds:EA EH}{E:XK}{x m:Fh}{p pos Kx:Pos}{e o:G8}{es:EA G8}{ta:TE}{t:TA}
structure CD (K:EF) (mg:Fh->ET EH) (x:Fh) (f:EJ) (fd:FL) (ps:EA Fh):Prop where
 m:mg x=EQ (.ref f)
 k:HR K (.ref f)=FB
 b:gk K fd ps []
structure MD (K:EF) (C:EJ) (m:Fh) (f:EJ) (fd:FL) (ps:EA Fh):Prop where
 m:Meth K C m f
 b:gk K fd ps []
structure Mk (K:EF) (C f:EJ):Prop where
 makes:UJ K C=FB
 init:Hh K (.ref C) "__init__"=EQ (EQ (.ref f))
 fn:Oq K (.ref f)=FB
 kp:HR K (.ref C)=FB
end
def aB (s:Stmt) (j:E1):Stmt:=match s with
 | .ClassDef _ _ _ body _ _ _ _ _ _ _=>body.getD j (.Pass #[0,0,0,0])
 |_=> .Pass #[0,0,0,0]
def dM (s:Stmt):Arguments:=match s with
 | .FunctionDef _ a _ _ _ _ _ _ _ _=>a
 |_=> { posonlyargs:=[],args:=[],vararg:=Fa,kwonlyargs:=[],kw_defaults:=[],kwarg:=Fa,defaults:=[] }
def a8 (s:Stmt):EA Stmt:=match s with
 | .FunctionDef _ _ b _ _ _ _ _ _ _=>b
 |_=>[]
def af (s:Stmt):Scope:=match s with
 | .FunctionDef _ _ _ _ _ _ sc _ _ _=>sc
 |_=> { kind:= .function,names:=[],isGenerator:=FM,isCoroutine:=FM }
abbrev wG:pS:=λ_ _ _ _ _ _=>False
structure oF (K:EF) (x Gz:Fh) (st:Stmt) (f:EJ) (fd:FL):Prop where
 ex: ∃(oc:EH) (od:ET EJ) (kV doc pm:EH) (an:ET EJ) (Gp ct:EH) (VV:IQ (ET EH)),
  fd=HB x Gz (dM st) (a8 st) (af st) .none kV doc pm an Gp ct/\K.lookup f=EQ #[oc,od, .func fd,VV]/\KA K Gp Gz=FB
 kp:HR K (.ref f)=FB
section
variable {P:Fz}{w:Ga}{K:EF}{mg:Fh->ET EH}{base:Gn}
theorem oF.binds {x Gz:Fh}{st:Stmt}{f:EJ}{fd:FL}{ps:EA Fh}(F:oF K x Gz st f fd)
  (h: ∀(kV doc pm:EH) (an:ET EJ) (Gp ct:EH) (us:EA EH),us.length=ps.length->GQ (HB x Gz (dM st) (a8 st) (af st) .none kV doc pm an Gp ct) #[us,[]]=pure (ps.zip us)):gk K fd ps []:=by
 obtain⟨oc,od,kV,doc,pm,an,Gp,ct,VV,rfl,lk,RG⟩:=F.ex;exact .all (h kV doc pm an Gp ct)
theorem kH {x Gz:Fh}{st:Stmt}{f:EJ}{oc:EH}{od an:ET EJ}{VV:IQ (ET EH)}{kV doc pm Gp ct:EH}(l:K.lookup f=EQ #[oc,od, .func (HB x Gz (dM st) (a8 st) (af st) .none kV doc pm an Gp ct),VV])
  (c:KA K Gp Gz=FB) (k:HR K (.ref f)=FB):oF K x Gz st f (HB x Gz (dM st) (a8 st) (af st) .none kV doc pm an Gp ct):=#[#[oc,od,kV,doc,pm,an,Gp,ct,VV,FS,l,c],k]
end
end L2
section
set_option maxHeartbeats 2000000
namespace L2
open PySem PySem.Spec PyProof.Rows
open PySem.W (WData Codec OpenSpec Well WellAll ReadsW ReadsAllW)
mutual
inductive Dw (K:EF) (H:Hp):V->WData->Prop
 |HZ:Dw K H .HZ .none
 |bl (b:FR):Dw K H (.bl b) (.bool b)
 |int (i:Int):Dw K H (.int i) (.int i)
 |str (x:Fh):Dw K H (.str x) (.str x)
 |RF (b:IQ Io):Dw K H (.RF b) (.bytes b.toList)
 |lst {a:EJ}{xs:EA V}{ds:EA WData} :cO K H a xs->h8 K H xs ds->Dw K H (.ref a) (.list ds)
 |tup {a:EJ}{xs:EA V}{ds:EA WData} :rh K H a xs->h8 K H xs ds->Dw K H (.ref a) (.tuple ds)
inductive h8 (K:EF) (H:Hp):EA V->EA WData->Prop
 |nil:h8 K H [] []
 |cons {v:V}{vs:EA V}{d:WData}{ds:EA WData} :Dw K H v d->h8 K H vs ds->h8 K H (v::vs) (d::ds)
end
theorem xq {K:EF}{H:Hp} : ∀ns:EA Int,h8 K H (ns.map V.int) (ns.map WData.int)
 |[]=> .nil
 |n::r=> .cons (.int n) (xq r)
theorem wT {K:EF}{H:Hp} : ∀(ns:EA Int) (xs:EA V),h8 K H xs (ns.map WData.int)->xs=ns.map V.int
 |[],xs,h=>by
  cases h
  rfl
 |n::r,xs,h=>by
  cases h with
  |cons h1 h2=>
   cases h1;rw[wT r _ h2]<;>rfl
section
variable {P:Fz}{w:Ga}{K:EF}{H:Hp}{h:Gn}{R:Ub}{cl:Fh->ET EJ}
theorem YC {a:EJ}(HH:h9 P w H h) (KX:K.In h) (q:cO K H a xs): ∃(Hc:EA EH) (o:Ih) (n:E1),aX xs Hc/\h.get? a=EQ o/\o.cls= .type "list"/\o.data= .seq Hc.toArray n:=by
 rcases q with q|⟨o,Hc,n,e,hc,_,hd,_,hv⟩
 ·obtain⟨_,Hc,n,hv,e⟩:=(show cw P w H h a (.lst xs) from q.ok HH)
  exact#[Hc,_,n,hv,e,FS,FS]
 ·exact#[Hc.toList,o,n,hv,KX _ _ e,hc,by simp [hd]]
theorem YD {a:EJ}(HH:h9 P w H h) (KX:K.In h) (q:rh K H a xs): ∃(Hc:EA EH) (o:Ih) (n:E1),aX xs Hc/\h.get? a=EQ o/\o.cls= .type "tuple"/\o.data= .seq Hc.toArray n:=by
 rcases q with q|⟨o,Hc,n,e,hc,hd,_,hv⟩
 ·obtain⟨_,Hc,hv,o,e,hc,n,hd⟩:=(show cw P w H h a (.tup xs) from q.ok HH)
  exact#[Hc,o,n,hv,e,hc,hd]
 ·exact#[Hc.toList,o,n,hv,KX _ _ e,hc,by simp [hd]]
mutual
theorem Dw.reads (HH:h9 P w H h) (KX:K.In h): ∀(d:WData) (v:V) (u:EH),Dw K H v d->bh v u-> ∃as,ReadsW R cl h u d as
 | .none,_,_,x,r=>by
  cases x;cases r;exact#[_,ReadsW.none]
 | .bool b,_,_,x,r=>by
  cases x;cases r;exact#[_,ReadsW.bool b]
 | .int i,_,_,x,r=>by
  cases x;obtain⟨t,rfl⟩:=r;exact#[_,ReadsW.int i t]
 | .str s,_,_,x,r=>by
  cases x;obtain⟨t,rfl⟩:=r;exact#[_,ReadsW.str s t]
 | .bytes b,_,_,x,r=>by
  cases x;obtain⟨t,rfl⟩:=r;exact#[_,ReadsW.bytes _ t]
 | .list ds,_,_,x,r=>by
  cases x with
  |lst hs ha=>
   cases r;obtain⟨Hc,o,n,rv,ho,hc,hd⟩:=YC HH KX hs;obtain⟨as,hr⟩:=Dw.readsAll HH KX ds _ Hc ha rv;exact#[_,ReadsW.list ho hc hd hr]
 | .tuple ds,_,_,x,r=>by
  cases x with
  |tup hs ha=>
   cases r;obtain⟨Hc,o,n,rv,ho,hc,hd⟩:=YD HH KX hs;obtain⟨as,hr⟩:=Dw.readsAll HH KX ds _ Hc ha rv;exact#[_,ReadsW.tuple ho hc hd hr]
 | .float _,_,_,x,_=>by cases x
 | .dict _,_,_,x,_=>by cases x
 | .bytearray _,_,_,x,_=>by cases x
 | .set _,_,_,x,_=>by cases x
 | .frozenset _,_,_,x,_=>by cases x
 | .obj _ _,_,_,x,_=>by cases x
theorem Dw.readsAll (HH:h9 P w H h) (KX:K.In h): ∀(ds:EA WData) (vs:EA V) (us:EA EH),h8 K H vs ds->aX vs us-> ∃as,ReadsAllW R cl h us ds as
 |[],_,_,x,r=>by
  cases x;cases r;exact#[_,ReadsAllW.nil]
 |d::ds,_,_,x,r=>by
  cases x with
  |cons h1 h2=>
   cases r with
   |cons r1 r2=>
    obtain⟨as,q1⟩:=Dw.reads HH KX d _ _ h1 r1;obtain⟨bs,q2⟩:=Dw.readsAll HH KX ds _ _ h2 r2;exact#[_,ReadsAllW.cons q1 q2]
end
end
mutual
def xf:WData->FR
 | .none=>FB
 | .bool _=>FB
 | .int _=>FB
 | .str _=>FB
 | .bytes _=>FB
 | .list xs=>lV xs
 | .tuple xs=>lV xs
 |_=>FM
def lV:EA WData->FR
 |[]=>FB
 |x::r=>xf x&&lV r
end
theorem rT {α:Type}{f:α->WData}(h: ∀a,xf (f a)=FB): ∀l:EA α,lV (l.map f)=FB
 |[]=>rfl
 |x::r=>by
  show(xf (f x)&&lV (r.map f))=FB
  rw[h x,rT h r]<;>rfl
theorem iC: ∀(c:Codec) (a:c.denote),xf (c.enc a)=FB
 | .unit,_=>rfl
 | .bool,_=>rfl
 | .int _ _,_=>rfl
 | .nat _ _,_=>rfl
 | .u8,_=>rfl
 | .bytes _ _,_=>rfl
 | .text _ _ _ _,_=>rfl
 | .list _ _ c,a=>rT (λx=>iC c x) a
 | .pair c d,a=>by
  show(xf (c.enc a.1)&&(xf (d.enc a.2)&&FB))=FB
  rw[iC c a.1,iC d a.2]<;>rfl
 | .triple c d e,a=>by
  show(xf (c.enc a.1)&&(xf (d.enc a.2.1)&&(xf (e.enc a.2.2)&&FB)))=FB
  rw[iC c a.1,iC d a.2.1,iC e a.2.2]<;>rfl
 | .option c,none=>rfl
 | .option c,some x=>iC c x
theorem pT: ∀(cs:EA Codec) (a:Codec.denoteAll cs),lV (Codec.encAll cs a)=FB
 |[],_=>rfl
 |c::cs,a=>by
  show(xf (c.enc a.1)&&lV (Codec.encAll cs a.2))=FB
  rw[iC c a.1,pT cs a.2]<;>rfl
theorem jD: ∀ {xs:EA WData}{d:WData},d∈xs->d.weight<=WData.weightAll xs
 |[],d,h=>E7 h (by simp)
 |x::r,d,h=>by
  show d.weight<=x.weight+1+WData.weightAll r
  rcases EW.mp h with e|m
  ·rw[e]
   omega
  ·have z:=jD m
   omega
def rY:EH->V
 | .none=> .HZ
 | .bool b=> .bl b
 | .int i _=> .int i
 | .str x _=> .str x
 | .bytes b _=> .RF b
 | .ref a=> .ref a
 |_=> .HZ
def xA (A:EA EJ):EH->Prop
 | .none=>True
 | .bool _=>True
 | .int _ _=>True
 | .str _ _=>True
 | .bytes _ _=>True
 | .ref a=>a∈A
 |_=>False
theorem xA.mono {A B:EA EJ}(h: ∀a∈A,a∈B): ∀ {u:EH},xA A u->xA B u:=λ{u} x=>by
 cases u with
 |ref a=>exact h a x
 |none=>trivial
 |bool b=>trivial
 |int i t=>trivial
 |str s t=>trivial
 |bytes b t=>trivial
 |_=>exact HW x
theorem Ar {A:EA EJ}(x:xA A u):bh (rY u) u:=by
 cases u with
 |ref a=>rfl
 |none=>rfl
 |bool b=>rfl
 |int i t=>exact#[t,FS]
 |str s t=>exact#[t,FS]
 |bytes b t=>exact#[t,FS]
 |_=>exact HW x
theorem gz {A:EA EJ} : ∀ {vs:EA EH},(∀u∈vs,xA A u)->aX (vs.map rY) vs
 |[],_=> .nil
 |u::r,h=> .cons (Ar (h u (EO ..))) (gz λx hx=>h x (EN _ hx))
def hX (h:Gn) (A:EA EJ) (a:EJ):Prop:= ∃vs:EA EH,vs.length<=FE/\(∀u∈vs,xA A u)/\
 (h.get? a=EQ { cls:= .type "list",data:= .seq vs.toArray } \/h.get? a=EQ { cls:= .type "tuple",data:= .seq vs.toArray })
theorem hX.mono {h:Gn}{A B:EA EJ}{a:EJ}(k: ∀a∈A,a∈B) (x:hX h A a):hX h B a:=by
 obtain⟨vs,h1,h2,h3⟩:=x;exact#[vs,h1,λu hu=>(h2 u hu).mono k,h3]
theorem gb {P:Params}{h:Gn} : ∀ {vs:EA EH}{ds:EA WData},WellAll P h vs ds->vs.length=ds.length
 |_,_, .nil=>rfl
 |_,_, .cons _ b=>by
  show _+1=_+1
  rw[gb b]
theorem pM {P:Params}{h:Gn}(x:Well P h v (.list ds)): ∃(a:EJ) (vs:EA EH),v= .ref a/\h.get? a=EQ { cls:= .type "list",data:= .seq vs.toArray } /\WellAll P h vs ds:=by
 cases x with
 |list ho OY=>exact#[_,_,FS,ho,OY]
theorem nI {P:Params}{h:Gn}(x:Well P h v (.tuple ds)): ∃(a:EJ) (vs:EA EH),v= .ref a/\h.get? a=EQ { cls:= .type "tuple",data:= .seq vs.toArray } /\WellAll P h vs ds:=by
 cases x with
 |tuple ho OY=>exact#[_,_,FS,ho,OY]
theorem pb {P:Params}{h:Gn}(x:WellAll P h us (d::ds)): ∃(v:EH) (vs:EA EH),us=v::vs/\Well P h v d/\WellAll P h vs ds:=by
 cases x with
 |cons a b=>exact#[_,_,FS,a,b]
theorem xg (h:n<=1048576):n<=FE:=Fj h [01]
section
variable {P:Params}{h:Gn}
mutual
theorem CC: ∀(d:WData) (v:EH),Well P h v d->xf d=FB->d.weight<=1048576-> ∃A:EA EJ,xA A v/\ ∀a∈A,hX h A a
 | .none,_,x,_,_=>by
  cases x;exact#[[],trivial,λa m=>E7 m (by simp)]
 | .bool b,_,x,_,_=>by
  cases x;exact#[[],trivial,λa m=>E7 m (by simp)]
 | .int i,_,x,_,_=>by
  cases x;exact#[[],trivial,λa m=>E7 m (by simp)]
 | .str s,_,x,_,_=>by
  cases x;exact#[[],trivial,λa m=>E7 m (by simp)]
 | .bytes b,_,x,_,_=>by
  cases x;exact#[[],trivial,λa m=>E7 m (by simp)]
 | .list ds,_,x,p,z=>by
  obtain⟨a,vs,rfl,ho,OY⟩:=pM x;have z2:WData.weightAll ds<=1048576:=z;obtain⟨A,h1,h2⟩:=j4 ds _ OY p λd hd=>Fj (jD hd) z2;have k: ∀b∈A,b∈a::A:=λb hb=>EN _ hb
  refine#[a::A,EO ..,λb hb=>?_];rcases EW.mp hb with e|m
  ·rw[e]
   exact#[vs,xg (by rw[gb OY];exact Fj (PH ds) z2),λu hu=>(h1 u hu).mono k, .inl ho]
  ·exact(h2 b m).mono k
 | .tuple ds,_,x,p,z=>by
  obtain⟨a,vs,rfl,ho,OY⟩:=nI x;have z2:WData.weightAll ds<=1048576:=z;obtain⟨A,h1,h2⟩:=j4 ds _ OY p λd hd=>Fj (jD hd) z2;have k: ∀b∈A,b∈a::A:=λb hb=>EN _ hb
  refine#[a::A,EO ..,λb hb=>?_];rcases EW.mp hb with e|m
  ·rw[e]
   exact#[vs,xg (by rw[gb OY];exact Fj (PH ds) z2),λu hu=>(h1 u hu).mono k, .inr ho]
  ·exact(h2 b m).mono k
 | .float _,_,_,p,_=>GP (show FM=FB from p)
 | .dict _,_,_,p,_=>GP (show FM=FB from p)
 | .bytearray _,_,_,p,_=>GP (show FM=FB from p)
 | .set _,_,_,p,_=>GP (show FM=FB from p)
 | .frozenset _,_,_,p,_=>GP (show FM=FB from p)
 | .obj _ _,_,_,p,_=>GP (show FM=FB from p)
theorem j4: ∀(ds:EA WData) (vs:EA EH),WellAll P h vs ds->lV ds=FB->(∀d∈ds,d.weight<=1048576)-> ∃A:EA EJ,(∀u∈vs,xA A u)/\ ∀a∈A,hX h A a
 |[],_,x,_,_=>by
  cases x;exact#[[],λu m=>E7 m (by simp),λa m=>E7 m (by simp)]
 |d::ds,_,x,p,z=>by
  obtain⟨v,vs,rfl,x1,x2⟩:=pb x;have q:xf d=FB/\lV ds=FB:=Th.mp p;obtain⟨A,a1,a2⟩:=CC d v x1 q.1 (z d (EO ..));obtain⟨B,b1,b2⟩:=j4 ds vs x2 q.2 λe he=>z e (EN _ he);have kA: ∀b∈A,b∈A++B:=λb hb=>Fp.mpr (.inl hb)
  have kB: ∀b∈B,b∈A++B:=λb hb=>Fp.mpr (.inr hb)
  refine#[A++B,λu hu=>?_,λb hb=>?_]
  ·rcases EW.mp hu with e|m
   ·rw[e]
    exact a1.mono kA
   ·exact(b1 u m).mono kB
  ·rcases Fp.mp hb with m|m
   ·exact(a2 b m).mono kA
   ·exact(b2 b m).mono kB
end
end
def Dn (o:Ih):ET HO:=match o.data with
 | .seq vs _=>if(o.cls == L8 "list")=FB then EQ (.P5 o (.lst (vs.toList.map rY))) else EQ (.P5 o (.tup (vs.toList.map rY)))
 |_=>Fa
def gT (K:EF) (h:Gn) (A:EA EJ):Hp:=λb=>if b∈A then(if(K.lookup b).isNone=FB then(h.get? b).bind Dn else Fa) else Fa
def tF (H:Hp):Prop:= ∀b,H b=Fa\/ ∃o u,H b=EQ (.P5 o u)
theorem rX (vs:EA EH):Dn { cls:= .type "list",data:= .seq vs.toArray } =EQ (.P5 { cls:= .type "list",data:= .seq vs.toArray } (.lst (vs.map rY))):=by
 show(if(L8 "list" == L8 "list")=FB then EQ (HO.P5 { cls:= .type "list",data:= .seq vs.toArray } (.lst (vs.toArray.toList.map rY))) else EQ (HO.P5 { cls:= .type "list",data:= .seq vs.toArray } (.tup (vs.toArray.toList.map rY))))=_
 rw[EL (Gr _)]
theorem sA (vs:EA EH):Dn { cls:= .type "tuple",data:= .seq vs.toArray } =EQ (.P5 { cls:= .type "tuple",data:= .seq vs.toArray } (.tup (vs.map rY))):=by
 show(if(L8 "tuple" == L8 "list")=FB then EQ (HO.P5 { cls:= .type "tuple",data:= .seq vs.toArray } (.lst (vs.toArray.toList.map rY))) else EQ (HO.P5 { cls:= .type "tuple",data:= .seq vs.toArray } (.tup (vs.toArray.toList.map rY))))=_
 rw[EI [01]]
section
variable {P:Fz}{w:Ga}{K:EF}{h:Gn}{A:EA EJ}
theorem mh (hb:b∈A) (hk:K.lookup b=Fa) (e:h.get? b=EQ o):gT K h A b=Dn o:=by
 unfold gT;rw[EL hb,hk,EL (show(Fa:ET Ih).isNone=FB from rfl),e]<;>rfl
theorem C7 (q:gT K h A b=EQ u):b∈A/\K.lookup b=Fa:=by
 unfold gT at q;by_cases hb:b∈A
 ·rw[EL hb] at q
  cases hk:K.lookup b with
  |none=>exact#[hb,FS]
  |some o=>
   rw[hk,EI (by simp)] at q;cases q
 ·rw[EI hb] at q
  cases q
theorem lZ (ar: ∀a∈A,hX h A a) (q:gT K h A b=EQ u):K.lookup b=Fa/\ ∃vs:EA EH,vs.length<=FE/\(∀u∈vs,xA A u)/\
  ((h.get? b=EQ { cls:= .type "list",data:= .seq vs.toArray } /\u= .P5 { cls:= .type "list",data:= .seq vs.toArray } (.lst (vs.map rY)))\/
    (h.get? b=EQ { cls:= .type "tuple",data:= .seq vs.toArray } /\u= .P5 { cls:= .type "tuple",data:= .seq vs.toArray } (.tup (vs.map rY)))):=by
 obtain⟨hb,hk⟩:=C7 q;obtain⟨vs,h1,h2,h3⟩:=ar b hb;refine#[hk,vs,h1,h2,?_];rcases h3 with e|e
 ·rw[mh hb hk e,rX] at q
  exact .inl #[e,(E5 q).symm]
 ·rw[mh hb hk e,sA] at q
  exact .inr #[e,(E5 q).symm]
theorem yW (ar: ∀a∈A,hX h A a):tF (gT K h A):=λb=>by
 cases q:gT K h A b with
 |none=>exact .inl rfl
 |some u=>
  obtain⟨_,vs,_,_,⟨_,e⟩|⟨_,e⟩⟩:=lZ ar q
  ·exact .inr #[_,_,by rw[e]]
  ·exact .inr #[_,_,by rw[e]]
theorem Dx (ar: ∀a∈A,hX h A a):h9 P w (gT K h A) h:=λb u q=>by
 obtain⟨_,vs,h1,h2,⟨e,rfl⟩|⟨e,rfl⟩⟩:=lZ ar q
 ·exact#[e,by rw[EY];exact h1,vs,_,gz h2,e]
 ·exact#[e,by rw[EY];exact h1,vs,gz h2,_,e,FS,_,FS]
theorem lX {c c':EH}{vs us:EA EH}(e:(EQ { cls:=c,data:= .seq vs.toArray } :ET Ih)=EQ { cls:=c',data:= .seq us.toArray }):c=c'/\vs=us:=by
 have e1:=E5 e
 have e2:c=c':=FN Ih.cls e1
 have e3:Tv vs.toArray=Tv us.toArray:=FN Ih.data e1;injection e3 with e4;refine#[e2,?_]
 have e5:=FN RE e4
 simpa using e5
theorem ah4 (KX:K.In h) (ar: ∀a∈A,hX h A a) {a:EJ}{vs:EA EH}(ha:a∈A) (e:h.get? a=EQ { cls:= .type "list",data:= .seq vs.toArray }):(∀u∈vs,xA A u)/\cO K (gT K h A) a (vs.map rY):=by
 obtain⟨us,h1,h2,h3⟩:=ar a ha;have hu:us=vs:=by
  rcases h3 with q|q
  ·rw[e] at q
   exact(lX q).2.symm
  ·rw[e] at q
   exact E7 (Tw (lX q).1) [01]
 subst hu;refine#[h2,?_];cases hk:K.lookup a with
 |none=>exact .inl (.inr #[_,by rw[mh ha hk e,rX]])
 |some o=>
  have e2:=KX a o hk;rw[e] at e2;obtain rfl:=E5 e2;exact .inr #[_,us.toArray,_,hk,FS,FS,FS,by rw[F8];exact h1,by simpa using gz h2]
theorem ah5 (KX:K.In h) (ar: ∀a∈A,hX h A a) {a:EJ}{vs:EA EH}(ha:a∈A) (e:h.get? a=EQ { cls:= .type "tuple",data:= .seq vs.toArray }):(∀u∈vs,xA A u)/\rh K (gT K h A) a (vs.map rY):=by
 obtain⟨us,h1,h2,h3⟩:=ar a ha;have hu:us=vs:=by
  rcases h3 with q|q
  ·rw[e] at q
   exact E7 (Tw (lX q).1) [01]
  ·rw[e] at q
   exact(lX q).2.symm
 subst hu;refine#[h2,?_];cases hk:K.lookup a with
 |none=>exact .inl (.inr #[_,by rw[mh ha hk e,sA]])
 |some o=>
  have e2:=KX a o hk;rw[e] at e2;obtain rfl:=E5 e2;exact .inr #[_,us.toArray,_,hk,FS,FS,by rw[F8];exact h1,by simpa using gz h2]
mutual
theorem YE {Pm:Params}(KX:K.In h) (ar: ∀a∈A,hX h A a): ∀(d:WData) (v:EH),Well Pm h v d->xf d=FB->xA A v->Dw K (gT K h A) (rY v) d
 | .none,_,x,_,_=>by
  cases x;exact .HZ
 | .bool b,_,x,_,_=>by
  cases x;exact .bl b
 | .int i,_,x,_,_=>by
  cases x;exact .int i
 | .str s,_,x,_,_=>by
  cases x;exact .str s
 | .bytes b,_,x,_,_=>by
  cases x;have z:=Dw.RF (K:=K) (H:=gT K h A) b.toArray;exact z
 | .list ds,_,x,p,hu=>by
  obtain⟨a,vs,rfl,ho,OY⟩:=pM x;obtain⟨h2,hs⟩:=ah4 KX ar hu ho;exact .lst hs (qh KX ar ds _ OY p h2)
 | .tuple ds,_,x,p,hu=>by
  obtain⟨a,vs,rfl,ho,OY⟩:=nI x;obtain⟨h2,hs⟩:=ah5 KX ar hu ho;exact .tup hs (qh KX ar ds _ OY p h2)
 | .float _,_,_,p,_=>GP (show FM=FB from p)
 | .dict _,_,_,p,_=>GP (show FM=FB from p)
 | .bytearray _,_,_,p,_=>GP (show FM=FB from p)
 | .set _,_,_,p,_=>GP (show FM=FB from p)
 | .frozenset _,_,_,p,_=>GP (show FM=FB from p)
 | .obj _ _,_,_,p,_=>GP (show FM=FB from p)
theorem qh (KX:K.In h) (ar: ∀a∈A,hX h A a): ∀(ds:EA WData) (vs:EA EH),WellAll Pm h vs ds->lV ds=FB->(∀u∈vs,xA A u)->h8 K (gT K h A) (vs.map rY) ds
 |[],_,x,_,_=>by
  cases x;exact .nil
 |d::ds,_,x,p,hu=>by
  obtain⟨v,vs,rfl,x1,x2⟩:=pb x;have q:xf d=FB/\lV ds=FB:=Th.mp p;exact .cons (YE KX ar d v x1 q.1 (hu _ (EO ..))) (qh KX ar ds vs x2 q.2 λu m=>hu u (EN _ m))
end
end
theorem xK {P:Fz}{w:Ga}{K:EF}{mg mb:Fh->ET EH}{CX:pS}{k:E1}{fa:EJ}{fd:FL}{ps:EA Fh}{sp:Sp}{s₁:EM}{vals:EA EH}{ds:EA WData}{R:Ub}{cl:Fh->ET EJ}{d0:WData}
  (KX:K.In s₁.heap) (hns:s₁.heap.Ns ID mg) (hb:s₁.heap.Ns Ym mb) (hbb: ∀x:Fh,x≠"__name__"->mb x=Kr x) (ah6:s₁.heap.NoLimit) (hg:s₁.gens= [].toArray)
  (hwl:WellAll w.params s₁.heap vals ds) (Ma:lV ds=FB) (hwt: ∀d∈ds,d.weight<=1048576) (hr:bW k Sf)
  (F: ∀base:Gn,K.In base->base.Ns ID mg->bS P w K mg base CX k fa fd ps sp) (aba: ∀(s:EM) (us:EA EH),us.length=ps.length->Se s fd #[us,[]] (ps.zip us)) (MJ:ds.length=ps.length)
  (SR: ∀(H:Hp) (xs:EA V),tF H->h8 K H xs ds->sp xs H (λv H'=>Dw K H' v d0) λ_ _ _=>False)
  (hCX: ∀H e s',CX [] H s₁ (λ_ _ _=>False) e s'->False):
  KP (model P w) Sf (.call (.ref fa) #[vals,[]]) (λr s'=> ∃u as,r= .ok (.ret u)/\ReadsW R cl s'.heap u d0 as/\OldK s₁.heap s'.heap/\s'.os=s₁.os/\Pg s'.gens) s₁:=by
 obtain⟨A,ho,ar⟩:=j4 ds vals hwl Ma hwt;have hO:tF (gT K s₁.heap A):=yW ar;have HH:h9 P w (gT K s₁.heap A) s₁.heap:=Dx ar;have hS:=qh KX ar ds vals hwl Ma ho;have hV:=gz ho;have hK: ∀b u,gT K s₁.heap A b=EQ u->K.lookup b=Fa:=λb u q=>(lZ ar q).1
 have noA: ∀ {b:EJ}{o:Ih}{es:IQ NG}{ep:E1},s₁.heap.get? b=EQ o->o.data= .dict es ep->gT K s₁.heap A b=Fa:=λ{b o es ep} e d=>by
  cases q:gT K s₁.heap A b with
  |none=>rfl
  |some u=>
   obtain⟨_,vs,_,_,⟨e2,_⟩|⟨e2,_⟩⟩:=lZ ar q
   ·rw[e2] at e
    cases e;have d':Tv vs.toArray _=Data.dict es ep:=d;cases d'
   ·rw[e2] at e
    cases e;have d':Tv vs.toArray _=Data.dict es ep:=d;cases d'
 generalize gT K s₁.heap A=H at hO HH hS hK noA;have Tx: ∀ {b:EJ}{o:Ih},s₁.heap.get? b=EQ o->H b=Fa->(qp s₁.heap H).get? b=EQ o:=λe n=>Cc e n
 have UR: ∀ {b:EJ}{m:Fh->ET EH},s₁.heap.Ns b m->(qp s₁.heap H).Ns b m:=λ{b m} ⟨o,es,ep,e,d,r⟩=>#[o,es,ep,Tx e (noA e d),d,r]
 have nK: ∀b o,K.lookup b=EQ o->H b=Fa:=λb o e=>by
  cases q:H b with
  |none=>rfl
  |some u=>
   rw[hK b u q] at e;cases e
 have hKb:K.In (qp s₁.heap H):=λb o e=>Tx (KX b o e) (nK b o e)
 have hM:Mod K mg (qp s₁.heap H):=#[hKb,UR hns,#[mb,UR hb,hbb],let ⟨mc,h1,h2⟩:=ah6;#[mc,UR h1,h2]]
 have e0:vg P w K mg (qp s₁.heap H) Sf [] s₁ H:=#[FS,hM,λb o e=>Df e,JG (yc _ _),trivial,λb hb=>E7 (show b∈([]:EA EJ) from hb) (by simp),HH, .of_eq hg]
 have hl:vals.length=ps.length:=by rw[gb hwl];exact MJ
 refine Mu ((F _ hKb (UR hns)).run Sf [] s₁ H #[vals,[]] vals (vals.map rY) _ _ hr e0 (aba s₁ vals hl) hV (SR H _ hO hS)) λr s' x=>?_;cases r with
 |error e=>exact(hCX H e s' x).elim
 |ok fl=>
  cases fl with
  |next=>exact HW x
  |brk=>exact HW x
  |cont=>exact HW x
  |ret u=>
   obtain⟨v,H',os,bare,un,abb,r',q⟩:=x;have kept: ∀b o,s₁.heap.get? b=EQ o->s'.heap.get? b=EQ o:=λb o e=>by
    cases q2:H b with
    |none=>exact un.keep b o e q2 (by intro z;exact E7 (show b∈([]:EA EJ) from z) (by simp)) (by simp)
    |some u2=>
     rcases hO b with z|⟨ob,u3,z⟩
     ·rw[q2] at z
      cases z
     ·have z2:=un.P6 b ob _ z
      obtain⟨e1,_⟩:=HH b _ z;obtain⟨e2,_⟩:=abb b _ z2;rw[e] at e1;cases e1;exact e2
   have KX':K.In s'.heap:=λb o e=>kept b o (KX b o e)
   obtain⟨as,hrd⟩:=Dw.reads (R:=R) (cl:=cl) abb KX' d0 v u q r';exact#[u,as,FS,hrd,OldK.of_keep kept,os,bare]
theorem mC (h:WData.layableAll ds=FB): ∀d∈ds,d.weight<=1048576:=λd hd=>
 (PySem.W.layableW_iff.mp (Lf.mp h d hd)).2.2
theorem oz: ∀(cs:EA Codec) (a:Codec.denoteAll cs),(Codec.encAll cs a).length=cs.length
 |[],_=>rfl
 |c::cs,a=>by
  show(Codec.encAll cs a.2).length+1=cs.length+1
  rw[oz cs a.2]
theorem yZ {XP:(Fh->ET EH)->Gn->Prop}{YP:Ga->Gn->Prop}{K:Params->EF}{CX:Ga->pS}{sp:Ga->Sp}
  (Vj:r.wellSaid=FB) (hdf:d.params.defaults=[]) (MJ:r.args.length=ps.length) (hr:bW k Sf)
  (hY: ∀(w:Ga) (h:Gn),YP w h->(K w.params).In h)
  (F: ∀(w:Ga) (mg:Fh->ET EH) (fa:EJ) (h:Gn),YP w h->(K w.params).In h->h.Ns ID mg->mg d.name=EQ (.ref fa)->
   ∃fd:FL,(∀(s:EM) (us:EA EH),us.length=ps.length->Se s fd #[us,[]] (ps.zip us))/\
    ∀base:Gn,(K w.params).In base->base.Ns ID mg->bS r.prog w (K w.params) mg base (CX w) k fa fd ps (sp w))
  (SR: ∀(w:Ga) (H:Hp) (xs:EA V) (a:Codec.denoteAll r.args),tF H->Codec.withinAll r.args a=FB->Codec.app r.args r.asked a=FB->h8 (K w.params) H xs (Codec.encAll r.args a)->
   sp w xs H (λv H'=>Dw (K w.params) H' v (r.ret.enc (Codec.app r.args r.f a))) λ_ _ _=>False)
  (hCX: ∀(w:Ga) (H:Hp) (s:EM) (e:EH) (s':EM),CX w [] H s (λ_ _ _=>False) e s'->False):
  Vd q loose XP YP r d [] (λf vs=>PySem.call f vs):=by
 intro w OZ s₁ mg mb G Y fa o pm cd doc dV kV ho hd RG hD hmg hg args vals as ah7 ah8 hrd hwl hlo;obtain⟨a,e1,e2⟩:=PySem.W.os_pre_some ah7;obtain⟨e3,hwi⟩:=Codec.encAll_of_decAll r.args args a e1;subst e3;have KX:=hY w _ Y;obtain⟨fd,hb,hF⟩:=F w mg fa _ Y KX G.T.g hmg;refine PySem.W.enter_call (Mu (xK (R:=[]) (cl:=classAt OZ.heap) (d0:=r.ret.enc (Codec.app r.args r.f a)) KX G.T.g G.T.b G.T.builtins G.T.nolimit hg hwl (pT _ _) (mC ah8) hr hF hb (by rw[oz];exact MJ)
  (λH xs hO hS=>SR w H xs a hO hwi e2 hS) λH e s'=>hCX w H s₁ e s') λr' s' hq=>?_)
 obtain⟨u,as',rfl,h1,h2,h3,h4⟩:=hq;exact#[.inl #[u,_,as',FS,λ_=>rfl,h1,(OpenSpec.post_iff Vj hwi _ _).mpr rfl,λz=>GP (show FM=FB from z)],h2,h3,h4]
theorem va {XP:(Fh->ET EH)->Gn->Prop}{YP:Ga->Gn->Prop}{K:Params->EF}{CX:pS}{sp:EF->Sp}
  (Vj:r.wellSaid=FB) (hdf:d.params.defaults=[]) (MJ:r.args.length=ps.length) (hr:bW k Sf)
  (hY: ∀(w:Ga) (h:Gn),YP w h->(K w.params).In h)
  (F: ∀(w:Ga) (mg:Fh->ET EH) (fa:EJ) (h:Gn),YP w h->(K w.params).In h->h.Ns ID mg->mg d.name=EQ (.ref fa)->
   ∃fd:FL,(∀(s:EM) (us:EA EH),us.length=ps.length->Se s fd #[us,[]] (ps.zip us))/\
    ∀base:Gn,(K w.params).In base->base.Ns ID mg->bS r.prog w (K w.params) mg base CX k fa fd ps (sp (K w.params)))
  (SR: ∀(K:EF) (H:Hp) (xs:EA V) (a:Codec.denoteAll r.args),tF H->Codec.withinAll r.args a=FB->Codec.app r.args r.asked a=FB->h8 K H xs (Codec.encAll r.args a)->
   sp K xs H (λv H'=>Dw K H' v (r.ret.enc (Codec.app r.args r.f a))) λ_ _ _=>False)
  (hCX: ∀(H:Hp) (s:EM) (e:EH) (s':EM),CX [] H s (λ_ _ _=>False) e s'->False):
  Vd q loose XP YP r d [] (λf vs=>PySem.call f vs):=
 yZ (K:=K) (CX:=λ_=>CX) (sp:=λw=>sp (K w.params)) Vj hdf MJ hr hY F (λw H xs a h1 h2 h3 h4=>SR (K w.params) H xs a h1 h2 h3 h4) λ_ H s e s'=>hCX H s e s'
end L2
end
namespace OS
open PySem
abbrev cW:EA EH:=[.type "Exception", .type "BaseException", .type "object"]
end OS
namespace OS
open PySem PySem.Spec L2
open PyProof.Rows hiding St
def cV:EA Fh:=["__getattribute__","__getattr__","__setattr__","number","kind","line","column"]
def XO (h:Gn) (C N:EJ) (bm:EA EH):Prop:= ∃(nm q:Fh) (bs:EA EH) (sn:EA Fh) (sub:EA EH) (ab:FR) (col:ET FR) (dd:ET EJ) (k0 k1 k2 k3 k5:ET EH),h.get? C=EQ (HF nm q C N bs bm FB sn sub ab col dd k0 k1 k2 k3 k5 "Exception.__new__")
def XAt (h:Gn) (R C fI:EJ):Prop:= ∃(N:EJ) (mN:Fh->ET EH) (oI:Ih) (NR:EJ) (mR:Fh->ET EH),XO h C N (.ref R::cW)/\h.Ns N mN/\mN "__init__"=EQ (.ref fI)/\(∀n∈cV,mN n=Fa)/\h.get? fI=EQ oI/\oI.cls= .type "function"/\
 XO h R NR cW/\h.Ns NR mR/\ ∀n∈cV,mR n=Fa
structure dA (K:EF) (R C fI:EJ):Prop where
 at_: ∀h:Gn,K.In h->XAt h R C fI
 kp:HR K (.ref C)=FB
end OS
namespace OS
open Vbemac
open PySem (Str)
def sb (w:FJ):Fh:=#[(w.map Mt).toArray]
def YF:Fh:=#[[47,114,101,115,116].toArray]
def dI (s:FJ):Fh:=if s=[37] then YF else sb s
end OS
namespace OS
open PySem PySem.Spec L2
open PyProof.Rows hiding St
def o4 (K:EF) (a:EJ) (xs:EA V):Prop:= ∃(o:Ih) (Hc:IQ EH) (n:E1),K.lookup a=EQ o/\o.cls= .type "tuple"/\o.data= .seq Hc n/\Hc.size<=FE/\aX xs Hc.toList
structure zr (P:Fz) (w:Ga) (K:EF) (a:EJ) (aC:EA (EA a0×V)):Prop where
 at_: ∃xs:EA (EA a0×EJ×EH),(∀h:Gn,K.In h->h.DictOfH (MM (aT P w)) a xs)/\Paired (λ(p:EA a0×V) (q:EA a0×EJ×EH)=>p.1=q.1/\bh p.2 q.2.2) aC xs
 no:(a == HN)=FM
structure Ak (K:EF) (C:EJ):Prop where
 cl:gw K C
 ha:Hh K (.ref C) "__class__"=EQ (EQ (.builtin "object.__class__"))
 hn:Om K (.builtin "object.__class__") "__get__"=EQ (EQ (.builtin "getset_descriptor.__get__"))
 htk:UK K (.builtin "object.__class__")=EQ FB
 hm:VT K C (.type "object")=EQ FB
def tp (i:E1):Stmt:=PySem.Challenge.pw_ordersheets_s06_steps.main.body.getD i (.Pass #[0,0,0,0])
abbrev abc:Stmt:=aB (tp 4) 0
abbrev abd:Stmt:=aB (tp 5) 0
abbrev abe:Stmt:=aB (tp 6) 0
abbrev abf:Stmt:=aB (tp 7) 0
abbrev abg:Stmt:=aB (tp 8) 0
abbrev abh:Stmt:=aB (tp 9) 0
abbrev abi:Stmt:=aB (tp 10) 0
abbrev abj:Stmt:=aB (tp 11) 0
abbrev abk:Stmt:=aB (tp 12) 0
abbrev abl:Stmt:=aB (tp 13) 0
abbrev abm:Stmt:=aB (tp 14) 0
abbrev abn:Stmt:=aB (tp 15) 0
abbrev abo:Stmt:=aB (tp 16) 0
abbrev abp:Stmt:=aB (tp 17) 0
abbrev abq:Stmt:=aB (tp 18) 0
abbrev abr:Stmt:=aB (tp 19) 0
abbrev abt:Stmt:=aB (tp 23) 0
abbrev abu:Stmt:=aB (tp 24) 0
abbrev s_K:Stmt:=tp 25
abbrev s_o:Stmt:=aB (tp 27) 0
abbrev abv:Stmt:=aB (tp 28) 0
abbrev s_1:Stmt:=aB (tp 29) 0
abbrev s_L:Stmt:=aB (tp 30) 0
abbrev s_M:Stmt:=aB (tp 31) 0
abbrev abw:Stmt:=aB (tp 32) 0
abbrev abx:Stmt:=aB (tp 33) 0
abbrev aby:Stmt:=aB (tp 34) 0
abbrev abz:Stmt:=aB (tp 35) 0
abbrev s_N:Stmt:=tp 38
abbrev s_O:Stmt:=tp 39
abbrev s_P:Stmt:=tp 40
abbrev abA:Stmt:=tp 41
abbrev abB:Stmt:=tp 42
abbrev abC:Stmt:=tp 43
abbrev s_Q:Stmt:=tp 44
abbrev abD:Stmt:=aB (tp 47) 0
abbrev abE:Stmt:=aB (tp 48) 0
abbrev abF:Stmt:=aB (tp 48) 1
abbrev abG:Stmt:=aB (tp 48) 2
abbrev abH:Stmt:=aB (tp 48) 3
abbrev abI:Stmt:=aB (tp 48) 4
abbrev abJ:Stmt:=aB (tp 48) 5
abbrev abK:Stmt:=aB (tp 48) 6
abbrev s_2:Stmt:=tp 49
abbrev s_3:Stmt:=tp 50
abbrev s_4:Stmt:=tp 51
abbrev s_5:Stmt:=tp 52
abbrev s_6:Stmt:=tp 53
abbrev s_7:Stmt:=tp 54
abbrev abL:Stmt:=tp 55
abbrev s_w:Stmt:=tp 56
abbrev s_8:Stmt:=tp 57
abbrev s_9:Stmt:=tp 58
abbrev abM:Stmt:=tp 59
abbrev abN:Stmt:=aB (tp 65) 0
abbrev abO:Stmt:=aB (tp 66) 0
abbrev s_R:Stmt:=tp 67
abbrev abP:Stmt:=tp 68
abbrev s_x:Stmt:=tp 69
abbrev s_k:Stmt:=tp 70
abbrev s_S:Stmt:=tp 71
abbrev s_y:Stmt:=tp 72
abbrev s_B:Stmt:=tp 73
abbrev abQ:Stmt:=tp 74
abbrev abR:Stmt:=tp 75
abbrev s_T:Stmt:=tp 76
abbrev abS:Stmt:=tp 77
abbrev s_C:Stmt:=tp 78
abbrev abT:Stmt:=tp 79
abbrev abU:Stmt:=tp 80
abbrev s_D:Stmt:=aB (tp 94) 0
abbrev s_e:Stmt:=tp 95
abbrev s_h:Stmt:=tp 96
abbrev s_E:Stmt:=tp 97
abbrev s_F:Stmt:=tp 98
abbrev s_G:Stmt:=tp 99
abbrev s_H:Stmt:=tp 100
abbrev s_I:Stmt:=tp 101
abbrev s_r:Stmt:=tp 102
abbrev s_s:Stmt:=tp 103
abbrev s_i:Stmt:=tp 104
abbrev abV:Stmt:=aB (tp 115) 0
abbrev s_a:Stmt:=aB (tp 115) 1
abbrev s_b:Stmt:=aB (tp 115) 2
abbrev s_p:Stmt:=aB (tp 115) 3
abbrev abW:Stmt:=aB (tp 115) 4
abbrev abX:Stmt:=aB (tp 115) 5
abbrev s_U:Stmt:=aB (tp 115) 6
abbrev abY:Stmt:=aB (tp 115) 7
abbrev s_t:Stmt:=aB (tp 115) 8
abbrev abZ:Stmt:=aB (tp 115) 9
abbrev ab0:Stmt:=aB (tp 115) 10
abbrev s_z:Stmt:=aB (tp 115) 11
abbrev ab1:Stmt:=aB (tp 115) 12
abbrev ab2:Stmt:=aB (tp 115) 13
abbrev ab3:Stmt:=aB (tp 115) 14
abbrev ab4:Stmt:=aB (tp 115) 15
abbrev s_f:Stmt:=tp 119
abbrev s_c:Stmt:=tp 120
abbrev ab5:Stmt:=tp 121
abbrev s_u:Stmt:=tp 122
abbrev s_l:Stmt:=tp 123
abbrev ab6:Stmt:=tp 124
abbrev ab7:Stmt:=tp 125
abbrev ab8:Stmt:=tp 126
abbrev s_V:Stmt:=tp 127
abbrev ab9:Stmt:=tp 128
abbrev s_j:Stmt:=tp 133
abbrev aca:Stmt:=tp 134
abbrev acb:Stmt:=tp 135
abbrev s_q:Stmt:=tp 136
abbrev acd:Stmt:=tp 137
abbrev ace:Stmt:=tp 138
abbrev acf:Stmt:=tp 139
abbrev acg:Stmt:=tp 140
abbrev s_m:Stmt:=tp 141
abbrev ach:Stmt:=tp 142
abbrev s_W:Stmt:=tp 143
abbrev aci:Stmt:=tp 144
abbrev acj:Stmt:=tp 145
abbrev ack:Stmt:=tp 146
abbrev acm:Stmt:=tp 147
abbrev s_n:Stmt:=tp 148
abbrev s_A:Stmt:=tp 149
abbrev s_X:Stmt:=tp 150
abbrev s_Y:Stmt:=tp 151
abbrev acn:Stmt:=tp 152
abbrev aco:Stmt:=tp 153
abbrev s_J:Stmt:=tp 159
abbrev s_Z:Stmt:=tp 160
abbrev acp:Stmt:=tp 161
abbrev s_g:Stmt:=tp 162
abbrev acq:Stmt:=tp 163
abbrev s_d:Stmt:=tp 164
set_option genInjectivity false in
structure be where
 (acr acs acu acv acw acx acy acz acA acB acC acD acE acF acG acH acI acJ f_K f_o YG f_1 f_L f_M YH YI YJ YK f_N f_O f_P ah9 aia aib f_Q acK acL aic aid aie aif aih aii f_2 f_3 f_4 f_5 f_6 f_7 aij f_w f_8 f_9 acM acN acO f_R aik f_x f_k f_S f_y f_B ail aim f_T ain f_C aio aip f_D f_e f_h f_E f_F f_G f_H f_I f_r f_s f_i acP f_a f_b f_p aiq air f_U ais f_t ait aiu f_z aiv aiw aix aiy f_f f_c aiz f_u f_l aiA aiB aiC f_V aiD f_j aiE aiF f_q aiG aiH aiI aiJ f_m aiK f_W aiL aiM aiN aiO f_n f_A f_X f_Y aiP aiQ f_J f_Z aiR f_g aiS f_d La Nh MS Ke Jj JO Ni Lb Mz PN Km Kq Jb LI NS MT HI Ho GB Lc Hd IW Ko JW JX IX KZ LR GY JB FV IA FX RH Jy Pl GC Hz:EJ)
 (acQ acR acS acT acU acV acW acX acY acZ ac0 ac1 ac2 ac3 ac4 ac5 ac6 ac7 aiT aiU ac8 aiV aiW aiX ac9 ada adb ade aiY aiZ ai0 adf adg adh ai1 adi adj adk adl adm adn ado adp adq ads adt adu adv adw adx ai2 ady adz W9 adA adB ai3 adC ai4 ai5 ai6 ai7 ai8 adD adE ai9 adF aja adG adH ajb ajc ajd aje ajf ajg ajh aji ajj ajk ajl adI ajm ajn ajo adJ adK ajp adL ajq adM adN ajr adO adP adQ adR ajs adS adT ajt aju adU adV adW ajv adX ajw adY adZ ajx ad0 ad1 ad2 ad3 ajy ad4 ad5 ad6 ad7 ad8 ad9 ajz ajA aea aeb aec aed ajB ajC aee ajD aef Vk:FL)
structure cJ (K:EF) (mg:Fh->ET EH) (n:Fh) (st:Stmt) (ps:EA Fh) (f:EJ) (fd:FL):Prop where
 F:oF K n n st f fd
 c:CD K mg n f fd ps
structure eF (K:EF) (C:EJ) (n q:Fh) (st:Stmt) (ps:EA Fh) (f:EJ) (fd:FL):Prop where
 F:oF K n q st f fd
 c:MD K C n f fd ps
structure aU (K:EF) (mg:Fh->ET EH) (a:be):Prop where
 QM:mg "Number"=EQ (.ref a.La)
 Tz:mg "Name"=EQ (.ref a.Nh)
 TB:mg "Call"=EQ (.ref a.MS)
 RI:mg "Unary"=EQ (.ref a.Ke)
 RJ:mg "Chain"=EQ (.ref a.Jj)
 QN:mg "Choice"=EQ (.ref a.JO)
 YL:mg "Sum"=EQ (.ref a.Ni)
 SS:mg "Let"=EQ (.ref a.Lb)
 Vl:mg "For"=EQ (.ref a.Mz)
 Xa:mg "If"=EQ (.ref a.PN)
 TC:mg "Step"=EQ (.ref a.Km)
 SU:mg "Amounts"=EQ (.ref a.Kq)
 Vm:mg "Block"=EQ (.ref a.Jb)
 RK:mg "Const"=EQ (.ref a.LI)
 Vn:mg "Fun"=EQ (.ref a.NS)
 TF:mg "Desk"=EQ (.ref a.MT)
 Q1:mg "StepOrder"=EQ (.ref a.HI)
 Qy:mg "BlockOrder"=EQ (.ref a.Ho)
 Hi:mg "Refusal"=EQ (.ref a.GB)
 Ot:mg "NotAsTold"=EQ (.ref a.Lc)
 P7:mg "Fault"=EQ (.ref a.Hd)
 MA:mg "DivisorIsZero"=EQ (.ref a.IW)
 Pn:mg "TooGreat"=EQ (.ref a.Ko)
 NT:mg "NoStepLeft"=EQ (.ref a.JW)
 NU:mg "OutOfRange"=EQ (.ref a.JX)
 MB:mg "TooManyOrders"=EQ (.ref a.IX)
 Pp:mg "NoParent"=EQ (.ref a.KZ)
 Wf:mg "Task"=EQ (.ref a.LR)
 Ug:mg "Worker"=EQ (.ref a.GY)
 Uh:mg "Market"=EQ (.ref a.JB)
 Q2:mg "Expansion"=EQ (.ref a.FV)
 RL:mg "Token"=EQ (.ref a.IA)
 Ui:mg "Reader"=EQ (.ref a.FX)
 aeg:eF K a.La "__init__" "Number.__init__" abc ["self","worth"] a.acr a.acQ
 aeh:eF K a.Nh "__init__" "Name.__init__" abd ["self","name"] a.acs a.acR
 aei:eF K a.MS "__init__" "Call.__init__" abe ["self","name","arguments"] a.acu a.acS
 aej:eF K a.Ke "__init__" "Unary.__init__" abf ["self","sign","operand"] a.acv a.acT
 aek:eF K a.Jj "__init__" "Chain.__init__" abg ["self","strength","operands","signs"] a.acw a.acU
 ael:eF K a.JO "__init__" "Choice.__init__" abh ["self","condition","chosen","otherwise"] a.acx a.acV
 aem:eF K a.Ni "__init__" "Sum.__init__" abi ["self","name","first","last","body"] a.acy a.acW
 aen:eF K a.Lb "__init__" "Let.__init__" abj ["self","name","exp"] a.acz a.acX
 aeo:eF K a.Mz "__init__" "For.__init__" abk ["self","name","first","last","statements"] a.acA a.acY
 aep:eF K a.PN "__init__" "If.__init__" abl ["self","condition","statements","else_statements"] a.acB a.acZ
 aeq:eF K a.Km "__init__" "Step.__init__" abm ["self","side","zone","quarter","price","to_price","amount"] a.acC a.ac0
 aer:eF K a.Kq "__init__" "Amounts.__init__" abn ["self","name","exp"] a.acD a.ac1
 aes:eF K a.Jb "__init__" "Block.__init__" abo ["self","name","side","zone","price","amounts","under","group"] a.acE a.ac2
 aet:eF K a.LI "__init__" "Const.__init__" abp ["self","name","exp"] a.acF a.ac3
 aeu:eF K a.NS "__init__" "Fun.__init__" abq ["self","name","parameters","exp"] a.acG a.ac4
 aev:eF K a.MT "__init__" "Desk.__init__" abr ["self","name","statements"] a.acH a.ac5
 aew:eF K a.HI "__init__" "StepOrder.__init__" abt ["self","desk","zone","quarter","side","low","high","amount"] a.acI a.ac6
 aex:eF K a.Ho "__init__" "BlockOrder.__init__" abu ["self","desk","zone","side","price","group","parent","amounts"] a.acJ a.ac7
 d_K:cJ K mg "side_number" s_K ["word"] a.f_K a.aiT
 VW:eF K a.GB "__init__" "Refusal.__init__" s_o ["self","number"] a.f_o a.aiU
 YM:eF K a.Lc "__init__" "NotAsTold.__init__" abv ["self"] a.YG a.ac8
 d_1:eF K a.Hd "__init__" "Fault.__init__" s_1 ["self","kind","line","column"] a.f_1 a.aiV
 d_L:eF K a.IW "__init__" "DivisorIsZero.__init__" s_L ["self"] a.f_L a.aiW
 d_M:eF K a.Ko "__init__" "TooGreat.__init__" s_M ["self"] a.f_M a.aiX
 YN:eF K a.JW "__init__" "NoStepLeft.__init__" abw ["self"] a.YH a.ac9
 YO:eF K a.JX "__init__" "OutOfRange.__init__" abx ["self"] a.YI a.ada
 YQ:eF K a.IX "__init__" "TooManyOrders.__init__" aby ["self"] a.YJ a.adb
 YR:eF K a.KZ "__init__" "NoParent.__init__" abz ["self"] a.YK a.ade
 d_N:cJ K mg "has_result" s_N ["sign","right"] a.f_N a.aiY
 d_O:cJ K mg "sign_result" s_O ["sign","left","right"] a.f_O a.aiZ
 d_P:cJ K mg "is_so" s_P ["sign","left","right"] a.f_P a.ai0
 YS:cJ K mg "unary_result" abA ["sign","number"] a.ah9 a.adf
 YT:cJ K mg "function_result" abB ["name","numbers"] a.aia a.adg
 YU:cJ K mg "decides" abC ["strength","number"] a.aib a.adh
 d_Q:cJ K mg "decided_value" s_Q ["strength"] a.f_Q a.ai1
 YV:eF K a.LR "__init__" "Task.__init__" abD ["self","exp"] a.acK a.adi
 YW:eF K a.GY "__init__" "Worker.__init__" abE ["self"] a.acL a.adj
 Vo:eF K a.GY "take_step" "Worker.take_step" abF ["self"] a.aic a.adk
 Wg:eF K a.GY "set_value" "Worker.set_value" abG ["self","name","value"] a.aid a.adl
 YX:eF K a.GY "value_of" "Worker.value_of" abH ["self","name"] a.aie a.adm
 Wh:eF K a.GY "begin" "Worker.begin" abI ["self","exp"] a.aif a.adn
 YY:eF K a.GY "finish" "Worker.finish" abJ ["self","value"] a.aih a.ado
 YZ:eF K a.GY "work_out" "Worker.work_out" abK ["self","exp"] a.aii a.adp
 d_2:cJ K mg "go_on" s_2 ["worker","exp","parts"] a.f_2 a.adq
 d_3:cJ K mg "go_on_call" s_3 ["worker","call","parts"] a.f_3 a.ads
 d_4:cJ K mg "go_on_unary" s_4 ["worker","unary","parts"] a.f_4 a.adt
 d_5:cJ K mg "go_on_chain" s_5 ["worker","chain","parts"] a.f_5 a.adu
 d_6:cJ K mg "go_on_deciding" s_6 ["worker","chain","parts"] a.f_6 a.adv
 d_7:cJ K mg "go_on_reckoning" s_7 ["worker","chain","parts"] a.f_7 a.adw
 Y0:cJ K mg "checked_result" abL ["sign","left","right"] a.aij a.adx
 d_w:cJ K mg "not_too_great" s_w ["value"] a.f_w a.ai2
 d_8:cJ K mg "go_on_choice" s_8 ["worker","choice","parts"] a.f_8 a.ady
 d_9:cJ K mg "go_on_sum" s_9 ["worker","summed","parts"] a.f_9 a.adz
 aey:cJ K mg "go_on_turns" abM ["worker","summed","parts"] a.acM a.W9
 aez:eF K a.JB "__init__" "Market.__init__" abN ["self","zones","quarters","low","high"] a.acN a.adA
 Y1:eF K a.FV "__init__" "Expansion.__init__" abO ["self","market"] a.acO a.adB
 d_R:cJ K mg "expand_tops" s_R ["market","tops"] a.f_R a.ai3
 Y2:cJ K mg "do_top" abP ["expansion","top"] a.aik a.adC
 d_x:cJ K mg "give_value" s_x ["worker","given"] a.f_x a.ai4
 Wi:cJ K mg "do_statements" s_k ["expansion","statements"] a.f_k a.ai5
 d_S:cJ K mg "do_statement" s_S ["expansion","statement"] a.f_S a.ai6
 d_y:cJ K mg "do_for" s_y ["expansion","loop"] a.f_y a.ai7
 d_B:cJ K mg "do_if" s_B ["expansion","condition"] a.f_B a.ai8
 Y3:cJ K mg "need_range" abQ ["number","least","most"] a.ail a.adD
 Y4:cJ K mg "do_step" abR ["expansion","step"] a.aim a.adE
 d_T:cJ K mg "add_order" s_T ["expansion","order"] a.f_T a.ai9
 Y5:cJ K mg "do_block" abS ["expansion","block"] a.ain a.adF
 d_C:cJ K mg "work_out_amounts" s_C ["expansion","amounts"] a.f_C a.aja
 Y6:cJ K mg "parent_of" abT ["expansion","block"] a.aio a.adG
 Y7:cJ K mg "add_block" abU ["expansion","name","order"] a.aip a.adH
 d_D:eF K a.IA "__init__" "Token.__init__" s_D ["self","kind","value","line","column"] a.f_D a.ajb
 d_e:cJ K mg "is_digit" s_e ["byte"] a.f_e a.ajc
 d_h:cJ K mg "is_letter" s_h ["byte"] a.f_h a.ajd
 d_E:cJ K mg "comment_end" s_E ["text","at"] a.f_E a.aje
 d_F:cJ K mg "word_end" s_F ["text","at"] a.f_F a.ajf
 d_G:cJ K mg "digits_end" s_G ["text","at"] a.f_G a.ajg
 d_H:cJ K mg "token_end" s_H ["text","at"] a.f_H a.ajh
 d_I:cJ K mg "token_kind" s_I ["text","at","end"] a.f_I a.aji
 d_r:cJ K mg "decimal_worth" s_r ["part"] a.f_r a.ajj
 d_s:cJ K mg "token_value" s_s ["kind","part"] a.f_s a.ajk
 d_i:cJ K mg "scan_text" s_i ["text"] a.f_i a.ajl
 Y8:eF K a.FX "__init__" "Reader.__init__" abV ["self","tokens"] a.acP a.adI
 Vp:eF K a.FX "current" "Reader.current" s_a ["self"] a.f_a a.ajm
 Vq:eF K a.FX "fail" "Reader.fail" s_b ["self","kind"] a.f_b a.ajn
 d_p:eF K a.FX "sees" "Reader.sees" s_p ["self","value"] a.f_p a.ajo
 Y9:eF K a.FX "at_end" "Reader.at_end" abW ["self"] a.aiq a.adJ
 Za:eF K a.FX "at_number" "Reader.at_number" abX ["self"] a.air a.adK
 d_U:eF K a.FX "at_name" "Reader.at_name" s_U ["self"] a.f_U a.ajp
 Zb:eF K a.FX "number_follows" "Reader.number_follows" abY ["self"] a.ais a.adL
 d_t:eF K a.FX "take" "Reader.take" s_t ["self"] a.f_t a.ajq
 Zc:eF K a.FX "expect" "Reader.expect" abZ ["self","value"] a.ait a.adM
 Zd:eF K a.FX "skips" "Reader.skips" ab0 ["self","value"] a.aiu a.adN
 d_z:eF K a.FX "need_name" "Reader.need_name" s_z ["self"] a.f_z a.ajr
 Ze:eF K a.FX "take_free_name" "Reader.take_free_name" ab1 ["self"] a.aiv a.adO
 Zg:eF K a.FX "take_name_not_in" "Reader.take_name_not_in" ab2 ["self","given"] a.aiw a.adP
 Zh:eF K a.FX "learn" "Reader.learn" ab3 ["self","name"] a.aix a.adQ
 Wj:eF K a.FX "forget" "Reader.forget" ab4 ["self","name"] a.aiy a.adR
 d_f:cJ K mg "deeper" s_f ["reader","depth"] a.f_f a.ajs
 RM:cJ K mg "read_exp" s_c ["reader","depth"] a.f_c a.adS
 Wl:cJ K mg "read_choice" ab5 ["reader","depth"] a.aiz a.adT
 Xb:cJ K mg "read_chain" s_u ["reader","depth","strength"] a.f_u a.ajt
 VX:cJ K mg "read_unary" s_l ["reader","depth"] a.f_l a.aju
 Wm:cJ K mg "read_primary" ab6 ["reader","depth"] a.aiA a.adU
 Wn:cJ K mg "read_brackets" ab7 ["reader","depth"] a.aiB a.adV
 Wo:cJ K mg "read_sum" ab8 ["reader","depth"] a.aiC a.adW
 d_V:cJ K mg "read_call" s_V ["reader","depth"] a.f_V a.ajv
 Zi:cJ K mg "refuse_here" ab9 ["reader","sign"] a.aiD a.adX
 d_j:cJ K mg "read_sheet" s_j ["text"] a.f_j a.ajw
 Wq:cJ K mg "read_top" aca ["reader"] a.aiE a.adY
 Wr:cJ K mg "read_const" acb ["reader"] a.aiF a.adZ
 Xc:cJ K mg "read_given" s_q ["reader"] a.f_q a.ajx
 Ws:cJ K mg "read_fun" acd ["reader"] a.aiG a.ad0
 Zj:cJ K mg "read_parameters" ace ["reader","function"] a.aiH a.ad1
 Zk:cJ K mg "read_parameter" acf ["reader","function"] a.aiI a.ad2
 Wt:cJ K mg "read_desk" acg ["reader"] a.aiJ a.ad3
 VY:cJ K mg "read_braces" s_m ["reader","depth"] a.f_m a.ajy
 Wu:cJ K mg "read_statement" ach ["reader","depth"] a.aiK a.ad4
 d_W:cJ K mg "read_let" s_W ["reader"] a.f_W a.ad5
 Zl:cJ K mg "deeper_braces" aci ["reader","depth"] a.aiL a.ad6
 Wv:cJ K mg "read_for" acj ["reader","depth"] a.aiM a.ad7
 Ww:cJ K mg "read_if" ack ["reader","depth"] a.aiN a.ad8
 Zm:cJ K mg "read_side" acm ["reader"] a.aiO a.ad9
 Wx:cJ K mg "read_part" s_n ["reader","word"] a.f_n a.ajz
 d_A:cJ K mg "read_part_if_there" s_A ["reader","word"] a.f_A a.ajA
 d_X:cJ K mg "read_step" s_X ["reader"] a.f_X a.aea
 d_Y:cJ K mg "read_block" s_Y ["reader"] a.f_Y a.aeb
 Wy:cJ K mg "read_amounts" acn ["reader"] a.aiP a.aec
 Zn:cJ K mg "read_under_name" aco ["reader"] a.aiQ a.aed
 d_J:cJ K mg "is_text" s_J ["text"] a.f_J a.ajB
 d_Z:cJ K mg "is_price" s_Z ["price"] a.f_Z a.ajC
 Zo:cJ K mg "is_market" acp ["zones","quarters","low","high"] a.aiR a.aee
 d_g:cJ K mg "need" s_g ["as_told"] a.f_g a.ajD
 Zp:cJ K mg "expanded" acq ["zones","quarters","low","high","text"] a.aiS a.aef
 d_d:cJ K mg "steps" s_d ["zones","quarters","low","high","text"] a.f_d a.Vk
 O0:gw K a.La
 Uj:Mk K a.La a.acr
 MZ:ak K a.La "worth"
 Q3:gw K a.Nh
 Wz:Mk K a.Nh a.acs
 Ou:ak K a.Nh "name"
 PY:gw K a.MS
 WA:Mk K a.MS a.acu
 Ov:ak K a.MS "name"
 Md:ak K a.MS "arguments"
 Ox:gw K a.Ke
 Vr:Mk K a.Ke a.acv
 NV:ak K a.Ke "sign"
 MC:ak K a.Ke "operand"
 ME:gw K a.Jj
 Vs:Mk K a.Jj a.acw
 KC:ak K a.Jj "strength"
 Me:ak K a.Jj "operands"
 Nj:ak K a.Jj "signs"
 O2:gw K a.JO
 Uk:Mk K a.JO a.acx
 LC:ak K a.JO "condition"
 MF:ak K a.JO "chosen"
 LD:ak K a.JO "otherwise"
 O3:gw K a.Ni
 Zq:Mk K a.Ni a.acy
 Pq:ak K a.Ni "name"
 Oy:ak K a.Ni "first"
 Pu:ak K a.Ni "last"
 Pw:ak K a.Ni "body"
 Q4:gw K a.Lb
 Zr:Mk K a.Lb a.acz
 Nk:ak K a.Lb "name"
 P8:ak K a.Lb "exp"
 O4:gw K a.Mz
 Zs:Mk K a.Mz a.acA
 Px:ak K a.Mz "name"
 Oz:ak K a.Mz "first"
 Py:ak K a.Mz "last"
 Mf:ak K a.Mz "statements"
 RN:gw K a.PN
 aeA:Mk K a.PN a.acB
 M0:ak K a.PN "condition"
 MG:ak K a.PN "statements"
 KR:ak K a.PN "else_statements"
 LJ:gw K a.Km
 WB:Mk K a.Km a.acC
 OA:ak K a.Km "side"
 OB:ak K a.Km "zone"
 M3:ak K a.Km "quarter"
 NW:ak K a.Km "price"
 K0:ak K a.Km "to_price"
 Nl:ak K a.Km "amount"
 N6:gw K a.Kq
 SV:Mk K a.Kq a.acD
 M4:ak K a.Kq "name"
 Nm:ak K a.Kq "exp"
 J9:gw K a.Jb
 Vt:Mk K a.Jb a.acE
 NX:ak K a.Jb "name"
 NY:ak K a.Jb "side"
 NZ:ak K a.Jb "zone"
 Np:ak K a.Jb "price"
 MH:ak K a.Jb "amounts"
 Nq:ak K a.Jb "under"
 LS:ak K a.Jb "group"
 P9:gw K a.LI
 Vu:Mk K a.LI a.acF
 N0:ak K a.LI "name"
 OC:ak K a.LI "exp"
 Qa:gw K a.NS
 Zu:Mk K a.NS a.acG
 Pz:ak K a.NS "name"
 Mg:ak K a.NS "parameters"
 Qb:ak K a.NS "exp"
 Q5:gw K a.MT
 WC:Mk K a.MT a.acH
 Q6:ak K a.MT "name"
 LU:ak K a.MT "statements"
 Q7:gw K a.HI
 Q8:Mk K a.HI a.acI
 OD:ak K a.HI "desk"
 OE:ak K a.HI "zone"
 Nr:ak K a.HI "quarter"
 OF:ak K a.HI "side"
 O5:ak K a.HI "low"
 OG:ak K a.HI "high"
 NJ:ak K a.HI "amount"
 Qz:gw K a.Ho
 QA:Mk K a.Ho a.acJ
 N7:ak K a.Ho "desk"
 N8:ak K a.Ho "zone"
 N9:ak K a.Ho "side"
 NK:ak K a.Ho "price"
 NL:ak K a.Ho "group"
 Nt:ak K a.Ho "parent"
 M6:ak K a.Ho "amounts"
 OH:gw K a.LR
 WD:Mk K a.LR a.acK
 PB:ak K a.LR "exp"
 Mq:ak K a.LR "parts"
 Hw:gw K a.GY
 Ul:Mk K a.GY a.acL
 Kh:ak K a.GY "taken"
 JZ:ak K a.GY "functions"
 Jk:ak K a.GY "scopes"
 Ia:ak K a.GY "tasks"
 K3:ak K a.GY "result"
 QO:gw K a.JB
 Um:Mk K a.JB a.acN
 Lm:ak K a.JB "zones"
 Kp:ak K a.JB "quarters"
 Mr:ak K a.JB "low"
 KD:ak K a.JB "high"
 G9:gw K a.FV
 Q9:Mk K a.FV a.acO
 LF:ak K a.FV "market"
 J1:ak K a.FV "worker"
 J2:ak K a.FV "orders"
 KG:ak K a.FV "desk"
 Jz:ak K a.FV "named"
 HU:gw K a.IA
 RO:Mk K a.IA a.f_D
 JF:ak K a.IA "kind"
 IP:ak K a.IA "value"
 Ms:ak K a.IA "line"
 Ln:ak K a.IA "column"
 Fy:gw K a.FX
 Uo:Mk K a.FX a.acP
 K4:ak K a.FX "tokens"
 JY:ak K a.FX "at"
 JC:ak K a.FX "known"
 HV:ak K a.FX "functions"
 Lo:ak K a.FX "desks"
 Jl:ak K a.FX "blocks"
 Vv: ∃t,mg "EITHER"=EQ (.int 0 t)
 SW: ∃t,mg "BOTH"=EQ (.int 1 t)
 Ra: ∃t,mg "COMPARISON"=EQ (.int 2 t)
 WE: ∃t,mg "SELLS"=EQ (.int 0 t)
 Zv: ∃t,mg "BUYS"=EQ (.int 1 t)
 SX: ∃t,mg "GREATEST"=EQ (.int 1000000000000000000 t)
 Rc: ∃t,mg "MOST_STEPS"=EQ (.int 10000 t)
 QB: ∃t,mg "MOST_ORDERS"=EQ (.int 48 t)
 N3: ∃t,mg "MOST_AMOUNT"=EQ (.int 1000000000 t)
 QC: ∃t,mg "MOST_SPREAD"=EQ (.int 10000 t)
 Rf: ∃t,mg "MOST_GROUP"=EQ (.int 9 t)
 SY: ∃t,mg "WORD"=EQ (.int 0 t)
 OI: ∃t,mg "NUMBER"=EQ (.int 1 t)
 Vw: ∃t,mg "SIGN"=EQ (.int 2 t)
 Xd: ∃t,mg "END"=EQ (.int 3 t)
 OJ: ∃t,mg "WRONG"=EQ (.int 4 t)
 Qc: ∃t,mg "LONGEST_WORD"=EQ (.int 24 t)
 O6: ∃t,mg "LONGEST_NUMBER"=EQ (.int 18 t)
 PD: ∃t,mg "LINE_FEED"=EQ (.int 10 t)
 Uq: ∃t,mg "COMMENT"=EQ (.int 35 t)
 Vx:mg "BLANKS"=EQ (.ref a.RH)
 Rg:mg "SIGNS"=EQ (.ref a.Jy)
 S6: ∃t,mg "SPELLING"=EQ (.str "0123456789:;<=>?@ABCDEFGHIJKLMNOPQRSTUVWXYZ[\\]^_`abcdefghijklmnopqrstuvwxyz" t)
 QD: ∃t,mg "WRONG_TOKEN"=EQ (.int 1 t)
 Oa: ∃t,mg "NOT_HERE"=EQ (.int 2 t)
 PF: ∃t,mg "NOT_KNOWN"=EQ (.int 3 t)
 Ob: ∃t,mg "NOT_FREE"=EQ (.int 4 t)
 RP: ∃t,mg "ARGUMENTS"=EQ (.int 5 t)
 Qg: ∃t,mg "TOO_DEEP"=EQ (.int 6 t)
 Qh: ∃t,mg "TOO_MANY"=EQ (.int 7 t)
 RQ:mg "KEY_WORDS"=EQ (.ref a.Pl)
 Mh:mg "FIRST_FUNCTIONS"=EQ (.ref a.GC)
 QF: ∃t,mg "MOST_LEVELS"=EQ (.int 12 t)
 N4:mg "CHAIN_SIGNS"=EQ (.ref a.Hz)
 QG: ∃t,mg "MOST_BRACES"=EQ (.int 6 t)
 O7: ∃t,mg "MOST_FUNCTIONS"=EQ (.int 6 t)
 OK: ∃t,mg "MOST_PARAMETERS"=EQ (.int 6 t)
 Qi: ∃t,mg "LONGEST_TEXT"=EQ (.int 3000 t)
 Rh: ∃t,mg "MOST_ZONES"=EQ (.int 6 t)
 PQ: ∃t,mg "MOST_QUARTERS"=EQ (.int 4 t)
 OL: ∃t,mg "MOST_PRICE"=EQ (.int 1000000 t)
 Vy:o4 K a.RH [.int 9, .int 10, .int 13, .int 32]
 RR:o4 K a.Pl [.str "const", .str "fun", .str "desk", .str "let", .str "for", .str "in", .str "if", .str "then", .str "else", .str "sell", .str "buy", .str "zone", .str "quarter", .str "price", .str "to", .str "amount", .str "block", .str "under", .str "group", .str "sum"]
 RT:mg "Exception"=Fa
 Xe:mg "abs"=Fa
 aeB:mg "all"=Fa
 Vz:mg "dict"=Fa
 LK:mg "isinstance"=Fa
 JP:mg "len"=Fa
 aeC:mg "max"=Fa
 aeD:mg "min"=Fa
 WG:mg "range"=Fa
 aeE:mg "sum"=Fa
 Ri:mg "tuple"=Fa
 aeF:mg "zip"=Fa
variable {P:Fz}{w:Ga}{K:EF}{mg:Fh->ET EH}{base:Gn}{a:be}
abbrev nb (c:Io):Int:=(c.toNat:Int)
def kb (c:Io):a0:=Ji (nb c)
def dO:EA (EA a0×V):=F6.map λs=>(s.map kb,V.str (dI s))
structure BJ (K:EF) (R:EJ) (m:Fh) (f:EJ):Prop where
 sp:Om K (.ref R) "__getattribute__"=EQ (EQ (.builtin "type.__getattribute__"))
 ty:Ve K (.ref R)=EQ (.type "type")
 rd:PySem.W.readsIn K R (.type "type")=FB
 fc:UL K (.ref R) (.type "type") m=EQ (.val (.ref f))
 kp:HR K (.ref f)=FB
structure XT (K:EF) (a:be):Prop where
 fc:dA K a.GB a.Hd a.f_1
 rm:BJ K a.GB "__init__" a.f_o
structure CU (P:Fz) (w:Ga) (K:EF) (a:EJ) (aC:EA (a0×V)):Prop where
 at_: ∃vs:EA (a0×EH),(∀h:Gn,K.In h->h.DictOf (aT P w) a vs)/\KV aC vs
 len:aC.length<=FE
 no:(a == HN)=FM
def dn:EA (a0×V):=[(.inr "min", .int 2),(.inr "max", .int 2),(.inr "abs", .int 1)]
end OS
namespace OS
open PySem PySem.Spec L2
open PyProof.Rows hiding St
variable {P:Fz}{w:Ga}{K:EF}{mg:Fh->ET EH}{base:Gn}{a:be}
structure XW (K:EF) (a:be):Prop extends XT K a where
 Lq:dA K a.GB a.IW a.f_L
 Oc:dA K a.GB a.Ko a.f_M
 MU:dA K a.GB a.JW a.YH
 MV:dA K a.GB a.JX a.YI
 Lr:dA K a.GB a.IX a.YJ
 Od:dA K a.GB a.KZ a.YK
def zc (a:be):EA EJ:=[a.La,a.Nh,a.MS,a.Ke,a.Jj,a.JO,a.Ni,a.Lb,a.Mz,a.PN,a.Km,a.Jb,a.LI,a.NS,a.MT]
structure ma (K:EF) (a:be):Prop where
 ty: ∀C∈zc a,Ak K C
 kit:((zc a).map λC=>(zc a).map λD=>Hy K (.ref C) (.ref D))=(IS 15).map λi=>(IS 15).map λj=>EQ (decide (i=j))
end OS
namespace OS
open PySem PySem.Spec L2
open PyProof.Rows hiding St
variable {P:Fz}{w:Ga}{K:EF}{mg:Fh->ET EH}{base:Gn}{a:be}
def zt (K:EF) (ad:EJ) (rows:EA (EA V)):Prop:= ∃qs:EA EJ,o4 K ad (qs.map V.ref)/\Paired (λq xs=>o4 K q xs) qs rows
def dh:EA (EA V):=[[.str "||"],[.str "&&"],[.str "==", .str "!=", .str "<=", .str ">=", .str "<", .str ">"],[.str "+", .str "-"],[.str "*", .str "/", .str "/rest"]]
end OS
namespace OS
open PySem PySem.Spec L2
open PyProof.Rows hiding St
variable {P:Fz}{w:Ga}{K:EF}{mg:Fh->ET EH}{base:Gn}{a:be}


def lz (zs:EA Int):EA V:=zs.map V.int
structure XN (K:EF) (a:be):Prop extends XW K a where
 Nu:dA K a.GB a.Lc a.YG
inductive jI (K:EF) (vs:EA V) (H:Hp) (Q:VK) (_E:XK):Prop
 |mk (z t lo hi:Int) (l:EJ) (zs:EA Int) (_:vs=[.int z, .int t, .int lo, .int hi, .ref l]) (_:cO K H l (lz zs)) (_:zs.length<=4000) (_: ∀(H':Hp) (p:EJ),H' p=EQ (.lst (lz (Ky z t lo hi zs)))->Q (.ref p) H'):jI K vs H Q _E
def dOf:Data->EA NG
 | .dict es _=>es.toList
 |_=>[]
theorem Zw (h:dOf d=e::r): ∃es ep,d= .dict es ep/\es.toList=e::r:=by
 cases d with
 |dict es n=>exact#[es,n,FS,h]
 |_=>cases h
noncomputable def RU (K:EF) (a:EJ):EA NG:=((K.lookup a).map λo=>if o.cls= .type "dict"/\o.dict=Fa/\o.slots.size=0 then dOf o.data else []).getD []
theorem wZ {K:EF}{a:EJ}(h:RU K a=e::r): ∃o es ep,K.lookup a=EQ o/\o.ExactDict/\o.data= .dict es ep/\es.toList=e::r:=by
 unfold RU at h;cases q:K.lookup a with
 |none=>rw[q] at h;cases h
 |some o=>
  rw[q] at h;have h:(if o.cls= .type "dict"/\o.dict=Fa/\o.slots.size=0 then dOf o.data else [])=e::r:=h
  by_cases c:o.cls= .type "dict"/\o.dict=Fa/\o.slots.size=0
  ·rw[EL c] at h
   obtain⟨es,n,h1,h2⟩:=Zw h;exact#[o,es,n,FS,#[c.1,c.2.1,IQ.eq_empty_of_size_eq_zero c.2.2],h1,h2]
  ·rw[EI c] at h
   cases h
section
variable {a:EJ}
theorem Em {mg:Fh->ET EH}(X:K.In h) (G:h.Ns N mg) (e:Jv K N n=EQ (EQ v)):mg n=EQ v:=by
 obtain⟨o,es,ep,ho,hd,_,hf⟩:=G;unfold Jv at e;split at e
 ·rename_i c d es' n' sl q
  have:=X _ _ q;rw[ho] at this;cases this;cases hd;split at e
  ·rename_i en he
   cases e;rw[<-hf];unfold nsFind findBy;rw[<-T8,he]
   rfl
  ·split at e<;>cases e
 ·cases e
def iOf:EH->ET Int
 | .int i _=>EQ i
 |_=>Fa
def xOf:EH->ET Fh
 | .str i _=>EQ i
 |_=>Fa
def rOf:EH->ET EJ
 | .ref i=>EQ i
 |_=>Fa
theorem um (h:iOf v=EQ i): ∃t,v= .int i t:=by
 cases v with
 |int j t=>cases h;exact#[t,FS]
 |_=>cases h
theorem uh (h:xOf v=EQ i): ∃t,v= .str i t:=by
 cases v with
 |str j t=>cases h;exact#[t,FS]
 |_=>cases h
theorem BX (h:rOf v=EQ i):v= .ref i:=by
 cases v with
 |ref j=>cases h;rfl
 |_=>cases h
abbrev sj {A:Type}(f:EH->ET A) (l:EA EH):ET (EA A):=l.mapM f
abbrev oh:=sj iOf
abbrev mV:=sj xOf
abbrev uH:=sj rOf
theorem iH {A B:Type}{f:EH->ET A}{g:A->B}{R:B->EH->Prop}(hf: ∀v x,f v=EQ x->R (g x) v): ∀ {vs:EA EH}{l:EA A},sj f vs=EQ l->Paired R (l.map g) vs
 |[],l,h=>by cases h;exact .nil
 |v::r,l,h=>by
  rw[sj,EA.mapM_cons] at h;cases e:f v with
  |none=>rw[e] at h;cases h
  |some x=>
   cases q:r.mapM f with
   |none=>rw[e,q] at h;cases h
   |some l'=>rw[e,q] at h;cases h;exact .cons (hf v x e) (iH hf q)
def qOf:Data->ET (IQ EH)
 | .seq Hc _=>EQ Hc
 |_=>Fa
theorem Zy (h:qOf d=EQ Hc): ∃n,d= .seq Hc n:=by
 cases d with
 |seq es n=>cases h;exact#[n,FS]
 |_=>cases h
noncomputable def LV (K:EF) (a:EJ):ET (EA EH):=(K.lookup a).bind λo=>(qOf o.data).bind λHc=>if o.cls= .type "tuple"/\Hc.size<=1000 then EQ Hc.toList else Fa
theorem su (h:LV K a=EQ l): ∃o Hc n,K.lookup a=EQ o/\o.cls= .type "tuple"/\o.data= .seq Hc n/\Hc.size<=FE/\Hc.toList=l:=by
 obtain⟨o,h1,h⟩:=HK.mp h;obtain⟨Hc,h2,h⟩:=HK.mp h;obtain⟨n,h2⟩:=Zy h2;by_cases c:o.cls= .type "tuple"/\Hc.size<=1000
 ·rw[EL c] at h
  exact#[o,Hc,n,h1,c.1,h2,Fj c.2 [01],E5 h]
 ·rw[EI c] at h
  cases h
theorem tU (h:oh vs=EQ l):aX (l.map V.int) vs:=iH (λ_ _ e=>um e) h
theorem sr (h:mV vs=EQ l):aX (l.map V.str) vs:=iH (λ_ _ e=>uh e) h
theorem sW (h:uH vs=EQ l):aX (l.map V.ref) vs:=iH (λ_ _ e=>BX e) h
theorem qy (h:LV K a=EQ vs) (v:aX xs vs):o4 K a xs:=by
 obtain⟨o,Hc,n,h1,h2,h3,h4,h5⟩:=su h;exact#[o,Hc,n,h1,h2,h3,h4,by rw[h5];exact v]
theorem Cw (h:(LV K a).bind oh=EQ l):o4 K a (l.map V.int):=by
 cases e:LV K a with
 |none=>rw[e] at h;cases h
 |some vs=>rw[e] at h;exact qy e (tU h)
theorem sh (h:(LV K a).bind mV=EQ l):o4 K a (l.map V.str):=by
 cases e:LV K a with
 |none=>rw[e] at h;cases h
 |some vs=>rw[e] at h;exact qy e (sr h)
noncomputable def TH (K:EF) (e:NG):ET (Int×EA Int×Fh):=(rOf e.key).bind λp=>(xOf e.val).bind λx=>((LV K p).bind oh).map λl=>(e.hash,l,x)
theorem BR (z:TH K e=EQ (h,l,x)): ∃p t,e.key= .ref p/\e.val= .str x t/\e.hash=h/\(LV K p).bind oh=EQ l:=by
 obtain⟨p,h1,z⟩:=HK.mp z;obtain⟨x',h2,z⟩:=HK.mp z;obtain⟨l',h3,z⟩:=FG.mp z;cases z;obtain⟨t,h2⟩:=uh h2;exact#[p,t,BX h1,h2,FS,h3]
theorem zX (h:Paired (λk v=>(aT P w).is k v=FB) ks vs):ItemsAre (aT P w) ks vs:=by
 induction h with
 |nil=>exact .nil
 |cons h _ i=>exact .cons h i
theorem xS (h:oh vs=EQ l):ItemsAre (aT P w) (l.map λi=>(Ji i:a0)) vs:=
 zX (iH (f:=iOf) (g:=λi=>(Ji i:a0)) (λv i e=>by
  obtain⟨t,rfl⟩:=um e;exact Gr i) h)
theorem xa: ∀ {es:EA NG}{L:EA (EA Int×Fh)},es.map (TH K)=(L.map λp=>EQ (U1 (aT P w) (p.1.map λi=>(Ji i:a0)),p.1,p.2))->
  ∃xs:EA (EA a0×EJ×EH),Paired (λ(p:EA a0×V) (q:EA a0×EJ×EH)=>p.1=q.1/\bh p.2 q.2.2) (L.map λp=>(p.1.map λi=>(Ji i:a0),V.str p.2)) xs/\es=xs.map (entryOfKey (MM (aT P w)))/\(xs.map (·.1))=(L.map λp=>p.1.map λi=>(Ji i:a0))/\ ∀h:Gn,K.In h-> ∀x∈xs,(MM (aT P w)).is h x.1 x.2.1
 |[],[],_=>#[[], .nil,FS,FS,λ_ _ _ z=>nomatch z]
 |[],_::_,h=>by cases h
 |_::_,[],h=>by cases h
 |e::es,p::L,h=>by
  rw[Fe,Fe] at h;obtain⟨h1,h2⟩:=IZ h;obtain⟨xs,k1,k2,k3,k4⟩:=xa h2;obtain⟨q,t,e1,e2,e3,e4⟩:=BR h1;refine#[(p.1.map λi=>Ji i,q, .str p.2 t)::xs, .cons #[FS,#[t,FS]] k1,?_,by rw[Fe,Fe,k3],λhp hK y hy=>?_]
  ·rw[Fe,<-k2]
   congr 1
   obtain⟨eh,ek,ev⟩:=e;cases e1;cases e2;cases e3
   rfl
  ·rcases EW.mp hy with rfl|hy
   ·cases z:LV K q with
    |none=>rw[z] at e4;cases e4
    |some vs=>
     rw[z] at e4;obtain⟨o,Hc,n,g1,g2,g3,g4,g5⟩:=su z;exact#[o,Hc,n,hK _ _ g1,g2,g3,by rw[g5];exact xS e4]
   ·exact k4 hp hK y hy
theorem Zz {L:EA (EA Int×Fh)}(ne:L≠[]) (h:(RU K a).map (TH K)=(L.map λp=>EQ (U1 (aT P w) (p.1.map λi=>(Ji i:a0)),p.1,p.2))) (nd:(L.map λp=>p.1.map λi=>(Ji i:a0)).Nodup) (no:(a == HN)=FM):
  zr P w K a (L.map λp=>(p.1.map λi=>(Ji i:a0),V.str p.2)):=by
 obtain⟨xs,k1,k2,k3,k4⟩:=xa (P:=P) (w:=w) h;cases he:RU K a with
 |nil=>rw[he] at h;exact E7 (EA.map_eq_nil_iff.mp h.symm) ne
 |cons e r=>
  obtain⟨o,es,ep,lk,ex,od,el⟩:=wZ he;refine#[#[xs,λhp hK=>#[o,es,ep,hK a o lk,ex,od,by rw[el,<-he];exact k2,k4 hp hK,by rw[k3];exact nd],k1],no]
def Xf:EA (EA Int×Fh):=F6.map λs=>(s.map nb,dI s)
theorem Aq:dO=Xf.map λp=>(p.1.map λi=>(Ji i:a0),V.str p.2):=by decide+kernel
theorem Dl {mg:Fh->ET EH}{a:be}(_:aU K mg a) (e:(RU K a.Jy).map (TH K)=(Xf.map λp=>EQ (U1 (aT P w) (p.1.map λi=>(Ji i:a0)),p.1,p.2))) (no:(a.Jy == HN)=FM):zr P w K a.Jy dO:=by
 rw[Aq];exact Zz [00] e [00] no
theorem ir {A:Type}{C:EA A->Prop}{us:EA A}(h:us.length=n+1) (k: ∀a r,r.length=n->C (a::r)):C us:=by
 cases us with
 |nil=>cases h
 |cons a r=>exact k a r (QK h)
theorem v0 {A:Type}{C:EA A->Prop}{us:EA A}(h:us.length=0) (k:C []):C us:=by
 cases us with
 |nil=>exact k
 |cons a r=>cases h
theorem v1 {A:Type}{C:EA A->Prop}{us:EA A}(h:us.length=1) (k: ∀a,C [a]):C us:=ir h λa r h=>v0 (C:=λr=>C (a::r)) h (k a)
theorem v2 {A:Type}{C:EA A->Prop}{us:EA A}(h:us.length=2) (k: ∀a b,C [a,b]):C us:=ir h λa r h=>v1 (C:=λr=>C (a::r)) h (k a)
theorem v3 {A:Type}{C:EA A->Prop}{us:EA A}(h:us.length=3) (k: ∀a b c,C [a,b,c]):C us:=ir h λa r h=>v2 (C:=λr=>C (a::r)) h (k a)
theorem v4 {A:Type}{C:EA A->Prop}{us:EA A}(h:us.length=4) (k: ∀a b c d,C [a,b,c,d]):C us:=ir h λa r h=>v3 (C:=λr=>C (a::r)) h (k a)
theorem v5 {A:Type}{C:EA A->Prop}{us:EA A}(h:us.length=5) (k: ∀a b c d e,C [a,b,c,d,e]):C us:=ir h λa r h=>v4 (C:=λr=>C (a::r)) h (k a)
theorem v6 {A:Type}{C:EA A->Prop}{us:EA A}(h:us.length=6) (k: ∀a b c d e f,C [a,b,c,d,e,f]):C us:=ir h λa r h=>v5 (C:=λr=>C (a::r)) h (k a)
theorem v7 {A:Type}{C:EA A->Prop}{us:EA A}(h:us.length=7) (k: ∀a b c d e f g,C [a,b,c,d,e,f,g]):C us:=ir h λa r h=>v6 (C:=λr=>C (a::r)) h (k a)
theorem v8 {A:Type}{C:EA A->Prop}{us:EA A}(h:us.length=8) (k: ∀a b c d e f g h,C [a,b,c,d,e,f,g,h]):C us:=ir h λa r h=>v7 (C:=λr=>C (a::r)) h (k a)
theorem u0 {fd:FL}{ps:EA Fh}{us:EA EH}(h:us.length=0) (k:GQ fd #[[],[]]=pure (ps.zip [])):GQ fd #[us,[]]=pure (ps.zip us):=v0 (C:=λus=>GQ fd #[us,[]]=pure (ps.zip us)) h k
theorem u1 {fd:FL}{ps:EA Fh}{us:EA EH}(h:us.length=1) (k: ∀a,GQ fd #[[a],[]]=pure (ps.zip [a])):GQ fd #[us,[]]=pure (ps.zip us):=v1 (C:=λus=>GQ fd #[us,[]]=pure (ps.zip us)) h k
theorem u2 {fd:FL}{ps:EA Fh}{us:EA EH}(h:us.length=2) (k: ∀a b,GQ fd #[[a,b],[]]=pure (ps.zip [a,b])):GQ fd #[us,[]]=pure (ps.zip us):=v2 (C:=λus=>GQ fd #[us,[]]=pure (ps.zip us)) h k
theorem u3 {fd:FL}{ps:EA Fh}{us:EA EH}(h:us.length=3) (k: ∀a b c,GQ fd #[[a,b,c],[]]=pure (ps.zip [a,b,c])):GQ fd #[us,[]]=pure (ps.zip us):=v3 (C:=λus=>GQ fd #[us,[]]=pure (ps.zip us)) h k
theorem u4 {fd:FL}{ps:EA Fh}{us:EA EH}(h:us.length=4) (k: ∀a b c d,GQ fd #[[a,b,c,d],[]]=pure (ps.zip [a,b,c,d])):GQ fd #[us,[]]=pure (ps.zip us):=v4 (C:=λus=>GQ fd #[us,[]]=pure (ps.zip us)) h k
theorem u5 {fd:FL}{ps:EA Fh}{us:EA EH}(h:us.length=5) (k: ∀a b c d e,GQ fd #[[a,b,c,d,e],[]]=pure (ps.zip [a,b,c,d,e])):GQ fd #[us,[]]=pure (ps.zip us):=v5 (C:=λus=>GQ fd #[us,[]]=pure (ps.zip us)) h k
theorem u6 {fd:FL}{ps:EA Fh}{us:EA EH}(h:us.length=6) (k: ∀a b c d e f,GQ fd #[[a,b,c,d,e,f],[]]=pure (ps.zip [a,b,c,d,e,f])):GQ fd #[us,[]]=pure (ps.zip us):=v6 (C:=λus=>GQ fd #[us,[]]=pure (ps.zip us)) h k
theorem u7 {fd:FL}{ps:EA Fh}{us:EA EH}(h:us.length=7) (k: ∀a b c d e f g,GQ fd #[[a,b,c,d,e,f,g],[]]=pure (ps.zip [a,b,c,d,e,f,g])):GQ fd #[us,[]]=pure (ps.zip us):=v7 (C:=λus=>GQ fd #[us,[]]=pure (ps.zip us)) h k
theorem u8 {fd:FL}{ps:EA Fh}{us:EA EH}(h:us.length=8) (k: ∀a b c d e f g h,GQ fd #[[a,b,c,d,e,f,g,h],[]]=pure (ps.zip [a,b,c,d,e,f,g,h])):GQ fd #[us,[]]=pure (ps.zip us):=v8 (C:=λus=>GQ fd #[us,[]]=pure (ps.zip us)) h k
theorem Eb {h:Gn}{mg:Fh->ET EH}(X:K.In h) (G:h.Ns ID mg) {x:Fh}{st:Stmt}{ps:EA Fh}{f:EJ}{oc:EH}{od an:ET EJ}{sl:IQ (ET EH)}{kV doc pm cd ct:EH}
  (a:Jv K ID x=EQ (EQ (.ref f))) (l:K.lookup f=EQ #[oc,od, .func (HB x x (dM st) (a8 st) (af st) .none kV doc pm an cd ct),sl]) (c:KA K cd x=FB) (k:HR K (.ref f)=FB)
  (hb: ∀(kV doc pm:EH) (an:ET EJ) (Gp ct:EH) (us:EA EH),us.length=ps.length->GQ (HB x x (dM st) (a8 st) (af st) .none kV doc pm an Gp ct) #[us,[]]=pure (ps.zip us)):
  ∃fd,cJ K mg x st ps f fd/\ ∀(s:EM) (us:EA EH),us.length=ps.length->Se s fd #[us,[]] (ps.zip us):=#[_,#[kH (st:=st) l c k,Fm X G a,k,(kH (st:=st) l c k).binds hb],λs us hu=> .of_eq (hb _ _ _ _ _ _ us hu)]
theorem aD {h:Gn}{mg:Fh->ET EH}(X:K.In h) (G:h.Ns ID mg) {x:Fh}{st:Stmt}{ps:EA Fh}{f:EJ}{oc:EH}{od an:ET EJ}{sl:IQ (ET EH)}{kV doc pm cd ct:EH}
  (z:Jv K ID x=EQ (EQ (.ref f))/\K.lookup f=EQ #[oc,od, .func (HB x x (dM st) (a8 st) (af st) .none kV doc pm an cd ct),sl]/\KA K cd x=FB/\HR K (.ref f)=FB)
  (hb: ∀(kV doc pm:EH) (an:ET EJ) (Gp ct:EH) (us:EA EH),us.length=ps.length->GQ (HB x x (dM st) (a8 st) (af st) .none kV doc pm an Gp ct) #[us,[]]=pure (ps.zip us)):
  cJ K mg x st ps f (HB x x (dM st) (a8 st) (af st) .none kV doc pm an cd ct):=#[kH (st:=st) z.2.1 z.2.2.1 z.2.2.2,Fm X G z.1,z.2.2.2,(kH (st:=st) z.2.1 z.2.2.1 z.2.2.2).binds hb]
theorem aH {x q:Fh}{st:Stmt}{ps:EA Fh}{C f:EJ}{oc:EH}{od an:ET EJ}{sl:IQ (ET EH)}{kV doc pm cd ct:EH}
  (z:Hh K (.ref C) x=EQ (EQ (.ref f))/\Oq K (.ref f)=FB/\K.lookup f=EQ #[oc,od, .func (HB x q (dM st) (a8 st) (af st) .none kV doc pm an cd ct),sl]/\KA K cd q=FB/\HR K (.ref f)=FB)
  (hb: ∀(kV doc pm:EH) (an:ET EJ) (Gp ct:EH) (us:EA EH),us.length=ps.length->GQ (HB x q (dM st) (a8 st) (af st) .none kV doc pm an Gp ct) #[us,[]]=pure (ps.zip us)):
  eF K C x q st ps f (HB x q (dM st) (a8 st) (af st) .none kV doc pm an cd ct):=#[kH (st:=st) z.2.2.1 z.2.2.2.1 z.2.2.2.2,#[z.1,z.2.1,z.2.2.2.2],(kH (st:=st) z.2.2.1 z.2.2.2.1 z.2.2.2.2).binds hb]
end
section
variable {a:EJ}
def cOf:Data->ET ClassData
 | .cls c=>EQ c
 |_=>Fa
theorem ZA (h:cOf d=EQ c):d= .cls c:=by
 cases d with
 |cls c=>cases h;rfl
 |_=>cases h
theorem six {A:Type}{l:IQ A}{x:A}(h:l.toList.length=6):l.toList[4]?=EQ x-> ∃a b c d f,l= [a,b,c,d,x,f].toArray:=by
 obtain⟨l⟩:=l;exact v6 (C:=λl=>l[4]?=EQ x-> ∃a b c d f,(#[l]:IQ A)= [a,b,c,d,x,f].toArray) h λa b c d e f z=>by cases z;exact#[a,b,c,d,f,FS]
noncomputable def ZC (K:EF) (C:EJ) (u:EA EJ):ET EJ:=(K.lookup C).bind λo=>(cOf o.data).bind λcd=>
 if o.cls= .type "type"/\cd.mro= .ref C::(u.map Fq++cW)/\cd.hasDict=FB/\cd.hasDel=FM/\o.slots.toList.length=6/\o.slots.toList[4]?=EQ (EQ (.builtin "Exception.__new__")) then EQ cd.ns else Fa
theorem wL (q:ZC K C u=EQ N) (X:K.In h):XO h C N (u.map Fq++cW):=by
 obtain⟨o,h1,q⟩:=HK.mp q;obtain⟨cd,h2,q⟩:=HK.mp q;split at q
 ·rename_i g
  obtain⟨g1,g2,g3,g4,g5,g6⟩:=g;cases q;obtain⟨k0,k1,k2,k3,k5,g5⟩:=six g5 g6;have h2:=ZA h2;obtain⟨nm,bs,mro,ns,qn,hd,sn,sub,ab,col,CT⟩:=cd;obtain⟨cl,dd,da,sl⟩:=o;cases g1;cases g2;cases g3;cases g4;cases h2;cases g5;exact#[nm,qn,bs,sn,sub,ab,col,dd,k0,k1,k2,k3,k5,X _ _ h1]
 ·cases q
theorem fX {mg:Fh->ET EH}(_:K.In h0) (_:mg x=EQ (.ref C)) (_:mg "Refusal"=EQ (.ref R)) (l:ZC K C [R]=EQ N)
  (HH:Vf K N=FB) (hi:Jv K N "__init__"=EQ (EQ (.ref fI))) (hq:(cV.map λn=>Jv K N n)=cV.map λ_=>EQ Fa) (lI:((K.lookup fI).map λo=>o.cls)=EQ (.type "function")) (kp:HR K (.ref C)=FB)
  (lR:ZC K R []=EQ NR) (aeG:Vf K NR=FB) (hqR:(cV.map λn=>Jv K NR n)=cV.map λ_=>EQ Fa):dA K R C fI:=by
 obtain⟨oI,lI,cI⟩:=FG.mp lI;refine#[λh X=>?_,kp];have ns:h.Ns N (h.nsMap N):= .of_isNs (SM X HH);have nR:h.Ns NR (h.nsMap NR):= .of_isNs (SM X aeG);have all: ∀ {M:EJ},(cV.map λn=>Jv K M n)=(cV.map λ_=>EQ Fa)-> ∀n∈cV,Jv K M n=EQ Fa:=λe=>EA.map_inj_left.mp e
 exact#[N,h.nsMap N,oI,NR,h.nsMap NR,wL l X,ns,Em X ns hi,λn hn=>Qt X HH (all hq n hn),X _ _ lI,cI,wL lR X,nR,λn hn=>Qt X aeG (all hqR n hn)]
end
def vY (e:NG):ET (Int×Fh×Int):=(xOf e.key).bind λx=>(iOf e.val).map λi=>(e.hash,x,i)
theorem z6 (z:vY e=EQ (h,x,i)): ∃t u,e.key= .str x t/\e.val= .int i u/\e.hash=h:=by
 obtain⟨x',h1,z⟩:=HK.mp z;obtain⟨i',h2,z⟩:=FG.mp z;cases z;obtain⟨t,h1⟩:=uh h1;obtain⟨u,h2⟩:=um h2;exact#[t,u,h1,h2,FS]
section
variable {a:EJ}
theorem wz: ∀ {es:EA NG}{L:EA (Fh×Int)},es.map vY=(L.map λp=>EQ (hashStr w p.1,p.1,p.2))->
  ∃vs:EA (a0×EH),KV (L.map λp=>((Hu p.1:a0),V.int p.2)) vs/\PySem.Pairs (aT P w) es vs/\(vs.map (·.1))=(L.map λp=>(Hu p.1:a0))/\ ∀e∈es,∃k,(aT P w).is k e.key=FB/\e.hash=(aT P w).hash k
 |[],[],_=>#[[], .nil, .nil,FS,λ_ z=>nomatch z]
 |[],_::_,h=>by cases h
 |_::_,[],h=>by cases h
 |e::es,p::L,h=>by
  rw[Fe,Fe] at h;obtain⟨h1,h2⟩:=IZ h;obtain⟨vs,k1,k2,k3,k4⟩:=wz h2;obtain⟨t,u,e1,e2,e3⟩:=z6 h1;have is:(aT P w).is (Hu p.1) e.key=FB:=by rw[e1];show Oh p.1 (.str p.1 t)=FB;simp [Oh]
  refine#[(Hu p.1, .int p.2 u)::vs, .cons #[FS,#[u,FS]] k1, .cons is e2 k2,by rw[Fe,Fe,k3],λy hy=>?_];rcases EW.mp hy with rfl|hy
  ·exact#[Hu p.1,is,e3]
  ·exact k4 y hy
theorem ZD {p:Fh×Int}{L:EA (Fh×Int)}(h:(RU K a).map vY=((p::L).map λp=>EQ (hashStr w p.1,p.1,p.2))) (nd:((p::L).map (·.1)).Nodup) (len:(p::L).length<=FE) (no:(a == HN)=FM):
  CU P w K a ((p::L).map λp=>((Hu p.1:a0),V.int p.2)):=by
 obtain⟨vs,k1,k2,k3,k4⟩:=wz (P:=P) h;cases he:RU K a with
 |nil=>rw[he] at h;cases h
 |cons e r=>
  obtain⟨o,es,ep,lk,ex,od,el⟩:=wZ he;rw[he,<-el] at k2;rw[he] at k4;refine#[#[vs,λhp hK=>#[o,es,ep,hK a o lk,ex,od,λy hy=>k4 y (by rw[<-el];exact SI.mpr hy),k2,?_],k1],by rw[EY];exact len,no];rw[k3,Fe];rw[show(λp:Fh×Int=>(Hu p.1:a0))=(λx=>Hu x) ∘ (λp:Fh×Int=>p.1) from rfl];rw[show(Hu p.1:a0)::L.map ((λx=>(Hu x:a0)) ∘ λp=>p.1)=((p::L).map (·.1)).map (λx=>(Hu x:a0)) by rw[Fe,Fe,Jg]];exact EA.Pairwise.map (λx=>(Hu x:a0)) (λ_ _ h z=>h (Ja z)) nd
theorem wH: ∀ {qs:EA EJ}{rows:EA (EA Fh)},(qs.map λq=>(LV K q).bind mV)=rows.map EQ->Paired (λq xs=>o4 K q xs) qs (rows.map λr=>r.map V.str)
 |[],[],_=> .nil
 |[],_::_,h=>by cases h
 |_::_,[],h=>by cases h
 |q::qs,r::rows,h=>by
  rw[Fe,Fe] at h;obtain⟨h1,h2⟩:=IZ h;exact .cons (sh h1) (wH h2)
theorem ZE {qs:EA EJ}{rows:EA (EA Fh)}(h:(LV K a).bind uH=EQ qs) (h2:(qs.map λq=>(LV K q).bind mV)=rows.map EQ):zt K a (rows.map λr=>r.map V.str):=by
 cases e:LV K a with
 |none=>rw[e] at h;cases h
 |some vs=>rw[e] at h;exact#[qs,qy e (sW h),wH h2]
theorem Eh {mg:Fh->ET EH}{a:be}(_:aU K mg a) (e:(RU K a.GC).map vY=(([("min",2),("max",2),("abs",1)]:EA (Fh×Int)).map λp=>EQ (hashStr w p.1,p.1,p.2))) (no:(a.GC == HN)=FM):CU P w K a.GC dn:=ZD (p:=("min",2)) (L:=[("max",2),("abs",1)]) e [00] [01] no
theorem D9 {mg:Fh->ET EH}{a:be}(_:aU K mg a) (e:(((LV K a.Hz).bind uH).map λqs=>qs.map λq=>(LV K q).bind mV)=EQ (([["||"],["&&"],["==","!=","<=",">=","<",">"],["+","-"],["*","/","/rest"]]:EA (EA Fh)).map EQ)):zt K a.Hz dh:=by
 obtain⟨qs,e1,e2⟩:=FG.mp e;exact ZE e1 e2
end
theorem aeH (_:aU K mg a) (c:BJ K a.GB "__init__" a.f_o) (x0:dA K a.GB a.Hd a.f_1) (x1:dA K a.GB a.IW a.f_L) (x2:dA K a.GB a.Ko a.f_M) (x3:dA K a.GB a.JW a.YH) (x4:dA K a.GB a.JX a.YI) (x5:dA K a.GB a.IX a.YJ) (x6:dA K a.GB a.KZ a.YK) (x7:dA K a.GB a.Lc a.YG):XN K a:=#[#[#[x0,c],x1,x2,x3,x4,x5,x6],x7]
def yX (K:EF):EA EJ->Prop
 |[]=>True
 |C::l=>Ak K C/\yX K l
theorem sv {C:EJ} : ∀ {l:EA EJ},yX K l->C∈l->Ak K C
 |D::l,h,m=>by
  rcases EW.mp m with z|z
  ·rw[z];exact h.1
  ·exact sv h.2 z
theorem Ad:yX K []:=trivial
theorem bU (h:Ak K C) (t:yX K l):yX K (C::l):=#[h,t]
theorem ZF {a:be}(t:yX K (zc a)) (kit:((zc a).map λC=>(zc a).map λD=>Hy K (.ref C) (.ref D))=(IS 15).map λi=>(IS 15).map λj=>EQ (decide (i=j))):ma K a:=#[λC h=>sv t h,kit]
end OS
set_option hygiene false in
local macro_rules
|`(command|#synth [$n,*])=>do
 let t:=λc:Lean.Name=>do
  let i:=Lean.mkIdent (.str `PySem.W.Fast s!"tw{c.hash}")
  `(theorem $i:ident:True:=trivial)
 let f:=λ(k:String) (i:Nat)=>t (.str `OS.hd s!"{k}_{i}")
 let a<-(Array.range 1606).mapM (f "o")
 let b<-n.getElems.mapM λx=>match x with|`($k:ident*$i:num)=>f k.getId.toString i.getNat|x=>t x.getId
 return Lean.mkNullNode ((a++b).map (·.raw))
#synth [heap*1606,tree*1605,tree*1575,tree*1498,tree*1412,tree*1246,tree*1331,heap*1,tree*1116,tree*1079,tree*1018,tree*992,tree*926,tree*868,tree*845,tree*766,tree*701,view*1,tree*657,PySem.Challenge.pw_ordersheets_s06_steps,tree*607,tree*585,tree*563,tree*541,tree*519,tree*497,tree*475,tree*453,tree*430,tree*400,tree*377,tree*354,tree*331,tree*308,tree*285,tree*262,tree*239,tree*216,tree*193,sts*1335,sts*767,tree*170,sts*927,sts*1499,sts*1413,sts*1080,tree*147,sts*1119,tree*124,tree*101,sts*869,sts*702,tree*78,sts*1576,sts*608,sts*1022,sts*993,tree*55,sts*658,sts*401,sts*378,sts*286,sts*240,tree*32,sts*476,sts*355,sts*846,sts*148,sts*194,sts*10,sts*332,sts*217,sts*125,sts*102,sts*431,sts*263,sts*56,sts*79,sts*309,sts*171,sts*586,sts*498,sts*454,sts*542,sts*520,sts*564,sts*33,heap*7,tree*8,env*2]
section
open PySem PySem.W PyProof.Rows
set_option hygiene false
local macro_rules
|`(tactic|o_headS ($_ $k $a $e))=>`(tactic|o_headS ((OS.hook $k $a $e):PySem.W.Hook))
local macro_rules
|`(?hc)=>`(OS.ap Z ?hcc)
|`([0x0])=>`((by kernel_rfl))
|`([0x1])=>`(#[_,Fm KX G (by exact rfl)])
|`([0x3])=>`(OS.noAttr (by kernel_rfl))
|`([0x4])=>`(#[by kernel_rfl,by kernel_rfl,by kernel_rfl,by kernel_rfl])
|`([0x5])=>`(#[by exact rfl,by exact rfl,by kernel_rfl,by kernel_rfl])
|`([0x6])=>`(#[by exact rfl,by kernel_rfl,by exact rfl,by kernel_rfl,by kernel_rfl])
|`([0x2])=>`(#[by kernel_rfl,by kernel_rfl,by kernel_rfl,by kernel_rfl,by kernel_rfl])
def OS.Zt:Prop:= ∀ {P:Fz}{w:Ga}{K:EF}{mg:Fh->ET EH}{base:Gn}{a:OS.be}(_:OS.aU K mg a) (_:OS.XN K a) (_:OS.zr P w K a.Jy OS.dO) (_:OS.CU P w K a.GC OS.dn) (_:OS.zt K a.Hz OS.dh) (_:OS.ma K a),L2.bS P w K mg base L2.wG 180 a.f_d a.Vk ["zones","quarters","low","high","text"] (OS.jI K)
theorem OS.noAttr {K:EF}{C:EJ}{f:Fh}(h:Hh K (.ref C) f=EQ Fa):L2.ak K C f:=h
theorem OS.ap {P:Prop}(z:OS.Zt) (h:OS.Zt->P):P:=h z
set_option maxRecDepth 100000 in
set_option maxHeartbeats 0 in
theorem OS.hd (Z:OS.Zt):PySem.Challenge.rw_ordersheets_s06_steps.Holds:=by
 have W:=OS.aa9
 w_on;k_headS;(case hw=>exact#[[.int 0, .int 0, .int 0, .int 0, .list []],by decide+kernel,by decide+kernel])
 k_fillS
 intro Z;refine L2.va (r:=PySem.Challenge.rw_ordersheets_s06_steps) (k:=180) (CX:=L2.wG) (ps:=["zones","quarters","low","high","text"]) (sp:=OS.jI) [00] rfl rfl #[FS,by decide,by decide] (λw h Y=>OS.UQ Y) ?F ?S (λ_ _ _ _ z=>z)
 case F=>
  intro w mg fa h Y KX G hmg;obtain⟨Vk,d_d,ajE⟩:=OS.Eb (x:="steps") (st:=OS.s_d) (ps:=["zones","quarters","low","high","text"]) KX G (by exact rfl) (by exact rfl) (by exact rfl) (by exact rfl) (λ_ _ _ _ _ _ us hl=>OS.u5 hl λ_ _ _ _ _=>[0x0])
  have T:OS.aU _ mg ⟨_,_,_,_,_,_,_,_,_,_,_,_,_,_,_,_,_,_,_,_,_,_,_,_,_,_,_,_,_,_,_,_,_,_,_,_,_,_,_,_,_,_,_,_,_,_,_,_,_,_,_,_,_,_,_,_,_,_,_,_,_,_,_,_,_,_,_,_,_,_,_,_,_,_,_,_,_,_,_,_,_,_,_,_,_,_,_,_,_,_,_,_,_,_,_,_,_,_,_,_,_,_,_,_,_,_,_,_,_,_,_,_,_,_,_,_,_,_,_,_,_,_,_,_,_,_,_,_,_,_,_,_,_,_,_,_,_,_,_,_,_,_,_,_,_,_,_,_,_,_,_,_,_,_,_,_,_,_,_,_,_,_,_,_,_,_,_,_,_,_,_,_,_,_,_,_,_,_,_,_,_,_,_,_,_,_,_,_,_,_,_,_,_,_,_,_,_,_,_,_,_,_,_,_,_,_,_,_,_,_,_,_,_,_,_,_,_,_,_,_,_,_,_,_,_,_,_,_,_,_,_,_,_,_,_,_,_,_,_,_,_,_,_,_,_,_,_,_,_,_,_,_,_,_,_,_,_,_,_,_,_,_,_,_,_,_,_,_,_,_,_,_,_,_,_,_,_,_,_,_,_,_,_,_,_,_,_,_,_,_,_,_,_,_,_,_,_,_,_,_,_,_,_,_,_,Vk⟩:=#[(Fm KX G (by exact rfl)),(Fm KX G (by exact rfl)),(Fm KX G (by exact rfl)),(Fm KX G (by exact rfl)),(Fm KX G (by exact rfl)),(Fm KX G (by exact rfl)),(Fm KX G (by exact rfl)),(Fm KX G (by exact rfl)),(Fm KX G (by exact rfl)),(Fm KX G (by exact rfl)),(Fm KX G (by exact rfl)),(Fm KX G (by exact rfl)),(Fm KX G (by exact rfl)),(Fm KX G (by exact rfl)),(Fm KX G (by exact rfl)),(Fm KX G (by exact rfl)),(Fm KX G (by exact rfl)),(Fm KX G (by exact rfl)),(Fm KX G (by exact rfl)),(Fm KX G (by exact rfl)),(Fm KX G (by exact rfl)),(Fm KX G (by exact rfl)),(Fm KX G (by exact rfl)),(Fm KX G (by exact rfl)),(Fm KX G (by exact rfl)),(Fm KX G (by exact rfl)),(Fm KX G (by exact rfl)),(Fm KX G (by exact rfl)),(Fm KX G (by exact rfl)),(Fm KX G (by exact rfl)),(Fm KX G (by exact rfl)),(Fm KX G (by exact rfl)),(Fm KX G (by exact rfl)),(OS.aH [0x6] [04]),(OS.aH [0x6] [04]),(OS.aH [0x6] (λ_ _ _ _ _ _ us hl=>OS.u3 hl λ_ _ _=>[0x0])),(OS.aH [0x6] (λ_ _ _ _ _ _ us hl=>OS.u3 hl λ_ _ _=>[0x0])),(OS.aH [0x6] (λ_ _ _ _ _ _ us hl=>OS.u4 hl λ_ _ _ _=>[0x0])),(OS.aH [0x6] (λ_ _ _ _ _ _ us hl=>OS.u4 hl λ_ _ _ _=>[0x0])),(OS.aH [0x6] (λ_ _ _ _ _ _ us hl=>OS.u5 hl λ_ _ _ _ _=>[0x0])),(OS.aH [0x6] (λ_ _ _ _ _ _ us hl=>OS.u3 hl λ_ _ _=>[0x0])),(OS.aH [0x6] (λ_ _ _ _ _ _ us hl=>OS.u5 hl λ_ _ _ _ _=>[0x0])),(OS.aH [0x6] (λ_ _ _ _ _ _ us hl=>OS.u4 hl λ_ _ _ _=>[0x0])),(OS.aH [0x6] (λ_ _ _ _ _ _ us hl=>OS.u7 hl λ_ _ _ _ _ _ _=>[0x0])),(OS.aH [0x6] (λ_ _ _ _ _ _ us hl=>OS.u3 hl λ_ _ _=>[0x0])),(OS.aH [0x6] (λ_ _ _ _ _ _ us hl=>OS.u8 hl λ_ _ _ _ _ _ _ _=>[0x0])),(OS.aH [0x6] (λ_ _ _ _ _ _ us hl=>OS.u3 hl λ_ _ _=>[0x0])),(OS.aH [0x6] (λ_ _ _ _ _ _ us hl=>OS.u4 hl λ_ _ _ _=>[0x0])),(OS.aH [0x6] (λ_ _ _ _ _ _ us hl=>OS.u3 hl λ_ _ _=>[0x0])),(OS.aH [0x6] (λ_ _ _ _ _ _ us hl=>OS.u8 hl λ_ _ _ _ _ _ _ _=>[0x0])),(OS.aH [0x6] (λ_ _ _ _ _ _ us hl=>OS.u8 hl λ_ _ _ _ _ _ _ _=>[0x0])),(OS.aD KX G [0x5] (λ_ _ _ _ _ _ us hl=>OS.u1 hl λ_=>[0x0])),(OS.aH [0x6] [04]),(OS.aH [0x6] (λ_ _ _ _ _ _ us hl=>OS.u1 hl λ_=>[0x0])),(OS.aH [0x6] (λ_ _ _ _ _ _ us hl=>OS.u4 hl λ_ _ _ _=>[0x0])),(OS.aH [0x6] (λ_ _ _ _ _ _ us hl=>OS.u1 hl λ_=>[0x0])),(OS.aH [0x6] (λ_ _ _ _ _ _ us hl=>OS.u1 hl λ_=>[0x0])),(OS.aH [0x6] (λ_ _ _ _ _ _ us hl=>OS.u1 hl λ_=>[0x0])),(OS.aH [0x6] (λ_ _ _ _ _ _ us hl=>OS.u1 hl λ_=>[0x0])),(OS.aH [0x6] (λ_ _ _ _ _ _ us hl=>OS.u1 hl λ_=>[0x0])),(OS.aH [0x6] (λ_ _ _ _ _ _ us hl=>OS.u1 hl λ_=>[0x0])),(OS.aD KX G [0x5] [04]),(OS.aD KX G [0x5] (λ_ _ _ _ _ _ us hl=>OS.u3 hl λ_ _ _=>[0x0])),(OS.aD KX G [0x5] (λ_ _ _ _ _ _ us hl=>OS.u3 hl λ_ _ _=>[0x0])),(OS.aD KX G [0x5] [04]),(OS.aD KX G [0x5] [04]),(OS.aD KX G [0x5] [04]),(OS.aD KX G [0x5] (λ_ _ _ _ _ _ us hl=>OS.u1 hl λ_=>[0x0])),(OS.aH [0x6] [04]),(OS.aH [0x6] (λ_ _ _ _ _ _ us hl=>OS.u1 hl λ_=>[0x0])),(OS.aH [0x6] (λ_ _ _ _ _ _ us hl=>OS.u1 hl λ_=>[0x0])),(OS.aH [0x6] (λ_ _ _ _ _ _ us hl=>OS.u3 hl λ_ _ _=>[0x0])),(OS.aH [0x6] [04]),(OS.aH [0x6] [04]),(OS.aH [0x6] [04]),(OS.aH [0x6] [04]),(OS.aD KX G [0x5] (λ_ _ _ _ _ _ us hl=>OS.u3 hl λ_ _ _=>[0x0])),(OS.aD KX G [0x5] (λ_ _ _ _ _ _ us hl=>OS.u3 hl λ_ _ _=>[0x0])),(OS.aD KX G [0x5] (λ_ _ _ _ _ _ us hl=>OS.u3 hl λ_ _ _=>[0x0])),(OS.aD KX G [0x5] (λ_ _ _ _ _ _ us hl=>OS.u3 hl λ_ _ _=>[0x0])),(OS.aD KX G [0x5] (λ_ _ _ _ _ _ us hl=>OS.u3 hl λ_ _ _=>[0x0])),(OS.aD KX G [0x5] (λ_ _ _ _ _ _ us hl=>OS.u3 hl λ_ _ _=>[0x0])),(OS.aD KX G [0x5] (λ_ _ _ _ _ _ us hl=>OS.u3 hl λ_ _ _=>[0x0])),(OS.aD KX G [0x5] (λ_ _ _ _ _ _ us hl=>OS.u1 hl λ_=>[0x0])),(OS.aD KX G [0x5] (λ_ _ _ _ _ _ us hl=>OS.u3 hl λ_ _ _=>[0x0])),(OS.aD KX G [0x5] (λ_ _ _ _ _ _ us hl=>OS.u3 hl λ_ _ _=>[0x0])),(OS.aD KX G [0x5] (λ_ _ _ _ _ _ us hl=>OS.u3 hl λ_ _ _=>[0x0])),(OS.aH [0x6] (λ_ _ _ _ _ _ us hl=>OS.u5 hl λ_ _ _ _ _=>[0x0])),(OS.aH [0x6] [04]),(OS.aD KX G [0x5] [04]),(OS.aD KX G [0x5] [04]),(OS.aD KX G [0x5] [04]),(OS.aD KX G [0x5] [04]),(OS.aD KX G [0x5] [04]),(OS.aD KX G [0x5] [04]),(OS.aD KX G [0x5] [04]),(OS.aD KX G [0x5] (λ_ _ _ _ _ _ us hl=>OS.u3 hl λ_ _ _=>[0x0])),(OS.aD KX G [0x5] [04]),(OS.aD KX G [0x5] [04]),(OS.aD KX G [0x5] [04]),(OS.aD KX G [0x5] [04]),(OS.aD KX G [0x5] [04]),(OS.aD KX G [0x5] (λ_ _ _ _ _ _ us hl=>OS.u3 hl λ_ _ _=>[0x0])),(OS.aH [0x6] (λ_ _ _ _ _ _ us hl=>OS.u5 hl λ_ _ _ _ _=>[0x0])),(OS.aD KX G [0x5] (λ_ _ _ _ _ _ us hl=>OS.u1 hl λ_=>[0x0])),(OS.aD KX G [0x5] (λ_ _ _ _ _ _ us hl=>OS.u1 hl λ_=>[0x0])),(OS.aD KX G [0x5] [04]),(OS.aD KX G [0x5] [04]),(OS.aD KX G [0x5] [04]),(OS.aD KX G [0x5] [04]),(OS.aD KX G [0x5] (λ_ _ _ _ _ _ us hl=>OS.u3 hl λ_ _ _=>[0x0])),(OS.aD KX G [0x5] (λ_ _ _ _ _ _ us hl=>OS.u1 hl λ_=>[0x0])),(OS.aD KX G [0x5] [04]),(OS.aD KX G [0x5] (λ_ _ _ _ _ _ us hl=>OS.u1 hl λ_=>[0x0])),(OS.aH [0x6] [04]),(OS.aH [0x6] (λ_ _ _ _ _ _ us hl=>OS.u1 hl λ_=>[0x0])),(OS.aH [0x6] [04]),(OS.aH [0x6] [04]),(OS.aH [0x6] (λ_ _ _ _ _ _ us hl=>OS.u1 hl λ_=>[0x0])),(OS.aH [0x6] (λ_ _ _ _ _ _ us hl=>OS.u1 hl λ_=>[0x0])),(OS.aH [0x6] (λ_ _ _ _ _ _ us hl=>OS.u1 hl λ_=>[0x0])),(OS.aH [0x6] (λ_ _ _ _ _ _ us hl=>OS.u1 hl λ_=>[0x0])),(OS.aH [0x6] (λ_ _ _ _ _ _ us hl=>OS.u1 hl λ_=>[0x0])),(OS.aH [0x6] [04]),(OS.aH [0x6] [04]),(OS.aH [0x6] (λ_ _ _ _ _ _ us hl=>OS.u1 hl λ_=>[0x0])),(OS.aH [0x6] (λ_ _ _ _ _ _ us hl=>OS.u1 hl λ_=>[0x0])),(OS.aH [0x6] [04]),(OS.aH [0x6] [04]),(OS.aH [0x6] [04]),(OS.aD KX G [0x5] [04]),(OS.aD KX G [0x5] [04]),(OS.aD KX G [0x5] [04]),(OS.aD KX G [0x5] (λ_ _ _ _ _ _ us hl=>OS.u3 hl λ_ _ _=>[0x0])),(OS.aD KX G [0x5] [04]),(OS.aD KX G [0x5] [04]),(OS.aD KX G [0x5] [04]),(OS.aD KX G [0x5] [04]),(OS.aD KX G [0x5] [04]),(OS.aD KX G [0x5] [04]),(OS.aD KX G [0x5] (λ_ _ _ _ _ _ us hl=>OS.u1 hl λ_=>[0x0])),(OS.aD KX G [0x5] (λ_ _ _ _ _ _ us hl=>OS.u1 hl λ_=>[0x0])),(OS.aD KX G [0x5] (λ_ _ _ _ _ _ us hl=>OS.u1 hl λ_=>[0x0])),(OS.aD KX G [0x5] (λ_ _ _ _ _ _ us hl=>OS.u1 hl λ_=>[0x0])),(OS.aD KX G [0x5] (λ_ _ _ _ _ _ us hl=>OS.u1 hl λ_=>[0x0])),(OS.aD KX G [0x5] [04]),(OS.aD KX G [0x5] [04]),(OS.aD KX G [0x5] (λ_ _ _ _ _ _ us hl=>OS.u1 hl λ_=>[0x0])),(OS.aD KX G [0x5] [04]),(OS.aD KX G [0x5] [04]),(OS.aD KX G [0x5] (λ_ _ _ _ _ _ us hl=>OS.u1 hl λ_=>[0x0])),(OS.aD KX G [0x5] [04]),(OS.aD KX G [0x5] [04]),(OS.aD KX G [0x5] [04]),(OS.aD KX G [0x5] (λ_ _ _ _ _ _ us hl=>OS.u1 hl λ_=>[0x0])),(OS.aD KX G [0x5] [04]),(OS.aD KX G [0x5] [04]),(OS.aD KX G [0x5] (λ_ _ _ _ _ _ us hl=>OS.u1 hl λ_=>[0x0])),(OS.aD KX G [0x5] (λ_ _ _ _ _ _ us hl=>OS.u1 hl λ_=>[0x0])),(OS.aD KX G [0x5] (λ_ _ _ _ _ _ us hl=>OS.u1 hl λ_=>[0x0])),(OS.aD KX G [0x5] (λ_ _ _ _ _ _ us hl=>OS.u1 hl λ_=>[0x0])),(OS.aD KX G [0x5] (λ_ _ _ _ _ _ us hl=>OS.u1 hl λ_=>[0x0])),(OS.aD KX G [0x5] (λ_ _ _ _ _ _ us hl=>OS.u1 hl λ_=>[0x0])),(OS.aD KX G [0x5] (λ_ _ _ _ _ _ us hl=>OS.u4 hl λ_ _ _ _=>[0x0])),(OS.aD KX G [0x5] (λ_ _ _ _ _ _ us hl=>OS.u1 hl λ_=>[0x0])),(OS.aD KX G [0x5] (λ_ _ _ _ _ _ us hl=>OS.u5 hl λ_ _ _ _ _=>[0x0])),d_d,[0x4],[0x4],[0x3],[0x4],[0x4],[0x3],[0x4],[0x4],[0x3],[0x3],[0x4],[0x4],[0x3],[0x3],[0x4],[0x4],[0x3],[0x3],[0x3],[0x4],[0x4],[0x3],[0x3],[0x3],[0x4],[0x4],[0x3],[0x3],[0x3],[0x3],[0x4],[0x4],[0x3],[0x3],[0x4],[0x4],[0x3],[0x3],[0x3],[0x3],[0x4],[0x4],[0x3],[0x3],[0x3],[0x4],[0x4],[0x3],[0x3],[0x3],[0x3],[0x3],[0x3],[0x4],[0x4],[0x3],[0x3],[0x4],[0x4],[0x3],[0x3],[0x3],[0x3],[0x3],[0x3],[0x3],[0x4],[0x4],[0x3],[0x3],[0x4],[0x4],[0x3],[0x3],[0x3],[0x4],[0x4],[0x3],[0x3],[0x4],[0x4],[0x3],[0x3],[0x3],[0x3],[0x3],[0x3],[0x3],[0x4],[0x4],[0x3],[0x3],[0x3],[0x3],[0x3],[0x3],[0x3],[0x4],[0x4],[0x3],[0x3],[0x4],[0x4],[0x3],[0x3],[0x3],[0x3],[0x3],[0x4],[0x4],[0x3],[0x3],[0x3],[0x3],[0x4],[0x4],[0x3],[0x3],[0x3],[0x3],[0x3],[0x4],[0x4],[0x3],[0x3],[0x3],[0x3],[0x4],[0x4],[0x3],[0x3],[0x3],[0x3],[0x3],[0x3],[0x1],[0x1],[0x1],[0x1],[0x1],[0x1],[0x1],[0x1],[0x1],[0x1],[0x1],[0x1],[0x1],[0x1],[0x1],[0x1],[0x1],[0x1],[0x1],[0x1],(Fm KX G (by exact rfl)),(Fm KX G (by exact rfl)),[0x1],[0x1],[0x1],[0x1],[0x1],[0x1],[0x1],[0x1],(Fm KX G (by exact rfl)),(Fm KX G (by exact rfl)),[0x1],(Fm KX G (by exact rfl)),[0x1],[0x1],[0x1],[0x1],[0x1],[0x1],[0x1],(OS.Cw (l:=[9,10,13,32]) [0x0]),(OS.sh (l:=["const","fun","desk","let","for","in","if","then","else","sell","buy","zone","quarter","price","to","amount","block","under","group","sum"]) [0x0]),(GR KX G [0x0]),(GR KX G [0x0]),(GR KX G [0x0]),(GR KX G [0x0]),(GR KX G [0x0]),(GR KX G [0x0]),(GR KX G [0x0]),(GR KX G [0x0]),(GR KX G [0x0]),(GR KX G [0x0]),(GR KX G [0x0]),(GR KX G [0x0])]
  have kS:=OS.Dl T (P:=PySem.Challenge.rw_ordersheets_s06_steps.prog) (w:=w) [0x0] rfl
  have kF:=OS.Eh T (P:=PySem.Challenge.rw_ordersheets_s06_steps.prog) (w:=w) [0x0] rfl
  have KT:=OS.D9 T [0x0]
  have XC:=OS.aeH T [0x2] (OS.fX KX T.P7 T.Hi (by exact rfl) [0x0] [0x0] [0x0] [0x0] [0x0] (by exact rfl) [0x0] [0x0]) (OS.fX KX T.MA T.Hi (by exact rfl) [0x0] [0x0] [0x0] [0x0] [0x0] (by exact rfl) [0x0] [0x0]) (OS.fX KX T.Pn T.Hi (by exact rfl) [0x0] [0x0] [0x0] [0x0] [0x0] (by exact rfl) [0x0] [0x0]) (OS.fX KX T.NT T.Hi (by exact rfl) [0x0] [0x0] [0x0] [0x0] [0x0] (by exact rfl) [0x0] [0x0]) (OS.fX KX T.NU T.Hi (by exact rfl) [0x0] [0x0] [0x0] [0x0] [0x0] (by exact rfl) [0x0] [0x0]) (OS.fX KX T.MB T.Hi (by exact rfl) [0x0] [0x0] [0x0] [0x0] [0x0] (by exact rfl) [0x0] [0x0]) (OS.fX KX T.Pp T.Hi (by exact rfl) [0x0] [0x0] [0x0] [0x0] [0x0] (by exact rfl) [0x0] [0x0]) (OS.fX KX T.Ot T.Hi (by exact rfl) [0x0] [0x0] [0x0] [0x0] [0x0] (by exact rfl) [0x0] [0x0]);cases hmg.symm.trans d_d.c.m;exact#[Vk,ajE,λbase _ _=>Z T XC kS kF KT (OS.ZF (OS.bU #[T.O0,[0x0],[0x0],[0x0],[0x0]] (OS.bU #[T.Q3,[0x0],[0x0],[0x0],[0x0]] (OS.bU #[T.PY,[0x0],[0x0],[0x0],[0x0]] (OS.bU #[T.Ox,[0x0],[0x0],[0x0],[0x0]] (OS.bU #[T.ME,[0x0],[0x0],[0x0],[0x0]] (OS.bU #[T.O2,[0x0],[0x0],[0x0],[0x0]] (OS.bU #[T.O3,[0x0],[0x0],[0x0],[0x0]] (OS.bU #[T.Q4,[0x0],[0x0],[0x0],[0x0]] (OS.bU #[T.O4,[0x0],[0x0],[0x0],[0x0]] (OS.bU #[T.RN,[0x0],[0x0],[0x0],[0x0]] (OS.bU #[T.LJ,[0x0],[0x0],[0x0],[0x0]] (OS.bU #[T.J9,[0x0],[0x0],[0x0],[0x0]] (OS.bU #[T.P9,[0x0],[0x0],[0x0],[0x0]] (OS.bU #[T.Qa,[0x0],[0x0],[0x0],[0x0]] (OS.bU #[T.Q5,[0x0],[0x0],[0x0],[0x0]] OS.Ad))))))))))))))) [0x0])]
 case S=>
  intro K H xs a hO hwi alK hx;cases hx with
  |cons h1 hx=>
  cases hx with
  |cons h2 hx=>
  cases hx with
  |cons h3 hx=>
  cases hx with
  |cons h4 hx=>
  cases hx with
  |cons h5 hx=>
  cases hx;cases h1;cases h2;cases h3;cases h4;cases h5 with
  |lst hs ha=>
   have e:=L2.wT a.2.2.2.2.1 _ ha;subst e
   let I:=Codec.inInt (-1000000000000000000) 1000000000000000000
   have q:(I a.1&&(I a.2.1&&(I a.2.2.1&&(I a.2.2.2.1&&((Codec.inLen 0 4000 a.2.2.2.2.1&&a.2.2.2.2.1.all I)&&FB)))))=FB:=hwi;simp only[Gh] at q;exact#[_,_,_,_,_,a.2.2.2.2.1,FS,hs,(Codec.inNat_iff.mp q.2.2.2.2.1.1).2,λH' p hp=> .lst (L2.cO.of hp) (L2.xq _)]
end

namespace L2
open PySem PySem.Spec PyProof.Rows
theorem xJ (i:Int) (t:Tok):jf (.inl i) (.int i t)=FB:=by simp [jf,EH.isInt]
theorem yz (x:Fh) (t:Tok):jf (.inr x) (.str x t)=FB:=by simp [jf,Oh]
theorem sP (prog:Fz) (w:Ga) (i:Int) (t:Tok):(aT prog w).is (.inl i) (.int i t)=FB:=xJ i t
theorem rE (prog:Fz) (w:Ga) (x:Fh) (t:Tok):(aT prog w).is (.inr x) (.str x t)=FB:=yz x t
theorem aX.length {xs:EA V}(r:aX xs us):xs.length=us.length:=QJ r
theorem aX.get: ∀ {xs:EA V}{us:EA EH}{i:E1}{x:V},aX xs us->xs[i]?=EQ x-> ∃u,us[i]?=EQ u/\bh x u
 |_,_,_,_, .nil,e=>by simp at e
 |_,_,0,_, .cons r _,e=>by simp at e;subst e;exact#[_,FS,r]
 |_,_,i+1,x, .cons _ t,e=>by
  obtain⟨u,h1,h2⟩:=aX.get (i:=i) (x:=x) t (by simpa using e);exact#[u,by simpa using h1,h2]
theorem aX.append: ∀ {xs ys:EA V}{us ws:EA EH},aX xs us->aX ys ws->aX (xs++ys) (us++ws)
 |_,_,_,_, .nil,s=>s
 |_,_,_,_, .cons r t,s=> .cons r (aX.append t s)
theorem aX.take: ∀ {xs:EA V}{us:EA EH}(n:E1),aX xs us->aX (xs.take n) (us.take n)
 |_,_,0,_=> .nil
 |_,_,_+1, .nil=> .nil
 |_,_,n+1, .cons r t=> .cons r (aX.take n t)
theorem aX.drop: ∀ {xs:EA V}{us:EA EH}(n:E1),aX xs us->aX (xs.drop n) (us.drop n)
 |_,_,0,r=>r
 |_,_,_+1, .nil=> .nil
 |_,_,n+1, .cons _ t=>aX.drop n t
def aF (H:Hp) (a:EJ) (o:HO):Hp:=λb=>if b=a then EQ o else H b
theorem ae {H:Hp}{a:EJ}{o:HO} :aF H a o a=EQ o:=by unfold aF;rw[EL rfl]
theorem ac {H:Hp}{a b:EJ}{o:HO}(h:b≠a):aF H a o b=H b:=by unfold aF;rw[EI h]
theorem C8 {H:Hp}{a:EJ}{o u:HO} :aF (aF H a o) a u=aF H a u:=by
 funext b;unfold aF;split<;>rfl
theorem pj {H:Hp}{a b:EJ}{o u:HO}(h:H a=EQ o) (h':H b=EQ u) (d:o≠u):a≠b:=by
 intro e;subst e;rw[h] at h';exact d (E5 h')
theorem ai {H:Hp}{a b:EJ}{o:HO}(h:H a=EQ o) (h':H b=Fa):a≠b:=by
 intro e;subst e;rw[h] at h';cases h'
section
variable {P:Fz}{w:Ga}{H H':Hp}{h h':Gn}{a:EJ}{o:HO}
theorem cw.lt (x:cw P w H h a o):a<h.objs.size:=by
 cases o with
 |lst xs=>obtain⟨_,_,_,_,e⟩:=x;exact Fn e
 |tup xs=>obtain⟨_,_,_,p⟩:=x;exact p.lt
 |dK aC=>obtain⟨_,_,_,_,o,_,_,e,_⟩:=x;exact Fn e
 |dT aC=>obtain⟨_,_,_,_,o,_,_,e,_⟩:=x;exact Fn e
 |set S n=>obtain⟨o,_,_,_,e,_⟩:=x;exact Fn e
 |ins C dx fs=>obtain⟨_,_,_,e,_⟩:=x;exact Fn e
 |own y=>obtain⟨_,e⟩:=x;exact Fn e
 |xd fs=>obtain⟨_,⟨_,_,_,e,_⟩,_⟩:=x;exact Fn e
 |rng lo hi=>obtain⟨_,_,_,e⟩:=x;exact Fn e
 |P5 ob u=>obtain⟨e,_⟩:=x;exact Fn e
 |YB ps=>exact Fn (show h.get? a=EQ _ from x)
 |met f y=>exact Fn (show h.get? a=EQ _ from x)
 |ext φ=>obtain⟨_,⟨_,e⟩,_⟩:=x;exact Fn e
theorem Paired.M7 {α β:Type}{F G:α->β->Prop} : ∀ {l₁:EA α}{l₂:EA β},Paired F l₁ l₂->(∀a b,F a b->G a b)->Paired G l₁ l₂
 |_,_, .nil,_=> .nil
 |_,_, .cons r t,f=> .cons (f _ _ r) (Paired.M7 t f)
theorem cw.Rj (x:cw P w H h a o) (k: ∀b u,(b=a\/H b=EQ (.own a))->h.get? b=EQ u->h'.get? b=EQ u)
  (ho: ∀b,H b=EQ (.own a)->H' b=EQ (.own a)) (ht: ∀b xs,H b=EQ (.tup xs)->H' b=EQ (.tup xs)):cw P w H' h' a o:=by
 induction o with
 |lst xs=>obtain⟨z,Hc,n,r,e⟩:=x;exact#[z,Hc,n,r,k _ _ (.inl rfl) e]
 |tup xs=>obtain⟨z,Hc,r,ob,e,c⟩:=x;exact#[z,Hc,r,ob,k _ _ (.inl rfl) e,c]
 |dK aC=>obtain⟨z,y,vs,r,ob,es,ep,e,c⟩:=x;exact#[z,y,vs,r,ob,es,ep,k _ _ (.inl rfl) e,c]
 |dT aC=>
  obtain⟨z,y,xs,r,ob,es,ep,e,c⟩:=x;exact#[z,y,xs,Paired.M7 r λp q z=>#[z.1,ht _ _ z.2.1,z.2.2],ob,es,ep,k _ _ (.inl rfl) e,c]
 |set S n=>obtain⟨ob,es,ep,t,e,c⟩:=x;exact#[ob,es,ep,t,k _ _ (.inl rfl) e,c]
 |ins C dx fs=>
  obtain⟨d,z,ne,e,mA,⟨od,es,ep,e2,c⟩,r⟩:=x;exact#[ho _ d,z,ne,k _ _ (.inl rfl) e,mA,#[od,es,ep,k _ _ (.inr d) e2,c],r]
 |own y=>obtain⟨ob,e⟩:=x;exact#[ob,k _ _ (.inl rfl) e]
 |xd fs=>obtain⟨mA,⟨od,es,ep,e,c⟩,r⟩:=x;exact#[mA,#[od,es,ep,k _ _ (.inl rfl) e,c],r]
 |rng lo hi=>obtain⟨t,u,v,e⟩:=x;exact#[t,u,v,k _ _ (.inl rfl) e]
 |P5 ob u ih=>obtain⟨e,q⟩:=x;exact#[k _ _ (.inl rfl) e,ih q]
 |YB ps=>
  have e:h.get? a=EQ { cls:= .none,data:= .fields ps } :=x
  show h'.get? a=EQ { cls:= .none,data:= .fields ps }
  exact k a _ (.inl rfl) e
 |met f y=>
  have e:h.get? a=EQ (Oj (.ref f) (.ref y)):=x
  show h'.get? a=EQ (Oj (.ref f) (.ref y))
  exact k a _ (.inl rfl) e
 |ext φ=>obtain⟨p,⟨o,e⟩,st⟩:=x;exact#[st _ _ p λo q=>k _ _ (.inl rfl) q,#[o,k _ _ (.inl rfl) e],st]
theorem h9.lt (x:h9 P w H h) (e:H a=EQ o):a<h.objs.size:=(x a o e).lt
theorem h9.fresh (x:h9 P w H h) (e:h.objs.size<=a):H a=Fa:=by
 cases q:H a with
 |none=>rfl
 |some u=>exact E7 (Fv (x.lt q) e) (Hq _)
theorem h9.kept (x:h9 P w H h) (k: ∀b u,h.get? b=EQ u->h'.get? b=EQ u):h9 P w H h':=λa o e=>
 (x a o e).Rj (λb u _ q=>k b u q) [05] λ_ _ q=>q
theorem h9.laid (x:h9 P w H h) (k: ∀b u,h.get? b=EQ u->h'.get? b=EQ u) (hp:h.objs.size<=a) (new:cw P w (aF H a o) h' a o):h9 P w (aF H a o) h':=λb u e=>by
 have hn:=x.fresh hp;by_cases hb:b=a
 ·subst hb;rw[ae] at e;cases e;exact new
 ·rw[ac hb] at e
  exact(x b u e).Rj (λc v _ q=>k c v q) (λc q=>by rw[ac (ai q hn)];exact q) λc xs q=>by rw[ac (ai q hn)];exact q
end
def eQ:ET HO->Prop
 |some (.lst _)=>True
 |some (.dK _)=>True
 |some (.dT _)=>True
 |some (.set _ _)=>True
 |some (.ins _ _ _)=>True
 |some (.ext _)=>True
 |_=>False
section
variable {P:Fz}{w:Ga}{H:Hp}{h h':Gn}{x e:EJ}{o':HO}
theorem h9.write (ok:h9 P w H h) (mu:eQ (H x)) (he:e=x\/H e=EQ (.own x)) (k: ∀b u,b≠e->h.get? b=EQ u->h'.get? b=EQ u) (heo: ∃u,h'.get? e=EQ u)
  (new:cw P w (aF H x o') h' x o'):h9 P w (aF H x o') h':=λb u q=>by
 have aeI: ∀c y,H c=EQ (.own y)->c≠x:=λc y r z=>by subst z;rw[r] at mu;exact mu
 have ajF: ∀c xs,H c=EQ (.tup xs)->c≠x:=λc xs r z=>by subst z;rw[r] at mu;exact mu
 by_cases hb:b=x
 ·subst hb;rw[ae] at q;cases q;exact new
 ·rw[ac hb] at q
  by_cases ZG:b=e
  ·have q':H b=EQ (.own x):=by
    rcases he with z|z
    ·exact E7 (ZG.trans z) hb
    ·rw[ZG];exact z
   rw[q] at q';cases q';obtain⟨v,hv⟩:=heo;exact#[v,by rw[ZG];exact hv]
  ·refine(ok b u q).Rj (λc v hc r=>k c v ?_ r) (λc r=>by rw[ac (aeI c b r)];exact r) λc xs r=>by rw[ac (ajF c xs r)];exact r
   rcases hc with rfl|hc
   ·exact ZG
   ·rintro rfl
    rcases he with z|z
    ·exact aeI c b hc z
    ·rw[hc] at z;cases z;exact hb rfl
end
section
variable {fs fs' ex ex':EA EJ}{H H1 H2:Hp}{h h1 h2 h':Gn}{a x e:EJ}{o:HO}
theorem Un.any (u:Un fs ex H H1 h h1) {b:EJ}(q:h.get? b=EQ ob) (n:H b=Fa) (hx:b∉ex): ∃sl,h1.get? b=EQ { ob with slots:=sl } :=by
 by_cases hb:b∈fs
 ·exact u.slot b ob q n hb hx
 ·exact#[ob.slots,u.keep b ob q n hb hx]
theorem Un.kept (k: ∀b u,h.get? b=EQ u->h'.get? b=EQ u):Un fs ex H H h h':=
 #[λb ob q _ _ _=>k b ob q,λb ob q _ _ _=>#[ob.slots,k b ob q],λ_ _ _ n _=>n,λb ob q _=>#[ob,k b ob q],λ_ _ q=>q,λ_ _ _ q=>q,λ_ ps q=>#[[].toArray,by rw[q];simp]]
theorem Un.refl:Un fs ex H H h h:=Un.kept λ_ _ q=>q
theorem Un.laid (k: ∀b u,h.get? b=EQ u->h'.get? b=EQ u) (hp:h.objs.size<=a) (hn:H a=Fa):Un fs ex H (aF H a o) h h' where
 keep:=λb u q _ _ _=>k b u q
 slot:=λb u q _ _ _=>#[u.slots,k b u q]
 free:=λb u q n _=>by rw[ac (Gu (Fv (Fn q) hp))];exact n
 there:=λb u q _=>#[u,k b u q]
 Qw:=λb xs q=>by rw[ac (ai q hn)];exact q
 P6:=λb u xs q=>by rw[ac (ai q hn)];exact q
 Qx:=λb ps q=>#[[].toArray,by rw[ac (ai q hn),q];simp]
theorem Un.write (mu:eQ (H x)) (he:e=x\/H e=EQ (.own x)) (k: ∀b u,b≠e->h.get? b=EQ u->h'.get? b=EQ u) (heo: ∃u,h'.get? e=EQ u):Un fs ex H (aF H x o) h h':=by
 have hx: ∀b,H b=Fa->b≠x:=λb n z=>by subst z;rw[n] at mu;exact mu
 have hb: ∀b,H b=Fa->b≠e:=λb n z=>by
  subst z;rcases he with r|r
  ·exact hx b n r
  ·rw[n] at r;cases r
 have hm: ∀b u,H b=EQ u-> ¬eQ (EQ u)->b≠x:=λb u q nm z=>by subst z;rw[q] at mu;exact nm mu
 refine#[λb u q n _ _=>k b u (hb b n) q,λb u q n _ _=>#[u.slots,k b u (hb b n) q],λb u q n _=>by rw[ac (hx b n)];exact n,λb u q _=>?_,
  λb xs q=>by rw[ac (hm b _ q λz=>z)];exact q,λb u xs q=>by rw[ac (hm b _ q λz=>z)];exact q,λb ps q=>#[[].toArray,by rw[ac (hm b _ q λz=>z),q];simp]]
 by_cases ZG:b=e
 ·subst ZG;exact heo
 ·exact#[u,k b u ZG q]
end
structure Cx where
 prog:Fz
 w:Ga
 K:EF
 mg:Fh->ET EH
 base:Gn
 A:Gk
 N:EA Fh
 OZ:EM
 H_0:Hp
 env:Env
 outer:EA Env
 stack:EA Env
 ex:EA EJ
 fn:Fh->FR
 calm:FR
 pn:EA (EJ×Ih)
 xe:EH->EM->Prop
abbrev Cx.fs (X:Cx):EA EJ:=rl X.outer
def oH (sc:Scope) (x:Fh):Prop:=sc.names.lookup x=EQ .local\/sc.names.lookup x=EQ .cell\/sc.names.lookup x=EQ .free
def Loc (sc:Scope) (x:Fh):Prop:=sc.names.lookup x=EQ .local\/sc.names.lookup x=EQ .cell
def Look (env:Env) (h:Gn) (m:Fh->ET EH) (x:Fh) (u:EH):Prop:=
 (env.kindOf x=EQ .local/\m x=EQ u)\/((env.kindOf x=EQ .cell\/env.kindOf x=EQ .free)/\ ∃c,env.cells.lookup x=EQ c/\h.IsCell c (EQ u))
structure Cx.Ok (X:Cx):Prop where
 mod:Mod X.K X.mg X.base
 kind:X.env.scope.kind= .function
 glob:X.env.globals=ID
 blt:X.env.builtins=Ym
 above:X.OZ.heap.objs.size<=X.env.locals
 inj: ∀x y c,X.env.cells.lookup x=EQ c->X.env.cells.lookup y=EQ c->x=y
 has: ∀x,(X.env.kindOf x=EQ .cell\/X.env.kindOf x=EQ .free)-> ∃c,X.env.cells.lookup x=EQ c
 Xg: ∀x c,X.fn x=FB->X.env.cells.lookup x=EQ c->X.OZ.heap.objs.size<=c
 hd:X.calm=FB->X.A.handled=Fa
 frames:X.A.frames=EQ X.stack
 Xh:X.stack=X.outer\/(X.stack=X.env::X.outer/\X.env.frame=EQ X.env.locals)
 ZH: ∀b∈X.ex,b≠X.env.locals/\ ∀x c,X.env.cells.lookup x=EQ c->c≠b
 bs: ∀b o,X.base.get? b=EQ o->X.OZ.heap.get? b=EQ o/\X.H_0 b=Fa
 Ue:X.base.objs.size<=X.OZ.heap.objs.size
 RV: ∀b o,X.base.get? b=EQ o->b∉X.ex
 RW: ∀b∈X.ex,b∉X.fs
 funs:X.OZ.heap.FunFrames X.base X.outer
 VU: ∀b∈X.fs,X.H_0 b=Fa
structure aE (X:Cx) (pins:EA (EJ×Ih)) (σ:EA (ET V)) (H:Hp) (s:EM):Prop where
 ok:X.Ok
 os:s.os=X.OZ.os
 bare:Pg s.gens
 base:Un X.fs X.ex X.H_0 H X.OZ.heap s.heap
 loc: ∃m,s.heap.Ns X.env.locals m/\ ∀(i:E1) (x:Fh) (v:V),X.N[i]?=EQ x->σ[i]?=EQ (EQ v)->oH X.env.scope x-> ∃u,bh v u/\Look X.env s.heap m x u
 cell: ∀x c,X.env.cells.lookup x=EQ c-> ∃v,s.heap.IsCell c v
 free:H X.env.locals=Fa
 LG: ∀x c,X.env.cells.lookup x=EQ c->H c=Fa
 pin: ∀p∈X.pn++pins,s.heap.get? p.1=EQ p.2/\H p.1=Fa/\p.1≠X.env.locals/\p.1∉X.fs/\ ∀v,p.2.data≠ .cell v
 HH:h9 X.prog X.w H s.heap
 len:σ.length=X.N.length
section
variable {X:Cx}{pins:EA (EJ×Ih)}{σ:EA (ET V)}{H H':Hp}{s:EM}{h':Gn}
theorem Cx.Ok.ajG (ok:X.Ok) {b:EJ}{o:Ih}(e:X.base.get? b=EQ o):b∉X.fs:=λhb=>by
 have:=(ok.funs.mem hb).1;rw[e] at this;cases this
theorem aE.bs (I:aE X pins σ H s): ∀b o,X.base.get? b=EQ o->s.heap.get? b=EQ o/\H b=Fa:=λb o e=>
 #[I.base.keep b o (I.ok.bs b o e).1 (I.ok.bs b o e).2 (I.ok.ajG e) (I.ok.RV b o e),I.base.free b o (I.ok.bs b o e).1 (I.ok.bs b o e).2 (I.ok.RV b o e)]
theorem aE.bk (I:aE X pins σ H s): ∀b o,X.base.get? b=EQ o->s.heap.get? b=EQ o:=λb o e=>(I.bs b o e).1
theorem aE.mod (I:aE X pins σ H s):Mod X.K X.mg X.base:=I.ok.mod
theorem aE.MI (I:aE X pins σ H s):X.K.In s.heap:=I.ok.mod.UQ.keeps I.bk
theorem aE.fr (I:aE X pins σ H s): ∃m,Fr X.base X.env.locals s.heap m:=
 let ⟨m,hn,_⟩:=I.loc
 #[m,hn,I.bk,Fj I.ok.Ue I.ok.above]
theorem aE.lt (I:aE X pins σ H s):X.env.locals<s.heap.objs.size:=let ⟨_,hn,_⟩:=I.loc;hn.lt
theorem aE.sz (I:aE X pins σ H s):X.OZ.heap.objs.size<=s.heap.objs.size:=Fj I.ok.above (J6 I.lt)
theorem aE.ajH (I:aE X pins σ H s) {a:EJ}(h:s.heap.objs.size<=a):a∉X.fs:=λhb=>by
 obtain⟨_,o,ho,_⟩:=I.ok.funs.mem hb;exact E7 (Fv (Fn ho) (Fj I.sz h)) (Hq _)
theorem aE.Xi (I:aE X pins σ H s): ∀x c,X.env.cells.lookup x=EQ c->c≠X.env.locals:=λx c e z=>by
 obtain⟨v,o,ho,hd⟩:=I.cell x c e;obtain⟨m,⟨o',es,ep,QP,WH,_⟩,_⟩:=I.loc;rw[z,QP] at ho;cases ho;rw[WH] at hd;cases hd
theorem aE.funs (I:aE X pins σ H s):s.heap.FunFrames X.base X.outer:=by
 have all: ∀(l:EA Env),(∀b∈rl l,b∈X.fs)->X.OZ.heap.FunFrames X.base l->s.heap.FunFrames X.base l:=by
  intro l
  induction l with
  |nil=>intro _ _;trivial
  |cons env r ih=>
   intro hs hl;obtain⟨hk,⟨L,o,hf,hn,ho,hd⟩,hr⟩:=hl;have hL:L∈X.fs:=hs L (by unfold rl;rw[Kb,hf];exact EO);obtain⟨sl,e⟩:=I.base.slot L o ho (I.ok.VU L hL) hL λz=>I.ok.RW L z hL;exact#[hk,#[L,_,hf,hn,e,hd],ih (λb hb=>hs b (by unfold rl;rw[Kb,hf];exact EN _ hb)) hr]
 exact all X.outer (λ_ hb=>hb) I.ok.funs
theorem aE.stack (I:aE X pins σ H s):s.heap.FunFrames X.base X.stack:=by
 rcases I.ok.Xh with e|⟨e,hf⟩
 ·rw[e];exact I.funs
 ·rw[e]
  obtain⟨m,hn,_⟩:=I.loc;refine .cons (by rw[I.ok.kind];decide) hf hn ?_ I.funs;exact Gn.get?_none_of_le (Fj I.ok.Ue I.ok.above)
theorem aE.Rk (I:aE X pins σ H s): ∀b∈rl X.stack,b∈X.env.locals::X.fs:=λb hb=>by
 rcases I.ok.Xh with e|⟨e,hf⟩
 ·rw[e] at hb;exact EN _ hb
 ·rw[e] at hb
  unfold rl at hb;rw[Kb,hf] at hb;exact hb
theorem aE.PZ (I:aE X pins σ H s): ∀b∈rl X.stack,H b=Fa:=λb hb=>by
 rcases EW.mp (I.Rk b hb) with e|hb
 ·rw[e];exact I.free
 ·obtain⟨_,o,ho,_⟩:=I.ok.funs.mem hb
  exact I.base.free b o ho (I.ok.VU b hb) λz=>I.ok.RW b z hb
theorem aE.step {g':IQ Qu}{t':E1}{d':Drawn}{ch:EA EJ}(I:aE X pins σ H s)
  (S7: ∀b∈ch,(b∈X.ex\/X.OZ.heap.objs.size<=b)/\b≠X.env.locals/\(∀x c,X.env.cells.lookup x=EQ c->c≠b)/\ ∀p∈X.pn++pins,p.1≠b)
  (keep: ∀b o,b≠X.env.locals->b∉X.fs->b∉ch->s.heap.get? b=EQ o->H b=Fa->h'.get? b=EQ o)
  (slot: ∀b o,b≠X.env.locals->b∈X.fs->b∉ch->s.heap.get? b=EQ o->H b=Fa-> ∃sl,h'.get? b=EQ { o with slots:=sl }) (free: ∀b o,b∉ch->s.heap.get? b=EQ o->H b=Fa->H' b=Fa)
  (there: ∀b o,b∉ch->s.heap.get? b=EQ o-> ∃o',h'.get? b=EQ o')
  (Qw: ∀b xs,H b=EQ (.tup xs)->H' b=EQ (.tup xs)) (P6: ∀b o u,H b=EQ (.P5 o u)->H' b=EQ (.P5 o u)) (Qx: ∀b ps,H b=EQ (.YB ps)-> ∃more,H' b=EQ (.YB (ps++more)))
  (ns: ∀m,s.heap.Ns X.env.locals m->h'.Ns X.env.locals m) (HH:h9 X.prog X.w H' h') (hg:Pg g'):
  aE X pins σ H' { s with heap:=h',gens:=g',drawn:=d',toks:=t' } :=by
 have neL: ∀b o,X.OZ.heap.get? b=EQ o->b≠X.env.locals:=λb o e=>Gu (Fv (Fn e) I.ok.above)
 have neC: ∀b o,X.OZ.heap.get? b=EQ o->b∉X.ex->b∉ch:=λb o e hx hb=>by
  rcases(S7 b hb).1 with z|z
  ·exact hx z
  ·exact E7 (Fv (Fn e) z) (Hq _)
 have cellK: ∀x c,X.env.cells.lookup x=EQ c-> ∀v,s.heap.IsCell c v->h'.IsCell c v:=λx c e v ⟨o,ho,hd⟩=>by
  have nch:c∉ch:=λz=>(S7 c z).2.2.1 x c e rfl
  by_cases hc:c∈X.fs
  ·obtain⟨sl,q⟩:=slot c o (I.Xi x c e) hc nch ho (I.LG x c e)
   exact#[_,q,hd]
  ·exact#[o,keep c o (I.Xi x c e) hc nch ho (I.LG x c e),hd]
 refine#[I.ok,I.os,hg,#[λb o e n hb hx=>?_,λb o e n hb hx=>?_,λb o e n hx=>?_,λb o e hx=>?_,λb xs e=>Qw b xs (I.base.Qw b xs e),λb o xs e=>P6 b o xs (I.base.P6 b o xs e),λb ps e=>?_],?_,λx c e=>?_,?_,λx c e=>?_,λp hp=>?_,HH,I.len]
 ·exact keep b o (neL b o e) hb (neC b o e hx) (I.base.keep b o e n hb hx) (I.base.free b o e n hx)
 ·obtain⟨sl,e1⟩:=I.base.slot b o e n hb hx
  obtain⟨sl',e2⟩:=slot b _ (neL b o e) hb (neC b o e hx) e1 (I.base.free b o e n hx);exact#[sl',e2]
 ·obtain⟨o',e1⟩:=I.base.there b o e hx
  exact free b o' (neC b o e hx) e1 (I.base.free b o e n hx)
 ·obtain⟨o',e1⟩:=I.base.there b o e hx
  exact there b o' (neC b o e hx) e1
 ·obtain⟨m1,e1⟩:=I.base.Qx b ps e
  obtain⟨m2,e2⟩:=Qx b _ e1;exact#[m1++m2,by rw[e2,IQ.append_assoc]]
 ·obtain⟨m,hn,hl⟩:=I.loc
  refine#[m,ns m hn,λi x v e1 e2 e3=>?_];obtain⟨u,r,l⟩:=hl i x v e1 e2 e3;refine#[u,r,?_];rcases l with l|⟨k,c,e,z⟩
  ·exact .inl l
  ·exact .inr #[k,c,e,cellK x c e _ z]
 ·obtain⟨v,z⟩:=I.cell x c e
  exact#[v,cellK x c e v z]
 ·obtain⟨m,⟨o,_,_,ho,_⟩,_⟩:=I.loc
  exact free _ o (λz=>(S7 _ z).2.1 rfl) ho I.free
 ·obtain⟨v,o,ho,hd⟩:=I.cell x c e
  exact free c o (λz=>(S7 c z).2.2.1 x c e rfl) ho (I.LG x c e)
 ·obtain⟨e,n,ne,nf,d⟩:=I.pin p hp
  have nch:p.1∉ch:=λz=>(S7 p.1 z).2.2.2 p hp rfl
  exact#[keep p.1 p.2 ne nf nch e n,free p.1 p.2 nch e n,ne,nf,d]
theorem aE.un {t':E1}(I:aE X pins σ H s) (u:Un X.fs [] H H' s.heap h') (HH:h9 X.prog X.w H' h'):aE X pins σ H' { s with heap:=h',toks:=t' } :=by
 obtain⟨m,⟨o,es,ep,ho,r⟩,_⟩:=id I.loc;obtain⟨sl,hL⟩:=u.any ho I.free (by simp);exact I.step (g':=s.gens) (d':=s.drawn) (ch:=[]) (λ_ z=>nomatch z) (λb o _ hb _ e n=>u.keep b o e n hb (by simp)) (λb o _ hb _ e n=>u.slot b o e n hb (by simp)) (λb o _ e n=>u.free b o e n (by simp)) (λb o _ e=>u.there b o e (by simp)) u.Qw u.P6 u.Qx (λm' hm=>by
  obtain⟨o',es',ep',QP,r'⟩:=hm;rw[ho] at QP;cases QP;exact#[_,es',ep',hL,r']) HH I.bare
theorem aE.call {g':IQ Qu}{t':E1}{d':Drawn}{ch:EA EJ}(I:aE X pins σ H s) (u:Un (rl X.stack) ch H H' s.heap h') (HH:h9 X.prog X.w H' h') (hg:Pg g')
  (S7: ∀b∈ch,(b∈X.ex\/X.OZ.heap.objs.size<=b)/\b≠X.env.locals/\(∀x c,X.env.cells.lookup x=EQ c->c≠b)/\ ∀p∈X.pn++pins,p.1≠b):
  aE X pins σ H' { s with heap:=h',gens:=g',drawn:=d',toks:=t' } :=by
 obtain⟨m,⟨o,es,ep,ho,r⟩,_⟩:=id I.loc;obtain⟨sl,hL⟩:=u.any ho I.free λz=>(S7 _ z).2.1 rfl;exact I.step (ch:=ch) S7 (λb o hL hb hc e n=>u.keep b o e n (λz=>(EW.mp (I.Rk b z)).elim hL hb) hc) (λb o _ _ hc e n=>u.any e n hc) (λb o hc e n=>u.free b o e n hc) (λb o hc e=>u.there b o e hc) u.Qw u.P6 u.Qx (λm' hm=>by
  obtain⟨o',es',ep',QP,r'⟩:=hm;rw[ho] at QP;cases QP;exact#[_,es',ep',hL,r']) HH hg
theorem aE.turned {t':E1}{it:EJ}(I:aE X pins σ H s) (k: ∀b o,b≠it->s.heap.get? b=EQ o->h'.get? b=EQ o) (hn:H it=Fa) (hL:it≠X.env.locals)
  (h1:it∈X.ex\/X.OZ.heap.objs.size<=it) (h2: ∀x c,X.env.cells.lookup x=EQ c->c≠it) (h3: ∀p∈X.pn++pins,p.1≠it):aE X pins σ H { s with heap:=h',toks:=t' } :=by
 have nit: ∀b u,H b=EQ u->b≠it:=λb u e z=>by rw[z,hn] at e;cases e
 refine I.step (g':=s.gens) (d':=s.drawn) (ch:=[it]) (λb hb=>?_) (λb o _ _ hc e _=>k b o (λz=>hc (by simp [z])) e) (λb o _ _ hc e _=>#[o.slots,k b o (λz=>hc (by simp [z])) e]) (λ_ _ _ _ n=>n)
  (λb o hc e=>#[o,k b o (λz=>hc (by simp [z])) e]) (λ_ _ e=>e) (λ_ _ _ e=>e) (λb ps e=>#[[].toArray,by rw[e];simp]) (λm hm=>?_) (λb u e=>?_) I.bare
 ·have e:b=it:=by simpa using hb
  subst e;exact#[h1,hL,h2,h3]
 ·obtain⟨o,es,ep,ho,r⟩:=hm
  exact#[o,es,ep,k _ o (HS hL) ho,r]
 ·refine(I.HH b u e).Rj (λc v hc q=>k c v ?_ q) [05] λ_ _ q=>q
  rcases hc with z|z
  ·rw[z];exact nit b u e
  ·exact nit c _ z
theorem aE.tok (I:aE X pins σ H s) (t:E1):aE X pins σ H { s with toks:=t } :=I.un (h':=s.heap) (t':=t) Un.refl I.HH
theorem aE.kept (I:aE X pins σ H s) (k: ∀b u,s.heap.get? b=EQ u->h'.get? b=EQ u):aE X pins σ H { s with heap:=h',toks:=t' } :=I.un (Un.kept k) (I.HH.kept k)
theorem aE.laid {a:EJ}{o:HO}(I:aE X pins σ H s) (k: ∀b u,s.heap.get? b=EQ u->h'.get? b=EQ u) (hp:s.heap.objs.size<=a) (new:cw X.prog X.w (aF H a o) h' a o):
  aE X pins σ (aF H a o) { s with heap:=h',toks:=t' } :=I.un (Un.laid k hp (I.HH.fresh hp)) (I.HH.laid k hp new)
theorem aE.write {x e:EJ}{o:HO}(I:aE X pins σ H s) (mu:eQ (H x)) (he:e=x\/H e=EQ (.own x)) (k: ∀b u,b≠e->s.heap.get? b=EQ u->h'.get? b=EQ u) (heo: ∃u,h'.get? e=EQ u)
  (new:cw X.prog X.w (aF H x o) h' x o):aE X pins σ (aF H x o) { s with heap:=h',toks:=t' } :=I.un (Un.write mu he k heo) (I.HH.write mu he k heo new)
theorem aE.weak (I:aE X pins σ H s) (hl:σ'.length=σ.length) (w: ∀(i:E1) v,σ'[i]?=EQ (EQ v)->σ[i]?=EQ (EQ v)):aE X pins σ' H s:=
 #[I.ok,I.os,I.bare,I.base,let ⟨m,hn,hl'⟩:=I.loc;#[m,hn,λi x v e1 e2 e3=>hl' i x v e1 (w i v e2) e3],I.cell,I.free,I.LG,I.pin,I.HH,hl.trans I.len]
theorem aE.TJ (I:aE X pins σ H s) (h: ∀p∈TK,s.heap.get? p.1=EQ p.2/\H p.1=Fa/\p.1≠X.env.locals/\p.1∉X.fs/\ ∀v,p.2.data≠ .cell v):aE X TK σ H s:=
 #[I.ok,I.os,I.bare,I.base,I.loc,I.cell,I.free,I.LG,λp hp=>(Fp.mp hp).elim (λz=>I.pin p (Lu _ z)) (h p),I.HH,I.len]
theorem nB {N:EA Fh}(hN:N.Nodup) {i j:E1}{x:Fh}(a:N[i]?=EQ x) (b:N[j]?=EQ x):i=j:=by
 obtain⟨h1,e1⟩:=FF.mp a;obtain⟨h2,e2⟩:=FF.mp b;exact(EA.getElem_inj hN).mp (e1.trans e2.symm)
theorem xX {M:Model}{A:Gk}{E:EH->EM->Prop}{i:E1}{x:Fh}{v:V}{u:EH}{Q:Mo->EM->Prop}(I:aE X pins σ H s) (hN:X.N.Nodup) (hi:X.N[i]?=EQ x) (hx:Loc X.env.scope x) (r:bh v u)
  (h: ∀s',aE X pins (σ.set i (EQ v)) H s'->(∃a,LZ a s.heap s'.heap/\(a=X.env.locals\/X.env.cells.lookup x=EQ a))->Q () s') (hf:X.fn x=FB\/X.env.scope.names.lookup x=EQ .local:=by first|exact .inl rfl|exact .inr rfl|assumption):Fl M A (storeName X.env x u) Q E s:=by
 obtain⟨m,hn,hl⟩:=id I.loc;have ZI:(X.env.scope.kind == .class||(X.env.scope.kind == .module&&X.env.locals !=X.env.globals))=FM:=by rw[I.ok.kind];rfl
 have hiσ:i<σ.length:=by rw[I.len];exact(FF.mp hi).1
 have Xi:=I.Xi
 have tracked: ∀ {a:EJ}{h':Gn},(∃o,s.heap.get? a=EQ o/\H a=Fa)->LZ a s.heap h'->h9 X.prog X.w H h':=λ{a h'} ha hs b ob e=>by
  obtain⟨_,_,QQ⟩:=ha;refine(I.HH b ob e).Rj (λc w' hc q=>(hs.2 c ?_).trans q) [05] λ_ _ q=>q;rintro rfl;rcases hc with rfl|hc
  ·rw[QQ] at e;cases e
  ·rw[QQ] at hc;cases hc
 rcases hx with hk|hk
 ·refine wpAny_storeName_local hk hn (λh' Xj hs=>?_) ZI
  obtain⟨oL,_,_,hoL,_⟩:=id hn;refine h _ #[I.ok,I.os,I.bare,#[λb o e n hb hx=>?_,λb o e n hb hx=>?_,I.base.free,λb o e hx=>?_,I.base.Qw,I.base.P6,I.base.Qx],#[_,Xj,λj y v' e1 e2 e3=>?_],λy c e=>?_,I.free,I.LG,λp hp=>?_,tracked #[oL,hoL,I.free] hs,by simpa using I.len] #[_,hs, .inl rfl]
  ·exact(hs.2 b (Gu (Fv (Fn e) I.ok.above))).trans (I.base.keep b o e n hb hx)
  ·obtain⟨sl,e1⟩:=I.base.slot b o e n hb hx
   exact#[sl,(hs.2 b (Gu (Fv (Fn e) I.ok.above))).trans e1]
  ·obtain⟨o',e1⟩:=I.base.there b o e hx
   exact#[o',(hs.2 b (Gu (Fv (Fn e) I.ok.above))).trans e1]
  ·by_cases hj:j=i
   ·subst hj
    rw[hi] at e1;cases e1;rw[M8 hiσ] at e2;cases e2;exact#[u,r, .inl #[hk,by simp]]
   ·rw[NN (HS hj)] at e2
    obtain⟨u',r',q⟩:=hl j y v' e1 e2 e3;refine#[u',r',?_];rcases q with⟨k,e⟩|⟨k,c,e,z⟩
    ·refine .inl #[k,?_]
     have:y≠x:=λe=>hj (nB hN e1 (e▸hi))
     simp [this,e]
    ·exact .inr #[k,c,e,z.sameBut hs (Xi y c e)]
  ·obtain⟨w',z⟩:=I.cell y c e
   exact#[w',z.sameBut hs (Xi y c e)]
  ·obtain⟨e,n,ne,nf,d⟩:=I.pin p hp
   exact#[(hs.2 p.1 ne).trans e,n,ne,nf,d]
 ·have TM:X.fn x=FB:=by
   rcases hf with z|z
   ·exact z
   ·rw[z] at hk;cases hk
  obtain⟨c,hc⟩:=I.ok.has x (.inl hk);obtain⟨w',z⟩:=I.cell x c hc;refine wpAny_storeName_cell I.ok.kind hk hc z (λh' VZ hs=>?_);obtain⟨oc,hoc,ajI⟩:=id z;refine h { s with heap:=h' } #[I.ok,I.os,I.bare,#[λb o e n hb hx=>?_,λb o e n hb hx=>?_,I.base.free,λb o e hx=>?_,I.base.Qw,I.base.P6,I.base.Qx],#[m,hn.sameBut hs (HS (Xi x c hc)),λj y v' e1 e2 e3=>?_],λy c' e=>?_,I.free,I.LG,λp hp=>?_,tracked #[oc,hoc,I.LG x c hc] hs,by simpa using I.len] #[c,hs, .inr hc]
  ·exact(hs.2 b (Gu (Fv (Fn e) (I.ok.Xg x c TM hc)))).trans (I.base.keep b o e n hb hx)
  ·obtain⟨sl,e1⟩:=I.base.slot b o e n hb hx
   exact#[sl,(hs.2 b (Gu (Fv (Fn e) (I.ok.Xg x c TM hc)))).trans e1]
  ·obtain⟨o',e1⟩:=I.base.there b o e hx
   exact#[o',(hs.2 b (Gu (Fv (Fn e) (I.ok.Xg x c TM hc)))).trans e1]
  ·by_cases hj:j=i
   ·subst hj
    rw[hi] at e1;cases e1;rw[M8 hiσ] at e2;cases e2;exact#[u,r, .inr #[.inl hk,c,hc,VZ]]
   ·rw[NN (HS hj)] at e2
    obtain⟨u',r',q⟩:=hl j y v' e1 e2 e3;refine#[u',r',?_];rcases q with q|⟨k,c',e,z'⟩
    ·exact .inl q
    ·refine .inr #[k,c',e,z'.sameBut hs ?_]
     rintro rfl;exact hj (nB hN e1 (I.ok.inj _ _ _ e hc▸hi))
  ·by_cases hcc:c'=c
   ·subst hcc;exact#[_,VZ]
   ·obtain⟨w2,z2⟩:=I.cell y c' e
    exact#[w2,z2.sameBut hs hcc]
  ·obtain⟨e,n,ne,nf,d⟩:=I.pin p hp
   refine#[(hs.2 p.1 ?_).trans e,n,ne,nf,d];intro q;rw[q,hoc] at e;have q':oc=p.2:=E5 e;exact d w' (by rw[<-q'];exact ajI)
theorem jQ {A:Gk}{E:EH->EM->Prop}{i:E1}{x:Fh}{v:V}{u:EH}{Q:Mo->EM->Prop}(I:aE X pins σ H s) (hN:X.N.Nodup) (hi:X.N[i]?=EQ x) (hx:Loc X.env.scope x) (r:bh v u)
  (h: ∀s',aE X pins (σ.set i (EQ v)) H s'->Q () s') (hf:X.fn x=FB\/X.env.scope.names.lookup x=EQ .local:=by first|exact .inl rfl|exact .inr rfl|assumption):Fl M A (storeName X.env x u) Q E s:=
 xX I hN hi hx r (λs' I' _=>h s' I') hf
theorem aE.VA {s':EM}(I:aE X pins σ H s) (ho:s'.os=s.os) (u:Un (rl X.stack) ch H H' s.heap s'.heap) (HH:h9 X.prog X.w H' s'.heap) (hg:Pg s'.gens)
  (S7: ∀b∈ch,(b∈X.ex\/X.OZ.heap.objs.size<=b)/\b≠X.env.locals/\(∀x c,X.env.cells.lookup x=EQ c->c≠b)/\ ∀p∈X.pn++pins,p.1≠b):aE X pins σ H' s':=by
 obtain⟨h',g',d',t',o'⟩:=s';have e:o'=s.os:=ho;subst e;exact I.call (g':=g') (t':=t') (d':=d') u HH hg S7
end
abbrev St:=EA (ET V)
abbrev TE:=St->Hp->VK->Prop
abbrev TT:=St->Hp->(FR->Hp->Prop)->Prop
abbrev TA:=St->Hp->(EA V->Hp->Prop)->Prop
structure eJ where
 nx:St->Hp->Prop
 rt:VK
 bk:St->Hp->Prop:=λ_ _=>False
 ct:St->Hp->Prop:=λ_ _=>False
abbrev TS:=eJ->St->Hp->Prop
inductive EP (X:Cx) (pins:EA (EJ×Ih)) (σ:St) (Q:VK) (u:EH) (s':EM):Prop
 |mk (v:V) (H':Hp) (_:aE X pins σ H' s') (_:bh v u) (_:Q v H'):EP X pins σ Q u s'
def TP (X:Cx) (pins:EA (EJ×Ih)) (σ:St) (Q:FR->Hp->Prop) (b:FR) (s':EM):Prop:= ∃H',aE X pins σ H' s'/\Q b H'
inductive AP (X:Cx) (pins:EA (EJ×Ih)) (σ:St) (Q:EA V->Hp->Prop) (us:EA EH) (s':EM):Prop
 |mk (vs:EA V) (H':Hp) (_:aE X pins σ H' s') (_:aX vs us) (_:Q vs H'):AP X pins σ Q us s'
def SP (X:Cx) (pins:EA (EJ×Ih)) (D:eJ) (f:Flow) (s':EM):Prop:=
 match f with
 | .next=> ∃σ' H',aE X pins σ' H' s'/\D.nx σ' H'
 | .brk=> ∃σ' H',aE X pins σ' H' s'/\D.bk σ' H'
 | .cont=> ∃σ' H',aE X pins σ' H' s'/\D.ct σ' H'
 | .ret u=> ∃v σ' H',aE X pins σ' H' s'/\bh v u/\D.rt v H'
def PE (X:Cx) (e:G8) (t:TE):Prop:=
 ∀(pins:EA (EJ×Ih)) (s:EM) (σ:St) (H:Hp) (Q:VK),aE X pins σ H s->t σ H Q->Fl (model X.prog X.w) X.A (eval e X.env) (EP X pins σ Q) X.xe s
def PT (X:Cx) (e:G8) (t:TT):Prop:=
 ∀(pins:EA (EJ×Ih)) (s:EM) (σ:St) (H:Hp) (Q:FR->Hp->Prop),aE X pins σ H s->t σ H Q->Fl (model X.prog X.w) X.A (isTrue e X.env (eval e X.env)) (TP X pins σ Q) X.xe s
def PW (X:Cx) (e:G8) (t:TT):Prop:=
 ∀(whole:Sem EH) (pins:EA (EJ×Ih)) (s:EM) (σ:St) (H:Hp) (Q:FR->Hp->Prop),aE X pins σ H s->t σ H Q->Fl (model X.prog X.w) X.A (isTrue e X.env whole) (TP X pins σ Q) X.xe s
theorem PW.pt {X:Cx}{e:G8}{t:TT}(h:PW X e t):PT X e t:=h _
def PA (X:Cx) (es:EA G8) (t:TA):Prop:=
 ∀(pos:Pos) (pins:EA (EJ×Ih)) (s:EM) (σ:St) (H:Hp) (Q:EA V->Hp->Prop),aE X pins σ H s->t σ H Q->Fl (model X.prog X.w) X.A (spliced (Ie pos (Fb es X.env))) (AP X pins σ Q) X.xe s
def PS (X:Cx) (st:Stmt) (t:TS):Prop:=
 ∀(pins:EA (EJ×Ih)) (s:EM) (σ:St) (H:Hp) (D:eJ),aE X pins σ H s->t D σ H->Fl (model X.prog X.w) X.A (exec st X.env) (SP X pins D) X.xe s
def tY (X:Cx) (st:EA Stmt) (t:TS):Prop:=
 ∀(pins:EA (EJ×Ih)) (s:EM) (σ:St) (H:Hp) (D:eJ),aE X pins σ H s->t D σ H->Fl (model X.prog X.w) X.A (execs st X.env) (SP X pins D) X.xe s
inductive Bd (X:Cx) (st:EA Stmt) (D:eJ) (σ:St) (H:Hp):Prop
 |mk (t:TS) (_:tY X st t) (_:t D σ H):Bd X st D σ H
theorem b9 {α:Type}{t:Sem α}{Q Q':α->EM->Prop}{A:Gk}{E:EH->EM->Prop}{s:EM}(h:Fl M A t Q E s) (hQ: ∀a s,Q a s->Q' a s):Fl M A t Q' E s:=HP h hQ λ_ _ x=>x
section
variable {X:Cx}
theorem bin {a b:G8}{ta tb:TE}(ha:PE X a ta) (hb:PE X b tb) {pins:EA (EJ×Ih)}{s:EM}{σ:St}{H:Hp}{R:V->V->Hp->Prop}(I:aE X pins σ H s) (h:ta σ H λx H1=>tb σ H1 λy H2=>R x y H2)
  {α:Type}{Q:α->EM->Prop}{f:EH->EH->Sem α}
  (hf: ∀v u s2 x y H2,aE X pins σ H2 s2->bh x v->bh y u->R x y H2->Fl (model X.prog X.w) X.A (f v u) Q X.xe s2):
  Fl (model X.prog X.w) X.A (eval a X.env) (λv s₁=>Fl (model X.prog X.w) X.A (eval b X.env) (λu s₂=>Fl (model X.prog X.w) X.A (f v u) Q X.xe s₂) X.xe s₁) X.xe s:=by
 refine b9 (ha pins s σ H _ I h) λv s1 ⟨x,H1,I1,r1,q1⟩=>?_;refine b9 (hb pins s1 σ H1 _ I1 q1) λu s2 ⟨y,H2,I2,r2,q2⟩=>?_;exact hf v u s2 x y H2 I2 r1 r2 q2
def lj:E1->St->Hp->VK->Prop
 |0,some v::_,H,Q=>Q v H
 |i+1,_::σ,H,Q=>lj i σ H Q
 |_,_,_,_=>False
theorem Bh {H:Hp}{Q:VK} : ∀ {i:E1}{σ:St},lj i σ H Q-> ∃v,σ[i]?=EQ (EQ v)/\Q v H
 |0,some v::_,h=>#[v,FS,h]
 |i+1,_::σ,h=>Bh (i:=i) (σ:=σ) h
theorem oA {H:Hp}{Q:VK}{v:V}(q:Q v H): ∀ {i:E1}{σ:St},σ[i]?=EQ (EQ v)->lj i σ H Q
 |0,some _::_,e=>E5 (E5 e)▸q
 |i+1,_::σ,e=>oA q (i:=i) (σ:=σ) e
def tC (v:V):TE:=λ_ H Q=>Q v H
theorem dX {i:E1}{x:Fh}{pos:Pos}(hN:X.N[i]?=EQ x) (hv:oH X.env.scope x) (hd:(x == ("__debug__":Fh))=FM:=by decide) (RG:(x == ("__classdict__":Fh))=FM:=by decide):PE X (.Name x pos) (lj i):=by
 intro pins s σ H Q I h;obtain⟨v,e,h⟩:=Bh h;obtain⟨m,hn,hl⟩:=I.loc;obtain⟨u,r,l⟩:=hl i x v hN e hv;have eN:EP X pins σ Q u s:=#[v,H,I,r,h];rcases l with⟨hk,hm⟩|⟨hk,c,hc,TN⟩
 ·exact Yn (V4 I.ok.kind hk hn hm eN) hd
 ·rcases hk with hk|hk
  ·exact Yn (WV I.ok.kind hk hc TN eN) hd
  ·exact Yn (wpAny_loadName_free I.ok.kind hk hc TN eN RG) hd
theorem aj {i j pos} :PE X (.Constant (.int i) j pos) (tC (.int i)):=λ_ _ _ H _ I h=>wpAny_Constant_int #[.int i,H,I.tok _,#[_,FS],h]
theorem tR {b j pos} :PE X (.Constant (.bool b) j pos) (tC (.bl b)):=λ_ _ _ H _ I h=>Constant_bool #[.bl b,H,I,FS,h]
theorem ZJ {j pos} :PE X (.Constant .none j pos) (tC .HZ):=λ_ _ _ H _ I h=>Constant_none #[.HZ,H,I,FS,h]
theorem dG {x j pos} :PE X (.Constant (.str x) j pos) (tC (.str x)):=λ_ _ _ H _ I h=>Calls.Constant_str #[.str x,H,I.tok _,#[_,FS],h]
def Gl (X:Cx) (x:Fh):Prop:=X.env.kindOf x=EQ .globalImplicit
theorem gi {E:EH->EM->Prop}{pins:EA (EJ×Ih)}{s:EM}{σ:St}{H:Hp}{x:Fh}{u:EH}{pos:Pos}{Q:EH->EM->Prop}(I:aE X pins σ H s) (hg:Gl X x) (hm:X.mg x=EQ u) (h:Q u s)
  (hd:(x == ("__debug__":Fh))=FM:=by decide):Fl (model X.prog X.w) X.A (eval (.Name x pos) X.env) Q E s:=
 Qs I.ok.kind hg (Calls.loadGlobal_global (by rw[I.ok.glob];exact I.mod.glob.keeps I.bk) hm h) hd
theorem kX {E:EH->EM->Prop}{pins:EA (EJ×Ih)}{s:EM}{σ:St}{H:Hp}{x:Fh}{u:EH}{pos:Pos}{Q:EH->EM->Prop}(I:aE X pins σ H s) (hg:Gl X x) (hm:X.mg x=Fa) (hv:Kr x=EQ u) (h:Q u s)
  (hn:x≠"__name__":=by decide) (hd:(x == ("__debug__":Fh))=FM:=by decide):Fl (model X.prog X.w) X.A (eval (.Name x pos) X.env) Q E s:=by
 obtain⟨mb,h1,h2⟩:=I.mod.blt;exact Qs I.ok.kind hg (Calls.loadGlobal_builtin (by rw[I.ok.glob];exact I.mod.glob.keeps I.bk) hm (by rw[I.ok.blt];exact h1.keeps I.bk) ((h2 x hn).trans hv) h) hd
theorem qx {x:Fh}{v:V}{u:EH}{pos:Pos}(hg:Gl X x) (hm:X.mg x=EQ u) (r:bh v u) (hd:(x == ("__debug__":Fh))=FM:=by decide):PE X (.Name x pos) (tC v):=
 λ_ _ _ H _ I h=>gi I hg hm #[v,H,I,r,h] hd
variable {a b:G8}{ta tb:TE}{pos:Pos}
def PC (X:Cx) (op:CmpOp) (a b:G8) (t:TE):Prop:=
 ∀(pins:EA (EJ×Ih)) (s:EM) (σ:St) (H:Hp) (Q:VK),aE X pins σ H s->t σ H Q->
  Fl (model X.prog X.w) X.A (eval a X.env) (λv s₁=>Fl (model X.prog X.w) X.A (eval b X.env) (λu s₂=>Fl (model X.prog X.w) X.A (HL op v u) (EP X pins σ Q) X.xe s₂) X.xe s₁) X.xe s
theorem A4 (b:G8) (h:op≠ .In) (h2:op≠ .NotIn):behindInMarks op b=FM:=by
 have e1:(op == CmpOp.In)=FM:=by cases op<;>first|rfl|exact E7 rfl h
 have e2:(op == CmpOp.NotIn)=FM:=by cases op<;>first|rfl|exact E7 rfl h2
 cases b<;>simp [behindInMarks,e1,e2]
def aeJ (ta:TE):TE:=λσ H Q=>ta σ H λx H1=>Q (.bl (!decide (x= .HZ))) H1
theorem bh.VB {x:V}{v:EH}(r:bh x v):(v == Hn)=decide (x= .HZ):=by
 cases x with
 |HZ=>cases r;rfl
 |bl _=>cases r;rfl
 |int _=>obtain⟨t,rfl⟩:=r;rfl
 |str _=>obtain⟨t,rfl⟩:=r;rfl
 |RF _=>obtain⟨t,rfl⟩:=r;rfl
 |W8 _=>obtain⟨t,rfl⟩:=r;rfl
 |ref _=>cases r;rfl
 |ty _=>cases r;rfl
theorem DL {j MK} (ha:PE X a ta):PC X .IsNot a (.Constant .none j MK) (aeJ ta):=by
 intro pins s σ H Q I h;refine b9 (ha pins s σ H _ I h) λv s1 ⟨x,H1,I1,r1,q1⟩=>?_;exact Constant_none (isnot_none_gen #[.bl _,H1,I1,by rw[r1.VB];rfl,q1])
inductive uj (R:FR->Hp->Prop) (x:V) (H1:Hp):Prop
 |mk (c:FR) (_:x= .bl c) (_:R c H1):uj R x H1
def tB (t:TE):TT:=λσ H Q=>t σ H (uj Q)
theorem fC {t:TE}(h:PC X op a b t) (h1:behindInMarks op b=FM:=by first|exact A4 _ [01] [01]|rfl):PT X (.Compare a [op] [b] pos) (tB t):=by
 intro pins s σ H Q I hw;refine VI (b9 (h pins s σ H _ I hw) λv s1 h1=>b9 h1 λu s2 h2=>b9 h2 λc s3 ⟨x,H1,I1,r1,q1⟩=>?_) h1;obtain⟨d,rfl,q⟩:=q1;cases r1;exact Ic #[H1,I1,q]
theorem di {e:G8}{t:TE}(h:PE X e t) (he: ∀whole,isTrue e X.env whole=(do let v<-whole;standAt e.pos;holding [v] (truthy v)):=by intro _;rfl):PT X e (tB t):=by
 intro pins s σ H Q I hw;refine isTrue_plain (b9 (h pins s σ H _ I hw) λv s1 ⟨x,H1,I1,r1,q1⟩=>?_) (he _);obtain⟨d,rfl,q⟩:=q1;cases r1;exact Ic #[H1,I1,q]
variable {tA tB':TT}{rest:EA G8}
def ajJ (t u:TT):TT:=λσ H Q=>t σ H λc H1=>if c=FB then u σ H1 Q else Q FM H1
def tOr (t u:TT):TT:=λσ H Q=>t σ H λc H1=>if c=FB then Q FB H1 else u σ H1 Q
def ajK (t:TT):TT:=λσ H Q=>t σ H λc H1=>Q (!c) H1
theorem lW (ha:PT X a tA):PW X (.BoolOp .And [a] pos) tA:=by
 intro wh pins s σ H Q I h;refine isTrue_and (b9 (ha pins s σ H Q I h) λc s1 e=>?_);cases c with
 |true=>exact isTrue_and_nil e
 |false=>exact e
theorem qB (ha:PT X a tA):PW X (.BoolOp .Or [a] pos) tA:=by
 intro wh pins s σ H Q I h;refine isTrue_or (b9 (ha pins s σ H Q I h) λc s1 e=>?_);cases c with
 |false=>exact isTrue_or_nil e
 |true=>exact e
theorem qj (ha:PT X a tA) (hb:PW X (.BoolOp .And (b::rest) pos) tB'):PW X (.BoolOp .And (a::b::rest) pos) (ajJ tA tB'):=by
 intro wh pins s σ H Q I h;refine isTrue_and (b9 (ha pins s σ H _ I h) λc s1 ⟨H1,I1,q1⟩=>?_);cases c with
 |true=>exact hb wh pins s1 σ H1 Q I1 q1
 |false=>exact#[H1,I1,q1]
theorem v9 (ha:PT X a tA) (hb:PW X (.BoolOp .Or (b::rest) pos) tB'):PW X (.BoolOp .Or (a::b::rest) pos) (tOr tA tB'):=by
 intro wh pins s σ H Q I h;refine isTrue_or (b9 (ha pins s σ H _ I h) λc s1 ⟨H1,I1,q1⟩=>?_);cases c with
 |true=>exact#[H1,I1,q1]
 |false=>exact hb wh pins s1 σ H1 Q I1 q1
theorem kY (ha:PT X a tA):PT X (.UnaryOp .Not a pos) (ajK tA):=by
 intro pins s σ H Q I h;exact isTrue_not (ha pins s σ H (λc H1=>Q (!c) H1) I h)
def aeK (ta tb:TE):TE:=λσ H Q=>ta σ H (uj (λc H1=>if c=FB then tb σ H1 Q else Q (.bl FM) H1))
def ajL (ta tb:TE):TE:=λσ H Q=>ta σ H (uj (λc H1=>if c=FB then Q (.bl FB) H1 else tb σ H1 Q))
theorem jo {op} {t:TE}(h:PE X a t):PE X (.BoolOp op [a] pos) t:=λpins s σ H Q I hw=>BoolOp_one (h pins s σ H Q I hw)
theorem nh (ha:PE X a ta) (hb:PE X (.BoolOp .And (b::rest) pos) tb):PE X (.BoolOp .And (a::b::rest) pos) (aeK ta tb):=by
 intro pins s σ H Q I h;refine BoolOp_and (b9 (ha pins s σ H _ I h) λv s1 ⟨x,H1,I1,r1,q1⟩=>?_);obtain⟨c,rfl,q1⟩:=q1;cases r1;refine Ic ?_;cases c with
 |true=>exact hb pins s1 σ H1 Q I1 q1
 |false=>exact#[.bl FM,H1,I1,FS,q1]
theorem Ba (ha:PE X a ta) (hb:PE X (.BoolOp .Or (b::rest) pos) tb):PE X (.BoolOp .Or (a::b::rest) pos) (ajL ta tb):=by
 intro pins s σ H Q I h;refine BoolOp_or (b9 (ha pins s σ H _ I h) λv s1 ⟨x,H1,I1,r1,q1⟩=>?_);obtain⟨c,rfl,q1⟩:=q1;cases r1;refine Ic ?_;cases c with
 |false=>exact hb pins s1 σ H1 Q I1 q1
 |true=>exact#[.bl FB,H1,I1,FS,q1]
def tIf (t:TT) (ta tb:TE):TE:=λσ H Q=>t σ H λc H1=>if c=FB then ta σ H1 Q else tb σ H1 Q
theorem dD {c:G8}(hc:PT X c tA) (ha:PE X a ta) (hb:PE X b tb):PE X (.IfExp c a b pos) (tIf tA ta tb):=by
 intro pins s σ H Q I h;refine wpAny_IfExp (b9 (hc pins s σ H _ I h) λd s1 ⟨H1,I1,q1⟩=>?_);cases d with
 |true=>exact ha pins s1 σ H1 Q I1 q1
 |false=>exact hb pins s1 σ H1 Q I1 q1
end
def ajM:EH->ET V
 | .none=>EQ .HZ
 | .bool b=>EQ (.bl b)
 | .int i _=>EQ (.int i)
 | .str x _=>EQ (.str x)
 | .bytes b _=>EQ (.RF b)
 | .float b _=>EQ (.W8 b)
 | .ref a=>EQ (.ref a)
 | .type n=>EQ (.ty n)
 |_=>Fa
theorem bh.abs {x:V}{u:EH}(r:bh x u):ajM u=EQ x:=by
 cases x with
 |HZ=>cases r;rfl
 |bl _=>cases r;rfl
 |int _=>obtain⟨t,rfl⟩:=r;rfl
 |str _=>obtain⟨t,rfl⟩:=r;rfl
 |RF _=>obtain⟨t,rfl⟩:=r;rfl
 |W8 _=>obtain⟨t,rfl⟩:=r;rfl
 |ref _=>cases r;rfl
 |ty _=>cases r;rfl
theorem bh.inj {x y:V}{u:EH}(r:bh x u) (q:bh y u):x=y:=E5 (r.abs.symm.trans q.abs)
theorem aX.inj: ∀ {xs ys:EA V}{us:EA EH},aX xs us->aX ys us->xs=ys
 |_,_,_, .nil, .nil=>rfl
 |_,_,_, .cons r t, .cons r' t'=>by rw[r.inj r',aX.inj t t']
section
variable {X:Cx}{pins:EA (EJ×Ih)}{σ:St}{H:Hp}{s:EM}{a:EJ}{xs ys:EA V}
theorem rh.of {K:EF}(h:H a=EQ (.tup xs)):rh K H a xs:= .inl (.inl h)
theorem aE.list (I:aE X pins σ H s) (h:cO X.K H a xs): ∃Hc:EA EH,aX xs Hc/\PlainL s.heap a Hc.toArray/\xs.length<=FE:=by
 rcases h with h|⟨o,Hc,n,hk,hc,hd,hs,hz,r⟩
 ·obtain⟨z,Hc,n,r,e⟩:=h.ok I.HH
  exact#[Hc,r,#[_,n,e,FS,FS,FS],z]
 ·refine#[Hc.toList,r,#[o,n,I.MI a o hk,hc,hd,by simpa using hs],?_]
  have e:=r.length;simp only[Tq] at e;lia
theorem aE.tuple (I:aE X pins σ H s) (h:rh X.K H a xs): ∃Hc:EA EH,aX xs Hc/\IsTup s.heap a Hc.toArray/\xs.length<=FE:=by
 rcases h with h|⟨o,Hc,n,hk,hc,hs,hz,r⟩
 ·obtain⟨z,Hc,r,p⟩:=h.ok I.HH
  exact#[Hc,r,p,z]
 ·refine#[Hc.toList,r,#[o,I.MI a o hk,hc,n,by simpa using hs],?_]
  have e:=r.length;simp only[Tq] at e;lia
theorem aE.VC (I:aE X pins σ H s) (h:cO X.K H a xs) (h':cO X.K H a ys):xs=ys:=by
 obtain⟨Hc,r,⟨o,n,e,_,_,d⟩,_⟩:=I.list h;obtain⟨its',r',⟨o',n',e',_,_,d'⟩,_⟩:=I.list h';rw[e] at e';cases e';rw[d] at d';injection d' with d1 _;have:Hc=its':=by simpa using FN RE d1
 subst this;exact r.inj r'
end
abbrev Cx.QH (X:Cx) (E:EH->EM->Prop):Cx:= { X with xe:=E }
abbrev Cx.nox (X:Cx):Cx:=X.QH λ_ _=>False
theorem Cx.Ok.QH {X:Cx}(ok:X.Ok) (E:EH->EM->Prop):(X.QH E).Ok:=
 #[ok.mod,ok.kind,ok.glob,ok.blt,ok.above,ok.inj,ok.has,ok.Xg,ok.hd,ok.frames,ok.Xh,ok.ZH,ok.bs,ok.Ue,ok.RV,ok.RW,ok.funs,ok.VU]
theorem Cx.Ok.Nv {X:Cx}{E:EH->EM->Prop}(ok:(X.QH E).Ok):X.Ok:=
 #[ok.mod,ok.kind,ok.glob,ok.blt,ok.above,ok.inj,ok.has,ok.Xg,ok.hd,ok.frames,ok.Xh,ok.ZH,ok.bs,ok.Ue,ok.RV,ok.RW,ok.funs,ok.VU]
section
variable {X:Cx}{pins:EA (EJ×Ih)}{σ:St}{H:Hp}{s:EM}{E:EH->EM->Prop}
theorem aE.QH (I:aE X pins σ H s) (E:EH->EM->Prop):aE (X.QH E) pins σ H s:=#[I.ok.QH E,I.os,I.bare,I.base,I.loc,I.cell,I.free,I.LG,I.pin,I.HH,I.len]
theorem aE.Nv (I:aE (X.QH E) pins σ H s):aE X pins σ H s:=#[I.ok.Nv,I.os,I.bare,I.base,I.loc,I.cell,I.free,I.LG,I.pin,I.HH,I.len]
theorem SP.Nv {f:Flow}{s':EM}(h:SP (X.QH E) pins D f s'):SP X pins D f s':=by
 cases f with
 |next=>obtain⟨σ',H',I,q⟩:=h;exact#[σ',H',I.Nv,q]
 |brk=>obtain⟨σ',H',I,q⟩:=h;exact#[σ',H',I.Nv,q]
 |cont=>obtain⟨σ',H',I,q⟩:=h;exact#[σ',H',I.Nv,q]
 |ret u=>obtain⟨v,σ',H',I,r,q⟩:=h;exact#[v,σ',H',I.Nv,r,q]
theorem tY.nox {st:EA Stmt}{t:TS}(h:tY X.nox st t):tY X st t:=λpins s σ H D I hw=>
 HP (h pins s σ H D (I.QH _) hw) (λ_ _ q=>q.Nv) λ_ _ z=>HW z
end
section
variable {X:Cx}{st:Stmt}{rest:EA Stmt}{t u:TS}{e:G8}{te:TE}{pos:Pos}
def aeL:TS:=λD σ H=>D.nx σ H
def ajN (t u:TS):TS:=λD σ H=>t { D with nx:=u D } σ H
theorem br:tY X [] aeL:=λ_ _ σ H _ I h=>Mj #[σ,H,I,h]
theorem ax (h1:PS X st t) (h2:tY X rest u):tY X (st::rest) (ajN t u):=by
 intro pins s σ H D I h;refine wpAny_execs_cons (b9 (h1 pins s σ H { D with nx:=u D } I h) λf s1 q=>?_);cases f with
 |next=>
  obtain⟨σ',H',I',q⟩:=q;exact h2 pins s1 σ' H' D I' q
 |ret v=>exact q
 |brk=>exact q
 |cont=>exact q
theorem ah (h1:PS X st t):tY X [st] t:=by
 intro pins s σ H D I h;refine wpAny_execs_cons (b9 (h1 pins s σ H D I h) λf s1 q=>?_);cases f with
 |next=>exact Mj q
 |ret v=>exact q
 |brk=>exact q
 |cont=>exact q
def ZK:TS:=λD σ H=>D.bk σ H
theorem BZ:PS X (.Break pos) ZK:=λ_ _ σ H _ I h=>wpAny_Break #[σ,H,I,h]
theorem aE.quiet {pins:EA (EJ×Ih)}{σ:St}{H:Hp}{s:EM}(I:aE X pins σ H s):interactive X.env=FM:=by simp [interactive,I.ok.kind]
def aeM (te:TE):TS:=λD σ H=>te σ H λ_ H1=>D.nx σ H1
theorem bi (he:PE X e te) (hs:K7 e Fa pos.line X.env=pure FM:=by rfl):PS X (.Expr e pos) (aeM te):=by
 intro pins s σ H D I h;exact wpAny_Expr_any (b9 (he pins s σ H _ I h) λv s1 ⟨x,H1,I1,r1,q1⟩=>#[σ,H1,I1,q1]) I.quiet hs
def aeN (te:TE):TS:=λD σ H=>te σ H D.rt
theorem aK (he:PE X e te):PS X (.Return (EQ e) pos) (aeN te):=by
 intro pins s σ H D I h;exact wpAny_Return_some (b9 (he pins s σ H _ I h) λv s1 ⟨x,H1,I1,r1,q1⟩=>#[x,σ,H1,I1,r1,q1])
def ajO (c:TT) (t u:TS):TS:=λD σ H=>c σ H λb H1=>if b=FB then t D σ H1 else u D σ H1
theorem cy {c:G8}{a b:EA Stmt}{tc:TT}(hc:PT X c tc) (ha:tY X a t) (hb:tY X b u):PS X (.If c a b pos) (ajO tc t u):=by
 intro pins s σ H D I h;refine wpAny_If (b9 (hc pins s σ H _ I h) λd s1 ⟨H1,I1,q1⟩=>?_);cases d with
 |true=>exact ha pins s1 σ H1 D I1 q1
 |false=>exact hb pins s1 σ H1 D I1 q1
end
abbrev TG:=V->St->Hp->(St->Hp->Prop)->Prop
def PG (X:Cx) (target:G8) (t:TG):Prop:=
 ∀(pins:EA (EJ×Ih)) (s:EM) (σ:St) (H:Hp) (v:V) (u:EH) (Q:St->Hp->Prop),aE X pins σ H s->bh v u->t v σ H Q->
  Fl (model X.prog X.w) X.A (assign target X.env u) (λ_ s'=> ∃σ' H',aE X pins σ' H' s'/\Q σ' H') X.xe s
abbrev TIp:=V->V->Hp->VK->Prop
def PIp (X:Cx) (op:Operator) (t:TIp):Prop:=
 ∀(pins:EA (EJ×Ih)) (s:EM) (σ:St) (H:Hp) (x y:V) (v u:EH) (Q:VK),aE X pins σ H s->bh x v->bh y u->t x y H Q->
  Fl (model X.prog X.w) X.A (inplaceOp op v u) (EP X pins σ Q) X.xe s
section
variable {X:Cx}{pos:Pos}
def Xk (i:E1):TG:=λv σ H Q=>Q (σ.set i (EQ v)) H
theorem jR {i:E1}{x:Fh}(hN:X.N.Nodup) (hi:X.N[i]?=EQ x) (hx:Loc X.env.scope x) (hf:X.fn x=FB\/X.env.scope.names.lookup x=EQ .local:=by first|exact .inl rfl|exact .inr rfl|assumption):PG X (.Name x pos) (Xk i):=by
 intro pins s σ H v u Q I r h;exact wpAny_assign_Name (jQ I hN hi hx r (λs' I'=>#[_,H,I',h]) hf)
def ajP (te:TE) (g:TG):TS:=λD σ H=>te σ H λx H1=>g x σ H1 D.nx
theorem cH {i:E1}{x:Fh}{e:G8}{te:TE}{MK:Pos}(hN:X.N.Nodup) (hi:X.N[i]?=EQ x) (hx:Loc X.env.scope x) (he:PE X e te) (hs:K7 e (EQ (.Name x MK)) pos.line X.env=pure FM:=by rfl) (hf:X.fn x=FB\/X.env.scope.names.lookup x=EQ .local:=by first|exact .inl rfl|exact .inr rfl|assumption):
  PS X (.Assign [.Name x MK] e pos) (ajP te (Xk i)):=by
 intro pins s σ H D I h;refine wpAny_Assign_Name (b9 (he pins s σ H _ I h) λv s1 ⟨y,H1,I1,r1,q1⟩=>?_) hs;exact jQ I1 hN hi hx r1 (λs2 I2=>#[_,H1,I2,q1]) hf
def ajQ (i:E1) (te:TE) (ti:TIp):TS:=λD σ H=> ∃x,σ[i]?=EQ (EQ x)/\te σ H λy H1=>ti x y H1 λz H2=>D.nx (σ.set i (EQ z)) H2
theorem kL {i:E1}{x:Fh}{e:G8}{te:TE}{MK:Pos}(hN:X.N.Nodup) (hi:X.N[i]?=EQ x) (hx:Loc X.env.scope x) (he:PE X e te) (ho:PIp X op ti) (hf:X.fn x=FB\/X.env.scope.names.lookup x=EQ .local:=by first|exact .inl rfl|exact .inr rfl|assumption):
  PS X (.AugAssign (.Name x MK) op e pos) (ajQ i te ti):=by
 intro pins s σ H D I h;obtain⟨v,e1,h⟩:=h;obtain⟨m,hn,hl⟩:=I.loc;have ZL:oH X.env.scope x:=by rcases hx with k|k;exact .inl k;exact .inr (.inl k)
 obtain⟨u,r,l⟩:=hl i x v hi e1 ZL;refine wpAny_AugAssign_Name ?_;have go:Fl (model X.prog X.w) X.A (eval e X.env) (λw s₂=>Fl (model X.prog X.w) X.A (inplaceOp op u w) (λr s₃=>Fl (model X.prog X.w) X.A (storeName X.env x r) (λ_=>SP X pins D .next) X.xe s₃) X.xe s₂) X.xe s:=by
  refine b9 (he pins s σ H _ I h) λw s1 ⟨y,H1,I1,r1,q1⟩=>?_;refine b9 (ho pins s1 σ H1 v y u w _ I1 r r1 q1) λz s2 ⟨zv,H2,I2,r2,q2⟩=>?_;exact jQ I2 hN hi hx r2 (λs3 I3=>#[_,H2,I3,q2]) hf
 rcases l with⟨hk,hm⟩|⟨hk,c,hc,TN⟩
 ·exact V4 I.ok.kind hk hn hm go
 ·rcases hk with hk|hk
  ·exact WV I.ok.kind hk hc TN go
  ·rcases hx with k|k
   ·have:X.env.scope.names.lookup x=EQ .free:=hk
    rw[k] at this;cases this
   ·have:X.env.scope.names.lookup x=EQ .free:=hk
    rw[k] at this;cases this
def ipI (f:Int->Int->Int):TIp:=λx y H Q=> ∃i j,x= .int i/\y= .int j/\Q (.int (f i j)) H
theorem lf:PIp X .Add (ipI λi j=>i+j):=by
 intro pins s σ H x y v u Q I r1 r2 h;obtain⟨i,j,e1,e2,q⟩:=h;subst e1;subst e2;obtain⟨t,rfl⟩:=r1;obtain⟨t',rfl⟩:=r2;exact iadd_int #[.int _,H,I.tok _,#[_,FS],q]
end
section
variable {X:Cx}{pos:Pos}
def ZM (c:TT) (tb:TS):TS:=λD σ H=> ∃W:E1->St->Hp->Prop,(∃m,W m σ H)/\ ∀m σ H,W m σ H->
 c σ H λb H1=>if b=FB then∃N:St->Hp->Prop,(∀σ' H',N σ' H'-> ∃m',m'<m/\W m' σ' H')/\tb { D with nx:=N,ct:=N,bk:=D.nx } σ H1 else D.nx σ H1
theorem iN {c:G8}{tc:TT}{tb:TS}(hp:Pc (model X.prog X.w) X.A X.env X.xe) (hc:PT X c tc) (hb:tY X body tb):PS X (.While c body [] pos) (ZM tc tb):=by
 intro pins s σ H D I h;obtain⟨W,⟨m0,w0⟩,turn⟩:=h;refine wpAny_While (codeAny_whileLoop (λn s'=> ∃σ' H',aE X pins σ' H' s'/\W n σ' H') ?_ m0 #[σ,H,I,w0]);rintro n s1 ⟨σ1,H1,I1,w1⟩;refine JU hp (b9 (hc pins s1 σ1 H1 _ I1 (turn n σ1 H1 w1)) λb s2 ⟨H2,I2,q2⟩=>?_);cases b with
 |true=>
  obtain⟨N,hN,q2⟩:=q2;rw[EL rfl];refine JU hp (b9 (hb pins s2 σ1 H2 _ I2 q2) λf s3 q3=>?_);cases f with
  |next=>
   obtain⟨σ3,H3,I3,n3⟩:=q3;obtain⟨m',hm,w3⟩:=hN σ3 H3 n3;exact#[m',hm,σ3,H3,I3,w3]
  |cont=>
   obtain⟨σ3,H3,I3,n3⟩:=q3;obtain⟨m',hm,w3⟩:=hN σ3 H3 n3;exact#[m',hm,σ3,H3,I3,w3]
  |brk=>exact q3
  |ret v=>exact q3
 |false=>
  rw[EI EE];exact Mj #[σ1,H2,I2,q2]
end
structure It where
 go:E1->Hp->Prop
 yld:E1->Hp->V->Hp->Prop
 stop:E1->Hp->Prop
def oV (X:Cx) (pins:EA (EJ×Ih)) (H:Hp) (b:EJ):Prop:=
 H b=Fa/\b≠X.env.locals/\b∉X.fs/\(b∈X.ex\/X.OZ.heap.objs.size<=b)/\(∀x c,X.env.cells.lookup x=EQ c->c≠b)/\ ∀p∈X.pn++pins,p.1≠b
theorem aE.ZN {X:Cx}{pins:EA (EJ×Ih)}{σ:St}{H H':Hp}{s:EM}{b:EJ}(I:aE X pins σ H s) (hb:s.heap.objs.size<=b) (hn:H' b=Fa):oV X pins H' b:=by
 refine#[hn,KU (Fv I.lt hb),I.ajH hb, .inr (Fj I.sz hb),λx c e z=>?_,λp hp z=>?_]
 ·obtain⟨v,q⟩:=I.cell x c e
  exact E7 (Fv q.lt (by rw[z];exact hb)) (Hq _)
 ·exact E7 (Fv (Fn (I.pin p hp).1) (by rw[z];exact hb)) (Hq _)
structure Turn (P:Fz) (w:Ga) (K:EF) (tg:G8) (J:It) (fp:EA EJ) (it:EJ) (tn:E1->Gn->Prop):Prop where
 mem:it∈fp
 obj: ∀i h,tn i h-> ∀b∈fp,∃o,h.get? b=EQ o/\ ∀v,o.data≠ .cell v
 keep: ∀i h h',tn i h->(∀b∈fp,∀o,h.get? b=EQ o->h'.get? b=EQ o)->tn i h'
 item: ∀(X:Cx),X.prog=P->X.w=w->X.K=K->X.calm=FB-> ∀(i:E1) (pins:EA (EJ×Ih)) (s:EM) (σ:St) (H:Hp) (E:EH->EM->Prop),aE X pins σ H s->(∀b∈fp,oV X pins H b)->tn i s.heap->J.go i H->
  Fl (model P w) X.A (QY (.ref it)) (λr s1=> ∃u,r=EQ u/\
   Fl (model P w) X.A (Oe tg (.ref it) u) (λ_ s2=> ∃x H',aE X pins σ H' s2/\bh x u/\J.yld i H x H'/\tn (i+1) s2.heap/\ ∀b∈fp,H' b=Fa) E s1) E s
 done: ∀(X:Cx),X.prog=P->X.w=w->X.K=K->X.calm=FB-> ∀(i:E1) (pins:EA (EJ×Ih)) (s:EM) (σ:St) (H:Hp) (E:EH->EM->Prop),aE X pins σ H s->(∀b∈fp,oV X pins H b)->tn i s.heap->J.stop i H->
  Fl (model P w) X.A (QY (.ref it)) (λr s1=>r=Fa/\aE X pins σ H s1) E s
 self: ∀(A:Gk) (i:E1) (s:EM) (Q:EH->EM->Prop) (E:EH->EM->Prop),tn i s.heap->Q (.ref it) s->Fl (model P w) A (pyIter (.ref it)) Q E s
abbrev TI:=St->Hp->(It->Hp->Prop)->Prop
def PIE (X:Cx) (pins:EA (EJ×Ih)) (σ:St) (tg:G8) (R:It->Hp->Prop) (itv:EH) (s2:EM):Prop:=
 ∃(it:EJ) (fp:EA EJ) (tn:E1->Gn->Prop) (J:It) (H':Hp),itv= .ref it/\aE X pins σ H' s2/\Turn X.prog X.w X.K tg J fp it tn/\tn 0 s2.heap/\(∀b∈fp,oV X pins H' b)/\R J H'
def PI (X:Cx) (tg iter:G8) (wi:TI):Prop:=
 ∀(pins:EA (EJ×Ih)) (s:EM) (σ:St) (H:Hp) (R:It->Hp->Prop),aE X pins σ H s->wi σ H R->
  Fl (model X.prog X.w) X.A (eval iter X.env) (λv s1=>Fl (model X.prog X.w) X.A (pyIter v) (PIE X pins σ tg R) X.xe s1) X.xe s
theorem Xl {A:Gk}{E:EH->EM->Prop}{s:EM}{tg:G8}{it:EJ}{u:EH}{o:Ih}{Q:Mo->EM->Prop}(ho:s.heap.get? it=EQ o) (hc:o.cls= .type n) (hd:o.data= .fields vs)
  (hn:["enumerate","zip","dict_itemiterator","dict_reverseitemiterator","odict_iterator","itertools.zip_longest","itertools.pairwise"].contains n=FM) (hQ:Q () s):Fl M A (Oe tg (.ref it) u) Q E s:=by
 unfold Oe;cases tg<;>first
  |exact Fx hQ
  | (cases u<;>first
    |exact Fx hQ
    | (refine E3 (wpAny_load ho ?_)
       rw[hc,hd];show Fl M A (if(["enumerate","zip","dict_itemiterator","dict_reverseitemiterator","odict_iterator","itertools.zip_longest","itertools.pairwise"].contains n&&vs[0]? == EQ (Nf _))=FB then _ else _) Q E s
       rw[EI (by intro h;rw[hn,Iy] at h;cases h)];exact Fx hQ))
def Xm (K:EF) (a:EJ):It:=
 #[λi H=> ∃xs x,cO K H a xs/\xs[i]?=EQ x,λi H x H'=>H'=H/\ ∀xs,cO K H a xs->xs[i]?=EQ x,λi H=> ∃xs,cO K H a xs/\xs.length<=i]
def Itr (lo:Int) (n:E1):It:=#[λi _=>i<n,λi H x H'=>H'=H/\x= .int (lo+i),λi _=>n<=i]
theorem xR {P:Fz}{w:Ga}{K:EF}{tg:G8}(a it:EJ):Turn P w K tg (Xm K a) [it] it (λi h=>h.IsListIter it a i) where
 mem:=by simp
 obj:=λi h st b hb=>by
  have e:b=it:=by simpa using hb
  subst e;obtain⟨o,e,c,d⟩:=st;exact#[o,e,λv z=>by rw[d] at z;cases z]
 keep:=λi h h' st k=>st.at λo e=>k it (by simp) o e
 item:=by
  intro X hP hw hK hc i pins s σ H E I hf st hg;subst hP hw hK;obtain⟨xs,x,hq,hx⟩:=hg;obtain⟨Hc,rv,p,hz⟩:=I.list hq;obtain⟨u,hu,ru⟩:=rv.get hx;obtain⟨f0,f1,f2,f3,f4,f5⟩:=hf it (by simp);refine wpAny_pyNext_list_item st p.isList (x:=u) (by simpa using hu) λh' st' sb=>?_;have I1:aE X pins σ H { s with heap:=h' } :=I.turned (t':=s.toks) (λb o hb e=>(sb.2 b hb).trans e) f0 f1 f3 f4 f5
  obtain⟨o,e,c,d⟩:=id st';exact#[u,FS,Xl (s:= { s with heap:=h' }) e c d [01] #[x,H,I1,ru,#[FS,λys hy=>by rw[I.VC hy hq];exact hx],st',λb hb=>(hf b hb).1]]
 done:=by
  intro X hP hw hK hc i pins s σ H E I hf st hg;subst hP hw hK;obtain⟨xs,hq,hx⟩:=hg;obtain⟨Hc,rv,p,hz⟩:=I.list hq;obtain⟨f0,f1,f2,f3,f4,f5⟩:=hf it (by simp);have hl:=rv.length;exact wpAny_pyNext_list_end (I.ok.hd hc) st p.isList (by simp;lia) λh' eb=>#[FS,I.turned (t':=s.toks) (λb o hb e=>eb b o hb e) f0 f1 f3 f4 f5]
 self:=λ_ _ _ _ _ st h=>wpAny_pyIter_listiter st h
theorem vo {P:Fz}{w:Ga}{K:EF}{tg:G8}(it:EJ) (lo:Int) (n:E1):Turn P w K tg (Itr lo n) [it] it (λi h=>IsRangeIter h it (lo+(i:E1)*1) ((n:Int)-(i:E1)) 1) where
 mem:=by simp
 obj:=λi h st b hb=>by
  have e:b=it:=by simpa using hb
  subst e;exact#[_,st,λv z=>by
   have z':Data.fields _=Data.cell v:=z;cases z']
 keep:=λi h h' st k=>k it (by simp) _ st
 item:=by
  intro X hP hw hK hc i pins s σ H E I hf st hg;subst hP hw hK;obtain⟨f0,f1,f2,f3,f4,f5⟩:=hf it (by simp);have W:=Walks.range (prog:=X.prog) (w:=X.w) (I.ok.hd hc) it lo 1 n;refine W.item i s _ _ hg st λv h' tk hv st' kk=>?_;obtain⟨t,rfl⟩:=hv;have I1:aE X pins σ H { s with heap:=h',toks:=tk } :=I.turned (λb o hb e=>kk b o (by simpa using hb) e) f0 f1 f3 f4 f5
  refine#[_,FS,Xl (s:= { s with heap:=h',toks:=tk }) (n:="range_iterator") st' rfl rfl [01] #[.int (lo+i),H,I1,#[t,?_],#[FS,FS],st',λb hb=>(hf b hb).1]];rw[Int.mul_one]
 done:=by
  intro X hP hw hK hc i pins s σ H E I hf st hg;subst hP hw hK;obtain⟨f0,f1,f2,f3,f4,f5⟩:=hf it (by simp);exact wpAny_pyNext_range_end (I.ok.hd hc) st (by have:n<=i:=hg;lia) λh' eb=>#[FS,I.turned (t':=s.toks) (λb o hb e=>eb b o hb e) f0 f1 f3 f4 f5]
 self:=λ_ _ _ _ _ st h=>wpAny_pyIter_rangeiter st h
section
variable {X:Cx}{tg:G8}
inductive Xn (K:EF) (R:It->Hp->Prop) (x:V) (H1:Hp):Prop
 |mk (a:EJ) (_:x= .ref a) (_:(∃xs,cO K H1 a xs)) (_:R (Xm K a) H1):Xn K R x H1
def aeO (K:EF) (tl:TE):TI:=λσ H R=>tl σ H (Xn K R)
theorem mf {l:G8}{tl:TE}(hl:PE X l tl):PI X tg l (aeO X.K tl):=by
 intro pins s σ H R I h;refine b9 (hl pins s σ H _ I h) λv s1 ⟨x,H1,I1,r1,q1⟩=>?_;obtain⟨a,e,⟨xs,hq⟩,q⟩:=q1;subst e;cases r1;obtain⟨Hc,rv,p,hz⟩:=I1.list hq;refine wpAny_pyIter_list p.isList ?_;refine#[s1.heap.objs.size,[s1.heap.objs.size],_,_,H1,FS,I1.kept (t':=s1.toks) λb o e=>E2 _ e,xR a _,#[_,Gy _ rfl,FS,FS],λb hb=>?_,q];have e:b=s1.heap.objs.size:=by simpa using hb
 subst e;exact I1.ZN (E6 _) (I1.HH.fresh (E6 _))
theorem CK {pins:EA (EJ×Ih)}{σ:St}{H:Hp}{s:EM}{R:It->Hp->Prop}{E:EH->EM->Prop}{lo hi:Int}{t u v:Tok}{tk:E1}(I:aE X pins σ H s) (h1: -(2 ^ 62)<=lo) (h2:lo<2 ^ 62) (h3: -(2 ^ 62)<=hi) (h4:hi<2 ^ 62)
  (q:R (Itr lo (hi-lo).toNat) H):Fl (model X.prog X.w) X.A (pyIter (.ref s.heap.objs.size)) (PIE X pins σ tg R) E { s with heap:=s.heap.push { cls:= .type "range",data:= .fields [.int lo t, .int hi u, .int 1 v].toArray },toks:=tk } :=by
 refine wpAny_pyIter_range (IsRange.new ..) (small_one h1 h2 h3 h4) ?_;have I1:aE X pins σ H { s with heap:=s.heap.push { cls:= .type "range",data:= .fields [.int lo t, .int hi u, .int 1 v].toArray },toks:=tk } :=I.kept λb o e=>E2 _ e
 refine#[(s.heap.push { cls:= .type "range",data:= .fields [.int lo t, .int hi u, .int 1 v].toArray }).objs.size,[(s.heap.push { cls:= .type "range",data:= .fields [.int lo t, .int hi u, .int 1 v].toArray }).objs.size],_,_,H,FS,
  I1.kept (t':=tk) λb o e=>E2 _ e,vo _ lo (hi-lo).toNat,?_,λb hb=>?_,q]
 ·have e1:lo+((0:E1):Int)*1=lo:=by simp
  have e2:(((hi-lo).toNat:E1):Int)-((0:E1):Int)=Builtin.Range.rangeSize lo hi 1:=by rw[rangeSize_one];split<;>lia
  show IsRangeIter _ _ (lo+((0:E1):Int)*1) ((((hi-lo).toNat:E1):Int)-((0:E1):Int)) 1
  rw[e1,e2];exact Gy _ rfl
 ·have e:b=(s.heap.push { cls:= .type "range",data:= .fields [.int lo t, .int hi u, .int 1 v].toArray }).objs.size:=by simpa using hb
  subst e;exact I1.ZN (E6 _) (I1.HH.fresh (E6 _))
def aeP (ta:TA):TI:=λσ H R=>ta σ H λvs H1=> ∃j:Int,vs=[.int j]/\ -(2 ^ 62)<=j/\j<2 ^ 62/\R (Itr 0 j.toNat) H1
theorem ze {a:G8}{ta:TA}{p pos:Pos}(hg:Gl X "range") (hm:X.mg "range"=Fa) (ha:PA X [a] ta) (hs:Fb [a] X.env=[(FM,eval a X.env)]:=by rfl):PI X tg (.Call (.Name "range" p) [a] [] pos) (aeP ta):=by
 intro pins s σ H R I h;refine Call_ (kX I hg hm boot_range (Jt (b9 (ha pos pins s σ H _ I h) λus s1 ⟨vs,H1,I1,r1,q1⟩=>?_) hs rfl));obtain⟨j,e,q1,q2,q⟩:=q1;subst e;cases r1 with
 |cons r rr=>
  cases rr;obtain⟨t,rfl⟩:=r;exact call_range_1 (CK I1 (by lia) (by lia) q1 q2 (by simpa using q))
def ajR (wi:TI) (g:TG) (tb:TS):TS:=λD σ H=>wi σ H λJ H1=> ∃W:E1->E1->St->Hp->Prop,(∃m,W 0 m σ H1)/\ ∀i m σ H,W i m σ H->
 (J.stop i H/\D.nx σ H)\/(J.go i H/\ ∃N:St->Hp->Prop,(∀σ' H',N σ' H'-> ∃m',m'<m/\W (i+1) m' σ' H')/\ ∀x H',J.yld i H x H'->g x σ H' λσ2 H2=>tb { D with nx:=N,ct:=N,bk:=D.nx } σ2 H2)
def nN (fp:EA EJ) (h:Gn):EA (EJ×Ih):=fp.filterMap λb=>(h.get? b).map λo=>(b,o)
theorem jA {h:Gn}{b:EJ}{o:Ih}(hb:b∈fp) (e:h.get? b=EQ o):(b,o)∈nN fp h:=Uy.mpr #[b,hb,by rw[e];rfl]
theorem yr {h:Gn}{p:EJ×Ih}(hp:p∈nN fp h):p.1∈fp/\h.get? p.1=EQ p.2:=by
 obtain⟨b,hb,e⟩:=Uy.mp hp;cases q:h.get? b with
 |none=>rw[q] at e;cases e
 |some o=>
  rw[q] at e;have e':(b,o)=p:=E5 e;subst e';exact#[hb,q]
theorem aE.pinned {pins:EA (EJ×Ih)}{σ:St}{H:Hp}{s:EM}(I:aE X pins σ H s) (hf: ∀b∈fp,oV X pins H b) (ho: ∀b∈fp,∃o,s.heap.get? b=EQ o/\ ∀v,o.data≠ .cell v):aE X (pins++nN fp s.heap) σ H s:=
 I.TJ λp hp=>(Fp.mp hp).elim (λz=>I.pin p (GI _ z)) λz=>by
  obtain⟨hb,e⟩:=yr z;obtain⟨f0,f1,f2,_⟩:=hf p.1 hb;obtain⟨o,e',d⟩:=ho p.1 hb;rw[e] at e';cases e';exact#[e,f0,f1,f2,d]
theorem aE.OM {pins pl:EA (EJ×Ih)}{σ:St}{H:Hp}{s:EM}(I:aE X (pins++pl) σ H s):aE X pins σ H s:=I.TJ λp hp=>I.pin p (GI _ (Lu _ hp))
theorem uX {g:TG}{tb:TS}{pos:Pos}(hp:Pc (model X.prog X.w) X.A X.env X.xe) (hc:X.calm=FB) (hi:PI X tg iter wi) (hg:PG X tg g) (hb:tY X body tb)
  (hs: ∀x,Lk iter X.env x=pure x:=by intro _;rfl):PS X (.For tg iter body [] pos) (ajR wi g tb):=by
 intro pins s σ H D I h;refine wpAny_For (b9 (hi pins s σ H _ I h) λv s1 h1=>b9 h1 λitv s2 h2=>?_) hs;obtain⟨it,fp,tn,J,H2,e,I2,T,st2,f2,W,⟨m0,w0⟩,turn⟩:=h2;subst e;have S8: ∀ {H':Hp},(∀b∈fp,H' b=Fa)-> ∀b∈fp,oV X pins H' b:=λhn b hb=>#[hn b hb,(f2 b hb).2]
 refine codeAny_forLoop_any (λn s'=> ∃i σ' H',aE X pins σ' H' s'/\tn i s'.heap/\(∀b∈fp,H' b=Fa)/\W i n σ' H') ?_ m0 #[0,σ,H2,I2,st2,λb hb=>(f2 b hb).1,w0];rintro n s3 ⟨i,σ3,H3,I3,st3,fr3,w3⟩;rcases turn i n σ3 H3 w3 with⟨stop,qn⟩|⟨go,N,hN,step⟩
 ·refine JU hp (b9 (T.done X rfl rfl rfl hc i pins s3 σ3 H3 X.xe I3 (S8 fr3) st3 stop) λr s4 ⟨hr,I4⟩=>?_)
  subst hr;exact Mj #[σ3,H3,I4,qn]
 ·refine JU hp (b9 (T.item X rfl rfl rfl hc i pins s3 σ3 H3 X.xe I3 (S8 fr3) st3 go) λr s4 ⟨u,hr,h4⟩=>?_)
  subst hr;refine JU hp (b9 h4 λ_ s5 ⟨x,H5,I5,r5,y5,st5,fr5⟩=>?_);have I5':=I5.pinned (S8 fr5) (T.obj _ _ st5);refine JU hp (b9 (hg _ s5 σ3 H5 x u _ I5' r5 (step x H5 y5)) λ_ s6 ⟨σ6,H6,I6,q6⟩=>?_);refine JU hp (b9 (hb _ s6 σ6 H6 _ I6 q6) λf s7 q7=>?_);have again: ∀ {σ7:St}{H7:Hp},aE X (pins++nN fp s5.heap) σ7 H7 s7->N σ7 H7-> ∃m,m<n/\ ∃i σ' H',aE X pins σ' H' s7/\tn i s7.heap/\(∀b∈fp,H' b=Fa)/\W i m σ' H':=λ{σ7 H7} I7 n7=>by
   obtain⟨m',hm,w7⟩:=hN σ7 H7 n7;refine#[m',hm,i+1,σ7,H7,I7.OM,T.keep _ _ _ st5 λb hb o e=>(I7.pin (b,o) (GI _ (GI _ (jA hb e)))).1,λb hb=>?_,w7];obtain⟨o,e,d⟩:=T.obj _ _ st5 b hb;exact(I7.pin (b,o) (GI _ (GI _ (jA hb e)))).2.1
  cases f with
  |next=>obtain⟨σ7,H7,I7,n7⟩:=q7;exact again I7 n7
  |cont=>obtain⟨σ7,H7,I7,n7⟩:=q7;exact again I7 n7
  |brk=>obtain⟨σ7,H7,I7,q7⟩:=q7;exact#[σ7,H7,I7.OM,q7]
  |ret v=>obtain⟨x7,σ7,H7,I7,r7,q7⟩:=q7;exact#[x7,σ7,H7,I7.OM,r7,q7]
end
theorem sy {K:EF}{a:EJ}{xs:EA V}{g:TG}{tb:TS}{D:eJ}{σ:St}{H:Hp}(Pv:E1->St->Hp->Prop) (h0:Pv 0 σ H) (hl: ∀i σ H,i<=xs.length->Pv i σ H->cO K H a xs)
  (hs: ∀i x σ H,xs[i]?=EQ x->Pv i σ H->g x σ H λσ2 H2=>tb { D with nx:=Pv (i+1),ct:=Pv (i+1),bk:=D.nx } σ2 H2) (hd: ∀σ H,Pv xs.length σ H->D.nx σ H):
  ∃W:E1->E1->St->Hp->Prop,(∃m,W 0 m σ H)/\ ∀i m σ H,W i m σ H->
   ((Xm K a).stop i H/\D.nx σ H)\/((Xm K a).go i H/\ ∃N:St->Hp->Prop,(∀σ' H',N σ' H'-> ∃m',m'<m/\W (i+1) m' σ' H')/\ ∀x H',(Xm K a).yld i H x H'->g x σ H' λσ2 H2=>tb { D with nx:=N,ct:=N,bk:=D.nx } σ2 H2):=by
 refine#[λi m σ H=>m=xs.length-i/\i<=xs.length/\Pv i σ H,#[xs.length,by simp,Fs _,h0],?_];rintro i m σ H ⟨rfl,hi,p⟩;have q:=hl i σ H hi p;by_cases TQ:i<xs.length
 ·refine .inr #[#[xs,xs[i],q,by simp [TQ]],Pv (i+1),λσ' H' p'=>#[xs.length-(i+1),by lia,FS,TQ,p'],λx H' y=>?_]
  obtain⟨e,y⟩:=y;subst e;exact hs i x σ _ (y xs q) p
 ·have e:i=xs.length:=by lia
  subst e;exact .inl #[#[xs,q,E6 _],hd σ H p]
theorem zk {lo:Int}{n:E1}{g:TG}{tb:TS}{D:eJ}{σ:St}{H:Hp}(Pv:E1->St->Hp->Prop) (h0:Pv 0 σ H)
  (hs: ∀i σ H,i<n->Pv i σ H->g (.int (lo+i)) σ H λσ2 H2=>tb { D with nx:=Pv (i+1),ct:=Pv (i+1),bk:=D.nx } σ2 H2) (hd: ∀σ H,Pv n σ H->D.nx σ H):
  ∃W:E1->E1->St->Hp->Prop,(∃m,W 0 m σ H)/\ ∀i m σ H,W i m σ H->
   ((Itr lo n).stop i H/\D.nx σ H)\/((Itr lo n).go i H/\ ∃N:St->Hp->Prop,(∀σ' H',N σ' H'-> ∃m',m'<m/\W (i+1) m' σ' H')/\ ∀x H',(Itr lo n).yld i H x H'->g x σ H' λσ2 H2=>tb { D with nx:=N,ct:=N,bk:=D.nx } σ2 H2):=by
 refine#[λi m σ H=>m=n-i/\i<=n/\Pv i σ H,#[n,by simp,Fs _,h0],?_];rintro i m σ H ⟨rfl,hi,p⟩;by_cases TQ:i<n
 ·refine .inr #[TQ,Pv (i+1),λσ' H' p'=>#[n-(i+1),by lia,FS,TQ,p'],λx H' y=>?_]
  obtain⟨e,y⟩:=y;subst e y;exact hs i σ _ TQ p
 ·have e:i=n:=by lia
  subst e;exact .inl #[E6 _,hd σ H p]
abbrev R2:=V->V->Hp->VK->Prop
def kW (X:Cx) (f:EH->EH->Sem EH) (r:R2):Prop:=
 ∀(pins:EA (EJ×Ih)) (s:EM) (σ:St) (H:Hp) (x y:V) (v u:EH) (Q:VK),aE X pins σ H s->bh x v->bh y u->r x y H Q->
  Fl (model X.prog X.w) X.A (f v u) (EP X pins σ Q) X.xe s
def UnR (X:Cx) (f:EH->Sem EH) (r:V->Hp->VK->Prop):Prop:=
 ∀(pins:EA (EJ×Ih)) (s:EM) (σ:St) (H:Hp) (x:V) (v:EH) (Q:VK),aE X pins σ H s->bh x v->r x H Q->
  Fl (model X.prog X.w) X.A (f v) (EP X pins σ Q) X.xe s
def gF (X:Cx) (f:EH) (r:EA V->Hp->VK->Prop):Prop:=
 ∀(pins:EA (EJ×Ih)) (s:EM) (σ:St) (H:Hp) (xs:EA V) (us:EA EH) (Q:VK),aE X pins σ H s->aX xs us->r xs H Q->
  Fl (model X.prog X.w) X.A (call f us) (EP X pins σ Q) X.xe s
def tOp (r:R2) (ta tb:TE):TE:=λσ H Q=>ta σ H λx H1=>tb σ H1 λy H2=>r x y H2 Q
def tUn (r:V->Hp->VK->Prop) (ta:TE):TE:=λσ H Q=>ta σ H λx H1=>r x H1 Q
inductive rI (C:Int->Int->Prop) (g:Int->Int->V) (x:V) (y:V) (H:Hp) (Q:VK):Prop
 |mk (i j:Int) (_:x= .int i) (_:y= .int j) (_:C i j) (_:Q (g i j) H):rI C g x y H Q
inductive yk (g:Int->Int->V) (x:V) (y:V) (H:Hp) (Q:VK):Prop
 |mk (i j:Int) (_:x= .int i) (_:y= .int j) (_:Q (g i j) H):yk g x y H Q
inductive rU (g:Int->V) (x:V) (H:Hp) (Q:VK):Prop
 |mk (i:Int) (_:x= .int i) (_:Q (g i) H):rU g x H Q
section
variable {X:Cx}{a b c:G8}{ta tb tc:TE}{pos:Pos}
theorem ZO (ha:PE X a ta) (hb:PE X b tb) {pins:EA (EJ×Ih)}{s:EM}{σ:St}{H:Hp}{R:V->V->Hp->Prop}(I:aE X pins σ H s)
  (h:ta σ H λx H1=>tb σ H1 λy H2=>R x y H2) {Q:EH->EM->Prop}{f:EH->EH->Sem EH}
  (hf: ∀v u s2 x y H2,aE X pins σ H2 s2->bh x v->bh y u->R x y H2->Fl (model X.prog X.w) X.A (f v u) Q X.xe s2):
  Fl (model X.prog X.w) X.A (eval a X.env) (λv s₁=>Fl (model X.prog X.w) X.A (eval b X.env) (λu s₂=>Fl (model X.prog X.w) X.A (f v u) Q X.xe s₂) X.xe s₁) X.xe s:=by
 refine b9 (ha pins s σ H _ I h) λv s1 ⟨x,H1,I1,r1,q1⟩=>?_;refine b9 (hb pins s1 σ H1 _ I1 q1) λu s2 ⟨y,H2,I2,r2,q2⟩=>?_;exact hf v u s2 x y H2 I2 r1 r2 q2
theorem ca {r:R2}(ho:kW X (OW op) r) (ha:PE X a ta) (hb:PE X b tb):PE X (.BinOp a op b pos) (tOp r ta tb):=by
 intro pins s σ H Q I h;exact wpAny_BinOp (ZO ha hb I h λv u s2 x y H2 I2 rx ry q=>ho pins s2 σ H2 x y v u Q I2 rx ry q)
theorem dJ {r:V->Hp->VK->Prop}(ho:UnR X (unaryOp op) r) (ha:PE X a ta):PE X (.UnaryOp op a pos) (tUn r ta):=by
 intro pins s σ H Q I h;exact UnaryOp_ (b9 (ha pins s σ H _ I h) λv s1 ⟨x,H1,I1,r1,q1⟩=>ho pins s1 σ H1 x v Q I1 r1 q1)
theorem opI {f:EH->EH->Sem EH}{C:Int->Int->Prop}{g:Int->Int->Int}
  (rule: ∀(i j:Int) (t u:Tok) (s:EM) (Q:EH->EM->Prop) (E:EH->EM->Prop),C i j->Q (.int (g i j) s.toks) { s with toks:=s.toks+1 } ->Fl (model X.prog X.w) X.A (f (.int i t) (.int j u)) Q E s):
  kW X f (rI C λi j=> .int (g i j)):=by
 intro pins s σ H x y v u Q I rx ry h;obtain⟨i,j,rfl,rfl,hc,q⟩:=h;obtain⟨t,rfl⟩:=rx;obtain⟨t',rfl⟩:=ry;exact rule i j t t' s _ _ hc #[.int (g i j),H,I.tok _,#[_,FS],q]
theorem aeQ {f:EH->EH->Sem EH}{g:Int->Int->Int}
  (rule: ∀(i j:Int) (t u:Tok) (s:EM) (Q:EH->EM->Prop) (E:EH->EM->Prop),Q (.int (g i j) s.toks) { s with toks:=s.toks+1 } ->Fl (model X.prog X.w) X.A (f (.int i t) (.int j u)) Q E s):
  kW X f (yk λi j=> .int (g i j)):=by
 intro pins s σ H x y v u Q I rx ry h;obtain⟨i,j,rfl,rfl,q⟩:=h;obtain⟨t,rfl⟩:=rx;obtain⟨t',rfl⟩:=ry;exact rule i j t t' s _ _ #[.int (g i j),H,I.tok _,#[_,FS],q]
theorem Et {f:EH->EH->Sem EH}{g:Int->Int->FR}
  (rule: ∀(i j:Int) (t u:Tok) (s:EM) (Q:EH->EM->Prop) (E:EH->EM->Prop),Q (.bool (g i j)) s->Fl (model X.prog X.w) X.A (f (.int i t) (.int j u)) Q E s):
  kW X f (yk λi j=> .bl (g i j)):=by
 intro pins s σ H x y v u Q I rx ry h;obtain⟨i,j,rfl,rfl,q⟩:=h;obtain⟨t,rfl⟩:=rx;obtain⟨t',rfl⟩:=ry;exact rule i j t t' s _ _ #[.bl (g i j),H,I,FS,q]
def ZP (i j:Int):Prop:=(-(2 ^ 64)<i/\i<2 ^ 64)\/(-(2 ^ 64)<j/\j<2 ^ 64)
theorem ZP.ok {i j:Int}(h:ZP i j):IntMulOk i j:=by
 rcases h with⟨h1,h2⟩|⟨h1,h2⟩
 ·exact .of_left (intBits_le_64 h1 h2)
 ·exact .of_right (intBits_le_64 h1 h2)
theorem dU:kW X (OW .Add) (yk λi j=> .int (i+j)):=aeQ λ_ _ _ _ _ _ _ q=>add_int q
theorem cZ:kW X (OW .Sub) (yk λi j=> .int (i-j)):=aeQ λ_ _ _ _ _ _ _ q=>sub_int q
theorem Af:kW X (OW .Mult) (rI ZP λi j=> .int (i*j)):=opI λ_ _ _ _ _ _ _ hc q=>mul_int q hc.ok
theorem D3:kW X (OW .Mod) (rI (λ_ j=>j≠0) λi j=> .int (i.fmod j)):=opI λ_ _ _ _ _ _ _ hc q=>mod_int' hc q
theorem unI {f:EH->Sem EH}{g:Int->Int}
  (rule: ∀(i:Int) (t:Tok) (s:EM) (Q:EH->EM->Prop) (E:EH->EM->Prop),Q (.int (g i) s.toks) { s with toks:=s.toks+1 } ->Fl (model X.prog X.w) X.A (f (.int i t)) Q E s):
  UnR X f (rU λi=> .int (g i)):=by
 intro pins s σ H x v Q I rx h;obtain⟨i,rfl,q⟩:=h;obtain⟨t,rfl⟩:=rx;exact rule i t s _ _ #[.int (g i),H,I.tok _,#[_,FS],q]
theorem cG:UnR X (unaryOp .USub) (rU λi=> .int (-i)):=unI λ_ _ _ _ _ q=>neg_int q
end
def ZQ:V->V->FR
 | .HZ, .HZ=>FB| .HZ, .int _=>FB| .int _, .HZ=>FB| .HZ, .bl _=>FB| .bl _, .HZ=>FB| .HZ, .str _=>FB| .str _, .HZ=>FB
 | .int _, .int _=>FB| .bl _, .bl _=>FB| .str _, .str _=>FB| .RF _, .RF _=>FB
 | .int _, .str _=>FB| .str _, .int _=>FB| .bl _, .str _=>FB| .str _, .bl _=>FB
 |_,_=>FM
inductive rEq (x:V) (y:V) (H:Hp) (Q:VK):Prop
 |mk (_:ZQ x y=FB) (_:Q (.bl (decide (x=y))) H):rEq x y H Q
inductive rNe (x:V) (y:V) (H:Hp) (Q:VK):Prop
 |mk (_:ZQ x y=FB) (_:Q (.bl (!decide (x=y))) H):rNe x y H Q
theorem wS {i j:Int} :decide (V.int i=V.int j)=(i == j):=by
 rw[GD];simp
theorem zR {i j:FR} :decide (V.bl i=V.bl j)=(i == j):=by
 rw[GD];simp
theorem xw {i j:Fh} :decide (V.str i=V.str j)=(i == j):=by
 rw[GD];simp
theorem xu {i j:IQ Io} :decide (V.RF i=V.RF j)=(i.toList == j.toList):=by
 rw[GD];cases i;cases j;simp
section
variable {X:Cx}{a b c:G8}{ta tb tc:TE}{pos:Pos}
theorem bC {pins:EA (EJ×Ih)}{σ:St}{H:Hp}{s:EM}{Q:VK}{k k':FR}(I:aE X pins σ H s) (q:Q (.bl k) H) (e:k=k'):EP X pins σ Q (.bool k') s:=by
 subst e;exact#[.bl k,H,I,FS,q]
theorem b7:kW X (HL .Eq) rEq:=by
 intro pins s σ H x y v u Q I rx ry h;obtain⟨hs,q⟩:=h;cases x with
 |HZ=>
  cases rx;cases y with
  |HZ=>cases ry;exact PySem.EqNone.eq_none_none (bC I q (by simp))
  |bl j=>cases ry;exact PySem.EqNone.eq_none_bool (bC I q (by simp))
  |int j=>obtain⟨t',rfl⟩:=ry;exact PySem.EqNone.eq_none_int (bC I q (by simp))
  |str j=>obtain⟨t',rfl⟩:=ry;exact PySem.EqNone.eq_none_str (bC I q (by simp))
  |_=>exact E7 (show FM=FB from hs) EE
 |bl i=>
  cases rx;cases y with
  |HZ=>cases ry;exact PySem.EqNone.eq_bool_none (bC I q (by simp))
  |bl j=>cases ry;exact eq_bool (bC I q zR)
  |str j=>obtain⟨t',rfl⟩:=ry;exact PySem.EqMixed.eq_bool_str (bC I q (by simp))
  |_=>exact E7 (show FM=FB from hs) EE
 |int i=>
  obtain⟨t,rfl⟩:=rx;cases y with
  |HZ=>cases ry;exact PySem.EqNone.eq_int_none (bC I q (by simp))
  |int j=>obtain⟨t',rfl⟩:=ry;exact eq_int (bC I q wS)
  |str j=>obtain⟨t',rfl⟩:=ry;exact PySem.EqMixed.eq_int_str (bC I q (by simp))
  |_=>exact E7 (show FM=FB from hs) EE
 |str i=>
  obtain⟨t,rfl⟩:=rx;cases y with
  |HZ=>cases ry;exact PySem.EqNone.eq_str_none (bC I q (by simp))
  |bl j=>cases ry;exact PySem.EqMixed.eq_str_bool (bC I q (by simp))
  |int j=>obtain⟨t',rfl⟩:=ry;exact PySem.EqMixed.eq_str_int (bC I q (by simp))
  |str j=>obtain⟨t',rfl⟩:=ry;exact eq_str (bC I q xw)
  |_=>exact E7 (show FM=FB from hs) EE
 |RF i=>
  obtain⟨t,rfl⟩:=rx;cases y with
  |RF j=>obtain⟨t',rfl⟩:=ry;exact PySem.W.eq_bytes (bC I q xu)
  |_=>exact E7 (show FM=FB from hs) EE
 |_=>cases y<;>exact E7 (show FM=FB from hs) EE
theorem pK:kW X (HL .NotEq) rNe:=by
 intro pins s σ H x y v u Q I rx ry h;obtain⟨hs,q⟩:=h;cases x with
 |HZ=>
  cases rx;cases y with
  |HZ=>cases ry;exact PySem.EqNone.ne_none_none (bC I q (by simp))
  |bl j=>cases ry;exact PySem.EqNone.ne_none_bool (bC I q (by simp))
  |int j=>obtain⟨t',rfl⟩:=ry;exact PySem.EqNone.ne_none_int (bC I q (by simp))
  |str j=>obtain⟨t',rfl⟩:=ry;exact PySem.EqNone.ne_none_str (bC I q (by simp))
  |_=>exact E7 (show FM=FB from hs) EE
 |bl i=>
  cases rx;cases y with
  |HZ=>cases ry;exact PySem.EqNone.ne_bool_none (bC I q (by simp))
  |bl j=>cases ry;exact ne_bool (bC I q (FN not zR))
  |str j=>obtain⟨t',rfl⟩:=ry;exact PySem.EqMixed.ne_bool_str (bC I q (by simp))
  |_=>exact E7 (show FM=FB from hs) EE
 |int i=>
  obtain⟨t,rfl⟩:=rx;cases y with
  |HZ=>cases ry;exact PySem.EqNone.ne_int_none (bC I q (by simp))
  |int j=>obtain⟨t',rfl⟩:=ry;exact ne_int (bC I q (FN not wS))
  |str j=>obtain⟨t',rfl⟩:=ry;exact PySem.EqMixed.ne_int_str (bC I q (by simp))
  |_=>exact E7 (show FM=FB from hs) EE
 |str i=>
  obtain⟨t,rfl⟩:=rx;cases y with
  |HZ=>cases ry;exact PySem.EqNone.ne_str_none (bC I q (by simp))
  |bl j=>cases ry;exact PySem.EqMixed.ne_str_bool (bC I q (by simp))
  |int j=>obtain⟨t',rfl⟩:=ry;exact PySem.EqMixed.ne_str_int (bC I q (by simp))
  |str j=>obtain⟨t',rfl⟩:=ry;exact ne_str (bC I q (FN not xw))
  |_=>exact E7 (show FM=FB from hs) EE
 |RF i=>
  obtain⟨t,rfl⟩:=rx;cases y with
  |RF j=>obtain⟨t',rfl⟩:=ry;exact PySem.W.ne_bytes (bC I q (FN not xu))
  |_=>exact E7 (show FM=FB from hs) EE
 |_=>cases y<;>exact E7 (show FM=FB from hs) EE
theorem jK:kW X (HL .Lt) (yk λi j=> .bl (decide (i<j))):=Et λ_ _ _ _ _ _ _ q=>lt_int q
theorem eO:kW X (HL .LtE) (yk λi j=> .bl (decide (i<=j))):=Et λ_ _ _ _ _ _ _ q=>le_int q
theorem gj:kW X (HL .Gt) (yk λi j=> .bl (decide (j<i))):=Et λ_ _ _ _ _ _ _ q=>gt_int q
theorem aeR:kW X (HL .GtE) (yk λi j=> .bl (decide (j<=i))):=Et λ_ _ _ _ _ _ _ q=>ge_int q
theorem ZR:kW X (HL .Is) (λx y H Q=>y= .HZ/\Q (.bl (decide (x= .HZ))) H):=by
 intro pins s σ H x y v u Q I rx ry h;obtain⟨rfl,q⟩:=h;cases ry;refine is_none_gen (bC I q ?_);cases x<;>first
  | (cases rx;rfl)
  | (obtain⟨t,rfl⟩:=rx;rfl)
theorem Er:kW X (HL .IsNot) (λx y H Q=>y= .HZ/\Q (.bl (!decide (x= .HZ))) H):=by
 intro pins s σ H x y v u Q I rx ry h;obtain⟨rfl,q⟩:=h;cases ry;refine isnot_none_gen (bC I q ?_);cases x<;>first
  | (cases rx;rfl)
  | (obtain⟨t,rfl⟩:=rx;rfl)
theorem aM (b:G8) (h:op≠ .In:=by decide) (h2:op≠ .NotIn:=by decide):behindInMarks op b=FM:=by
 have e1:(op == CmpOp.In)=FM:=by cases op<;>first|rfl|exact E7 rfl h
 have e2:(op == CmpOp.NotIn)=FM:=by cases op<;>first|rfl|exact E7 rfl h2
 cases b<;>simp [behindInMarks,e1,e2]
theorem b8 {r:R2}(ho:kW X (HL op) r) (ha:PE X a ta) (hb:PE X b tb) (hm:behindInMarks op b=FM):PE X (.Compare a [op] [b] pos) (tOp r ta tb):=by
 intro pins s σ H Q I h;exact wpAny_Compare1 (ZO ha hb I h λv u s2 x y H2 I2 rx ry q=>ho pins s2 σ H2 x y v u Q I2 rx ry q) hm
def BA (t:TE):TT:=λσ H Q=>t σ H (uj Q)
theorem a7 {r:R2}(ho:kW X (HL op) r) (ha:PE X a ta) (hb:PE X b tb) (hm:behindInMarks op b=FM):PT X (.Compare a [op] [b] pos) (BA (tOp r ta tb)):=by
 intro pins s σ H Q I h;refine VI (b9 (ha pins s σ H _ I h) λv s1 ⟨x,H1,I1,r1,q1⟩=>b9 (hb pins s1 σ H1 _ I1 q1) λu s2 ⟨y,H2,I2,r2,q2⟩=>
  b9 (ho pins s2 σ H2 x y v u _ I2 r1 r2 q2) λc s3 ⟨z,H3,I3,r3,k,e,q3⟩=>?_) hm
 subst e;cases r3;exact Ic #[H3,I3,q3]
def vz (r r':R2) (ta tb tc:TE):TE:=λσ H Q=>ta σ H λx H1=>tb σ H1 λy H2=>r x y H2 λz H3=> ∃k,z= .bl k/\
 (if k=FB then tc σ H3 λw' H4=>r' y w' H4 Q else Q (.bl FM) H3)
theorem iz {r r':R2}(ho:kW X (HL op) r) (QP:kW X (HL op') r') (ha:PE X a ta) (hb:PE X b tb) (hc:PE X c tc)
  (hm:UD [op,op'] [b,c]=FM:=by with_unfolding_all rfl):PE X (.Compare a [op,op'] [b,c] pos) (vz r r' ta tb tc):=by
 intro pins s σ H Q I h;refine Compare_chain (b9 (ha pins s σ H _ I h) λv s1 ⟨x,H1,I1,r1,q1⟩=>chain_link (b9 (hb pins s1 σ H1 _ I1 q1) λu s2 ⟨y,H2,I2,r2,q2⟩=>
  b9 (ho pins s2 σ H2 x y v u _ I2 r1 r2 q2) λd s3 ⟨z,H3,I3,r3,k,e,q3⟩=>?_)) hm
 subst e;cases r3;refine Ic ?_;cases k with
 |false=>exact ite_ff #[.bl FM,H3,I3,FS,q3]
 |true=>exact ite_tt (chain_last (b9 (hc pins s3 σ H3 _ I3 q3) λw' s4 ⟨z',H4,I4,r4,q4⟩=>QP pins s4 σ H4 y z' u w' Q I4 r2 r4 q4))
theorem AC {r r':R2}(ho:kW X (HL op) r) (QP:kW X (HL op') r') (ha:PE X a ta) (hb:PE X b tb) (hc:PE X c tc)
  (hm:UD [op,op'] [b,c]=FM:=by with_unfolding_all rfl):PT X (.Compare a [op,op'] [b,c] pos) (BA (vz r r' ta tb tc)):=by
 intro pins s σ H Q I h;refine isTrue_chain (b9 (ha pins s σ H _ I h) λv s1 ⟨x,H1,I1,r1,q1⟩=>test_link (b9 (hb pins s1 σ H1 _ I1 q1) λu s2 ⟨y,H2,I2,r2,q2⟩=>
  b9 (ho pins s2 σ H2 x y v u _ I2 r1 r2 q2) λd s3 ⟨z,H3,I3,r3,k,e,q3⟩=>?_)) hm
 subst e;cases r3;refine Ic ?_;cases k with
 |false=>
  obtain⟨k',e',q'⟩:=q3;cases e';exact ite_ff #[H3,I3,q']
 |true=>
  refine ite_tt (test_last (b9 (hc pins s3 σ H3 _ I3 q3) λw' s4 ⟨z',H4,I4,r4,q4⟩=>b9 (QP pins s4 σ H4 y z' u w' _ I4 r2 r4 q4) λd' s5 ⟨z2,H5,I5,r5,k2,e2,q5⟩=>?_));subst e2;cases r5;exact Ic #[H5,I5,q5]
theorem qC:(FE:E1)<2 ^ 63:=by rw[Ht];decide
theorem oj {x:V}(r:aX [x] us): ∃u,us=[u]/\bh x u:=by
 cases r with
 |cons r1 r2=>cases r2;exact#[_,FS,r1]
theorem vals2 {x y:V}(r:aX [x,y] us): ∃u w',us=[u,w']/\bh x u/\bh y w':=by
 cases r with
 |cons r1 r2=>
  cases r2 with
  |cons r3 r4=>cases r4;exact#[_,_,FS,r1,r3]
theorem tJ:gF X (.builtin "abs") (λxs H Q=> ∃i,xs=[.int i]/\Q (.int (if i<0 then-i else i)) H):=by
 intro pins s σ H xs us Q I r h;obtain⟨i,rfl,q⟩:=h;obtain⟨u,rfl,t,rfl⟩:=oj r;exact call_abs_int λu tk=>#[.int (if i<0 then-i else i),H,I.tok _,#[_,FS],q]
end
structure t8 (h:Gn) (x dx C:EJ) (mA:Fh->ET EH):Prop where
 obj:h.get? x=EQ (IV C dx)
 ns:h.Ns1 dx mA
 ne:dx≠x
theorem yM {h:Gn}{dx:EJ}{mA:Fh->ET EH}(n:h.Ns1 dx mA): ∃od,h.get? dx=EQ od/\ ∀name,Ng name od=EQ (mA name):=by
 obtain⟨o,es,ep,ho,hd,hk,_,hm⟩:=n;refine#[o,ho,λname=>?_];have e:=hm name;unfold nsFind findBy at e;rw[<-T8] at e;unfold Ng;rw[hd];dsimp only;split
 ·rename_i y q
  rw[q] at e;exact FN EQ e
 ·rename_i q
  rw[q] at e;have a:es.toList.any (·.refKey)=FM:=by
   rw[U2];intro y hy;obtain⟨z,t,ajS⟩:=hk y (SI.mp hy);simp [NG.refKey,ajS]
  have a': ¬es.toList.any (·.refKey)=FB:=by rw[a];exact EE
  rw[EI a'];exact FN EQ e
theorem t8.look {h:Gn}{x dx C:EJ}{mA:Fh->ET EH}(I:t8 h x dx C mA): ∃od,PySem.W.InstAt h x (IV C dx) C (EQ od)/\ ∀name,Ng name od=EQ (mA name):=
 let ⟨od,ho,hl⟩:=yM I.ns
 #[od,#[I.obj,FS,FS,ho],hl]
section
variable {prog:Fz}{w:Ga}{A:Gk}{E:EH->EM->Prop}{s:EM}{K:EF}{x dx C f:EJ}{mA:Fh->ET EH}{name:Fh}{v:EH}
theorem D8 {Q:EH->EM->Prop}(X:K.In s.heap) (I:t8 s.heap x dx C mA) (hg:My K C name=FB) (hh:Ol K C=FB)
  (ha:Hh K (.ref C) name=EQ Fa) (hv:mA name=EQ v) (hv':Uc v=FB) (h:Q v { s with toks:=s.toks+1 }):
  Fl (model prog w) A (Sg (.ref x) name expr) Q E s:=by
 obtain⟨od,J,hl⟩:=I.look;exact PySem.W.get_value X J (ND hg).1 (PySem.W.findObj_own hh ha rfl (by rw[hl,hv])) hv' h
theorem Bi {Q:EH×EA EH->EM->Prop}(X:K.In s.heap) (I:t8 s.heap x dx C mA) (hg:My K C name=FB)
  (hf:Hh K (.ref C) name=EQ (EQ (.ref f))) (ht:Oq K (.ref f)=FB) (hv:mA name=Fa) (h:Q (.ref f,[.ref x]) s):
  Fl (model prog w) A (Ku (.ref x) name pl) Q E s:=by
 obtain⟨od,J,hl⟩:=I.look;exact PySem.W.method_fn X J (ND hg).1 (ND hg).2 hf (beq_iff_eq.mp ht) (by show(Ng name od).map (·.isSome)=EQ FM;rw[hl,hv];rfl) h
theorem Da {ns:EA Fh}{Q:Mo->EM->Prop}(X:K.In s.heap) (I:t8 s.heap x dx C mA)
  (hs:Hh K (.ref C) "__setattr__"=EQ (EQ (.builtin "object.__setattr__"))) (hp:Ts K C=FB) (ht:PL K C name=EQ Fa) (hh:Ol K C=FB)
  (hw:M5 mA ns) (hsz:ns.length<=FE)
  (h: ∀h',t8 h' x dx C (λy=>if y=name then EQ v else mA y)->LZ dx s.heap h'->Q () { s with heap:=h',toks:=s.toks+2 }):
  Fl (model prog w) A (Sh (.ref x) name v) Q E s:=by
 obtain⟨od,J,hl⟩:=I.look;refine PySem.W.set_plain X J hs (PySem.W.osa_open (s:= { s with toks:=s.toks+1 }) (r:=Fa) X J hp ht λb=>?_);obtain⟨cd,hc,WH⟩:=PySem.W.any_some hh;have hx:s.heap.get? x=EQ ⟨.ref C,EQ dx, .plain, [].toArray⟩:=I.obj;refine E3 (Fx (E3 (E3 (wpAny_loadPart hx (E3 (PySem.W.Looks.here (s:= { s with toks:=s.toks+1 }) (PySem.W.looks_clsIn X hc) ?_))))));rw[WH];refine Fx (a:=EQ dx) (E3 (Fx (E3 ?_)));refine U3 (s:= { s with toks:=s.toks+1 }) I.ns λh' hn2 US=>?_;obtain⟨oD,esD,epD,hoD,hdD,hcD⟩:=hn2.count (M5.cons name v hw);refine E3 (QT hoD (by rw[hdD];exact QU (Fj hcD (by rw[EZ];lia))) ?_);exact Fx (h _ #[(US.2 _ (HS I.ne)).trans I.obj,hn2,I.ne] US)
theorem Ay {R:Result->EM->Prop}(X:K.In s.heap) (hm:UJ K C=FB)
  (hi:Hh K (.ref C) "__init__"=EQ (EQ (.ref f))) (hf:Ve K (.ref f)=EQ (.type "function"))
  (h:KP (model prog w) (A.under (.builtin "type.__call__" #[.ref C::vs,kw])) (.call (.ref f) #[.ref (s.heap.objs.size+1)::vs,kw]) (PySem.W.InitBack (s.heap.objs.size+1) R)
   { s with heap:=(s.heap.push HQ).push (IV C s.heap.objs.size) }):
  KP (model prog w) A (.call (.ref C) #[vs,kw]) R s:=by
 obtain⟨hh,g,d,t,os⟩:=s;exact PySem.W.make_core (PySem.W.makes_of X hm) (PySem.W.looks_findIn X hi) (λself=>PySem.W.bind_fn X self hf) (.inl rfl) h
end
def Hs (f:Fh) (v:V):EA (Fh×V)->EA (Fh×V)
 |[]=>[(f,v)]
 | (g,x)::r=>if g=f then(g,v)::r else(g,x)::Hs f v r
theorem ii (f g:Fh) (v:V): ∀fs:EA (Fh×V),(Hs f v fs).lookup g=if g=f then EQ v else fs.lookup g
 |[]=>by
  show IM g [(f,v)]=_
  by_cases h:g=f
  ·have hb:(g == f)=FB:=beq_iff_eq.mpr h
   simp only[IM,hb,EL h]
  ·have hb:(g == f)=FM:=beq_eq_false_iff_ne.mpr h
   simp only[IM,hb,EI h]
 | (k,x)::r=>by
  have ih:=ii f g v r;rw[show Hs f v ((k,x)::r)=(if k=f then(k,v)::r else(k,x)::Hs f v r) from rfl]
  by_cases hk:k=f
  ·rw[EL hk]
   by_cases h:g=k
   ·have hb:(g == k)=FB:=beq_iff_eq.mpr h
    simp only[IM,hb,EL (h.trans hk)]
   ·have hb:(g == k)=FM:=beq_eq_false_iff_ne.mpr h
    simp only[IM,hb,EI (λe:g=f=>h (e.trans hk.symm))]
  ·rw[EI hk]
   by_cases h:g=k
   ·have hb:(g == k)=FB:=beq_iff_eq.mpr h
    simp only[IM,hb,EI (λe:g=f=>hk (h.symm.trans e))]
   ·have hb:(g == k)=FM:=beq_eq_false_iff_ne.mpr h
    simp only[IM,hb];exact ih
theorem gJ (f:Fh) (v:V): ∀fs:EA (Fh×V),f∈(Hs f v fs).map (·.1)/\ ∀g,g∈fs.map (·.1)->g∈(Hs f v fs).map (·.1)
 |[]=>#[by simp [Hs],λg h=>by simp at h]
 | (k,x)::r=>by
  obtain⟨i1,i2⟩:=gJ f v r;rw[show Hs f v ((k,x)::r)=(if k=f then(k,v)::r else(k,x)::Hs f v r) from rfl]
  by_cases hk:k=f
  ·rw[EL hk]
   subst hk;exact#[by simp,λg h=>by simpa using h]
  ·rw[EI hk]
   refine#[?_,λg h=>?_]
   ·rw[Fe]
    exact EN _ i1
   ·rw[Fe] at h ⊢
    rcases EW.mp h with e|e
    ·exact EW.mpr (.inl e)
    ·exact EN _ (i2 g e)
theorem cS (f:Fh) (v:V): ∀fs:EA (Fh×V),(Hs f v fs).length<=fs.length+1
 |[]=>by simp [Hs]
 | (k,x)::r=>by
  have ih:=cS f v r;rw[show Hs f v ((k,x)::r)=(if k=f then(k,v)::r else(k,x)::Hs f v r) from rfl]
  by_cases hk:k=f
  ·rw[EL hk,EZ,EZ];lia
  ·rw[EI hk,EZ,EZ];lia
theorem fR.some_of {v:V}{o:ET EH}(r:fR (EQ v) o): ∃u,o=EQ u/\bh v u:=by
 cases o with
 |none=>exact(show False from r).elim
 |some u=>exact#[u,FS,r]
theorem fR.none_of {o:ET EH}(r:fR Fa o):o=Fa:=by
 cases o with
 |none=>rfl
 |some u=>exact(show False from r).elim
theorem pk {v:V}{u:EH}(r:bh v u):Uc u=FB:=by
 cases v with
 |HZ=>cases (show u=Hn from r);rfl
 |bl b=>cases (show u=L7 b from r);rfl
 |int i=>obtain⟨t,e⟩:=(show∃t,u=JL i t from r);cases e;rfl
 |str x=>obtain⟨t,e⟩:=(show∃t,u=NQ x t from r);cases e;rfl
 |RF b=>obtain⟨t,e⟩:=(show∃t,u=EH.bytes b t from r);cases e;rfl
 |W8 b=>obtain⟨t,e⟩:=(show∃t,u=SO b t from r);cases e;rfl
 |ref a=>cases (show u=Fq a from r);rfl
 |ty n=>cases (show u=L8 n from r);rfl
section
variable {P:Fz}{w:Ga}{H H':Hp}{h h':Gn}{a C dx:EJ}{fs fs':EA (Fh×V)}
theorem lY (HH:h9 P w H h) (e:H a=EQ (.ins C dx fs)): ∃mA,t8 h a dx C mA/\(∀f,fR (fs.lookup f) (mA f))/\M5 mA (fs.map (·.1))/\fs.length<=1000/\H dx=EQ (.own a):=by
 obtain⟨d,z,ne,ob,mA,n,r,q⟩:=(show cw P w H h a (.ins C dx fs) from HH a _ e);exact#[mA,#[ob,n,ne],r,q,z,d]
end
theorem gw.get {K:EF}{C:EJ}(c:gw K C) (f:Fh):My K C f=FB:=c.pg
theorem ak.aeS {K:EF}{C:EJ}{f:Fh}(n:ak K C f):PL K C f=EQ Fa:=by
 unfold PL;rw[show Hh K (.ref C) f=EQ Fa from n]
 rfl
section
variable {X:Cx}{pins:EA (EJ×Ih)}{σ:St}{H:Hp}{s:EM}{a C dx:EJ}{fs:EA (Fh×V)}{f:Fh}{v:V}{A:Gk}{E:EH->EM->Prop}
theorem mv {b:FR}{Q:EH->EM->Prop}(I:aE X pins σ H s) (e:H a=EQ (.ins C dx fs)) (c:gw X.K C) (n:ak X.K C f) (l:fs.lookup f=EQ v)
  (h: ∀u s',aE X pins σ H s'->bh v u->Q u s'):Fl (model X.prog X.w) A (Sg (.ref a) f b) Q E s:=by
 obtain⟨mA,O,r,_,_,_⟩:=lY I.HH e;obtain⟨u,hu,ru⟩:=fR.some_of (v:=v) (o:=mA f) (by rw[<-l];exact r f);exact D8 I.MI O (c.get f) c.hd n hu (pk ru) (h u _ (I.tok _) ru)
theorem ow {m:Fh}{g:EJ}{Q:EH×EA EH->EM->Prop}(I:aE X pins σ H s) (e:H a=EQ (.ins C dx fs)) (c:gw X.K C) (k:Meth X.K C m g) (l:fs.lookup m=Fa)
  (h:Q (.ref g,[.ref a]) s):Fl (model X.prog X.w) A (Ku (.ref a) m pl) Q E s:=by
 obtain⟨mA,O,r,_,_,_⟩:=lY I.HH e;have hn:mA m=Fa:=fR.none_of (by rw[<-l];exact r m);exact Bi I.MI O (c.get m) k.at_ k.fn hn h
theorem mY {y:V}{u:EH}{Q:Mo->EM->Prop}(I:aE X pins σ H s) (e:H a=EQ (.ins C dx fs)) (c:gw X.K C) (n:ak X.K C f) (hl:fs.length<1000) (ry:bh y u)
  (h: ∀s',aE X pins σ (aF H a (.ins C dx (Hs f y fs))) s'->Q () s'):Fl (model X.prog X.w) A (Sh (.ref a) f u) Q E s:=by
 obtain⟨mA,O,r,wi,_,ho⟩:=lY I.HH e;have hz:(fs.map (·.1)).length<=FE:=by rw[EY,Ht];lia
 refine Da I.MI O c.sa c.po n.aeS c.hd wi hz λh' O' sb=>h _ ?_;have hd: ∃o,h'.get? dx=EQ o:=let ⟨o,_,_,e',_⟩:=O'.ns;#[o,e'];refine I.write (x:=a) (e:=dx) (by rw[e];exact GH) (.inr ho) (λb q hb z=>(sb.2 b hb).trans z) hd ?_;refine#[by rw[ac O.ne];exact ho,?_,O.ne,O'.obj,_,O'.ns,λg=>?_,λg hg=>?_]
 ·have:=cS f y fs;lia
 ·show fR ((Hs f y fs).lookup g) (if g=f then EQ u else mA g)
  rw[ii];by_cases q:g=f
  ·rw[EL q,EL q];exact ry
  ·rw[EI q,EI q];exact r g
 ·by_cases q:g=f
  ·rw[q];exact(gJ f y fs).1
  ·refine(gJ f y fs).2 g (wi g λz=>hg ?_)
   show(if g=f then EQ u else mA g)=Fa
   rw[EI q];exact z
theorem aE.made (I:aE X pins σ H s):aE X pins σ (aF (aF H s.heap.objs.size (.own (s.heap.objs.size+1))) (s.heap.objs.size+1) (.ins C s.heap.objs.size []))
  { s with heap:=(s.heap.push HQ).push (IV C s.heap.objs.size) } :=by
 have e1:(s.heap.push HQ).get? s.heap.objs.size=EQ HQ:=Gy s.heap rfl
 have e2:((s.heap.push HQ).push (IV C s.heap.objs.size)).get? (s.heap.objs.size+1)=EQ (IV C s.heap.objs.size):=by
  have:=Gy (s.heap.push HQ) (o:=IV C s.heap.objs.size) rfl
  rwa [Hf] at this
 have e3:(s.heap.push HQ).Ns s.heap.objs.size (λ_=>Fa):=#[HQ, [].toArray,_,e1,FS,(λe he=>E7 he (by simp)),λ_=>rfl]
 have I1:=I.laid (a:=s.heap.objs.size) (o:= .own (s.heap.objs.size+1)) (h':=s.heap.push HQ) (t':=s.toks) (λb u q=>E2 _ q) (E6 _) #[_,e1]
 refine I1.laid (a:=s.heap.objs.size+1) (o:= .ins C s.heap.objs.size []) (t':=s.toks) (λb u q=>E2 _ q) (JG (Hf _ _)) ?_;have ne:s.heap.objs.size≠s.heap.objs.size+1:=Gu (G6 _);refine#[by rw[ac ne,ae],Fs _,ne,e2,λ_=>Fa,(Og e3).at λo q=>E2 _ q,λ_=>GH,λy hy=>E7 rfl hy]
theorem wC {prog:Fz}{w:Ga}{env:Env}{e:G8}{f:Fh}{pos:Pos}{s:EM}{Q:EH->EM->Prop}(hb:HM e f env (eval e env)=eval e env)
  (h:Fl (model prog w) A (eval e env) (λo s₁=>Fl (model prog w) A (Sg o f FB) Q E s₁) E s):Fl (model prog w) A (eval (.Attribute e f pos) env) Q E s:=
 Attribute_any_ h (by rw[arm_eval_Attribute,hb])
end
inductive dL (K:EF) (f:Fh) (R:V->Hp->Prop) (x:V) (H1:Hp):Prop
 |mk (a C dx:EJ) (fs:EA (Fh×V)) (v:V) (_:x= .ref a) (_:H1 a=EQ (.ins C dx fs)) (_:gw K C) (_:ak K C f) (_:fs.lookup f=EQ v) (_:R v H1):dL K f R x H1
def ajT (K:EF) (ta:TE) (f:Fh):TE:=λσ H Q=>ta σ H (dL K f Q)
def ajU (K:EF) (ta tv:TE) (f:Fh):TS:=λD σ H=>tv σ H λy H1=>ta σ H1 λx H2=> ∃a C dx fs,x= .ref a/\H2 a=EQ (.ins C dx fs)/\gw K C/\ak K C f/\fs.length<1000/\
 D.nx σ (aF H2 a (.ins C dx (Hs f y fs)))
def aeT (X:Cx) (op:Operator) (rd:V->V->Hp->VK->Prop):Prop:=
 ∀(pins:EA (EJ×Ih)) (s:EM) (σ:St) (H:Hp) (x y:V) (u v:EH) (Q:VK),aE X pins σ H s->bh x u->bh y v->rd x y H Q->Fl (model X.prog X.w) X.A (inplaceOp op u v) (EP X pins σ Q) X.xe s
def Ee (K:EF) (ta tv:TE) (rd:V->V->Hp->VK->Prop) (f:Fh):TS:=λD σ H=>ta σ H λx H1=> ∃a C dx fs v,x= .ref a/\H1 a=EQ (.ins C dx fs)/\gw K C/\ak K C f/\fs.lookup f=EQ v/\
 tv σ H1 λy H2=>rd v y H2 λz H3=> ∃dx' fs',H3 a=EQ (.ins C dx' fs')/\fs'.length<1000/\D.nx σ (aF H3 a (.ins C dx' (Hs f z fs')))
section
variable {X:Cx}{o e JM:G8}{f:Fh}{pos MK aeU:Pos}{ta tv:TE}
theorem ao (he:PE X e ta) (hb:HM e f X.env (eval e X.env)=eval e X.env):PE X (.Attribute e f pos) (ajT X.K ta f):=by
 intro pins s σ H Q I h;refine wC hb (b9 (he pins s σ H _ I h) λu s1 ⟨x,H1,I1,rx,a,C,dx,fs,v,ex,ea,c,n,l,q⟩=>?_);subst ex;obtain rfl:u=Fq a:=rx;exact mv I1 ea c n l λu' s2 I2 ru=>#[v,H1,I2,ru,q]
theorem b5 (ha:PE X o ta) (hv:PE X JM tv) (hs:K7 JM (EQ (.Attribute o f MK)) pos.line X.env=pure FM):PS X (.Assign [.Attribute o f MK] JM pos) (ajU X.K ta tv f):=by
 intro pins s σ H D I h;refine LH (b9 (hv pins s σ H _ I h) λu s1 ⟨y,H1,I1,ry,q⟩=>b9 (ha pins s1 σ H1 _ I1 q) λov s2 ⟨x,H2,I2,rx,a,C,dx,fs,ex,ea,c,n,l,q2⟩=>?_) hs;subst ex;obtain rfl:ov=Fq a:=rx;exact mY I2 ea c n l ry λs3 I3=>#[σ,_,I3,q2]
theorem gP {rd:V->V->Hp->VK->Prop}(ha:PE X o ta) (hv:PE X JM tv) (WI:aeT X op rd):PS X (.AugAssign (.Attribute o f aeU) op JM pos) (Ee X.K ta tv rd f):=by
 intro pins s σ H D I h;refine wpAny_AugAssign_AttributeAny (b9 (ha pins s σ H _ I h) λov s1 ⟨x,H1,I1,rx,a,C,dx,fs,v,ex,ea,c,n,l,q⟩=>?_);subst ex;obtain rfl:ov=Fq a:=rx;refine mv I1 ea c n l λu s2 I2 ru=>b9 (hv pins s2 σ H1 _ I2 q) λw3 s3 ⟨y,H2,I3,ry,q3⟩=>b9 (WI pins s3 σ H2 v y u w3 _ I3 ru ry q3) λw4 s4 ⟨z,H3,I4,rz,dx',fs',ea',l',q4⟩=>?_;exact mY I4 ea' c n l' rz λs5 I5=>#[σ,_,I5,q4]
def ajV:V->V->Hp->VK->Prop:=λx y H Q=> ∃i j,x= .int i/\y= .int j/\Q (.int (i+j)) H
theorem my:aeT X .Add ajV:=by
 rintro pins s σ H x y u v Q I rx ry ⟨i,j,rfl,rfl,q⟩;obtain⟨t,rfl⟩:=(show∃t,u=JL i t from rx);obtain⟨t',rfl⟩:=(show∃t',v=JL j t' from ry);exact PyProof.Rows.iadd_int #[.int (i+j),H,I.tok _,#[_,FS],q]
end
section
variable {X:Cx}{pins:EA (EJ×Ih)}{σ:St}{H:Hp}{s:EM}{A:Gk}{E:EH->EM->Prop}{Q:EH->EM->Prop}{c:EH}{b:FR}
inductive jz (K:EF) (H:Hp):V->EH->Prop where
 |HZ:jz K H .HZ (.type "NoneType")
 |bl (x:FR):jz K H (.bl x) (.type "bool")
 |int (i:Int):jz K H (.int i) (.type "int")
 |str (x:Fh):jz K H (.str x) (.type "str")
 |W8 (x:UInt64):jz K H (.W8 x) (.type "float")
 |lst {a:EJ}{xs:EA V}(e:H a=EQ (.lst xs)):jz K H (.ref a) (.type "list")
 |P5 {a:EJ}{o:Ih}{xs:EA V}(e:H a=EQ (.P5 o (.lst xs))):jz K H (.ref a) (.type "list")
 |tup {a:EJ}{xs:EA V}(e:H a=EQ (.tup xs)):jz K H (.ref a) (.type "tuple")
 |dK {a:EJ}{aC:EA (a0×V)}(e:H a=EQ (.dK aC)):jz K H (.ref a) (.type "dict")
 |dT {a:EJ}{aC:EA (EA a0×V)}(e:H a=EQ (.dT aC)):jz K H (.ref a) (.type "dict")
 |ins {a C dx:EJ}{fs:EA (Fh×V)}(e:H a=EQ (.ins C dx fs)) (cl:gw K C) (ha:Hh K (.ref C) "__class__"=EQ (EQ (.builtin "object.__class__")))
   (hn:Om K (.builtin "object.__class__") "__get__"=EQ (EQ (.builtin "getset_descriptor.__get__"))) (htk:UK K (.builtin "object.__class__")=EQ FB)
   (hm:VT K C (.type "object")=EQ FB):jz K H (.ref a) (.ref C)
theorem yU {x:V}{u t:EH}(I:aE X pins σ H s) (rx:bh x u) (ty:jz X.K H x t) (e:Hy X.K t c=EQ b) (h: ∀tk,Q (.bool b) { s with toks:=tk }):
  Fl (model X.prog X.w) A (call (.builtin "isinstance") [u,c]) Q E s:=by
 cases ty with
 |HZ=>cases (show u=Hn from rx);exact HA PySem.W.kitx_none I.MI GH e (λz=>nomatch z) h
 |bl y=>cases (show u=L7 y from rx);exact HA PySem.W.kitx_bool I.MI GH e (λz=>nomatch z) h
 |int i=>obtain⟨t,q⟩:=(show∃t,u=JL i t from rx);cases q;exact HA PySem.W.kitx_int I.MI GH e (λz=>nomatch z) h
 |str y=>obtain⟨t,q⟩:=(show∃t,u=NQ y t from rx);cases q;exact HA PySem.W.kitx_str I.MI GH e (λz=>nomatch z) h
 |W8 y=>obtain⟨t,q⟩:=(show∃t,u=SO y t from rx);cases q;exact HA PySem.W.kitx_float I.MI GH e (λz=>nomatch z) h
 | @lst a xs ea=>
  cases (show u=Fq a from rx);obtain⟨_,_,n,_,h1⟩:=(show cw X.prog X.w H s.heap a (.lst xs) from I.HH a _ ea);exact HA Tt I.MI #[_,h1,FS] e (λz=>nomatch z) h
 | @P5 a ob xs ea=>
  cases (show u=Fq a from rx);obtain⟨_,_,_,n,_,h1⟩:=(show cw X.prog X.w H s.heap a (.P5 ob (.lst xs)) from I.HH a _ ea);exact HA Tt I.MI #[_,h1,FS] e (λz=>nomatch z) h
 | @tup a xs ea=>
  cases (show u=Fq a from rx);obtain⟨_,_,_,p⟩:=(show cw X.prog X.w H s.heap a (.tup xs) from I.HH a _ ea);obtain⟨o,h1,h2,_⟩:=p;exact HA PySem.W.kitx_tuple I.MI #[o,h1,h2] e (λz=>nomatch z) h
 | @dK a aC ea=>
  cases (show u=Fq a from rx);obtain⟨_,_,vs,_,p⟩:=(show cw X.prog X.w H s.heap a (.dK aC) from I.HH a _ ea);obtain⟨o,es,ep,h1,h2,_⟩:=p;exact HA Tu I.MI #[o,h1,h2.1] e (λz=>nomatch z) h
 | @dT a aC ea=>
  cases (show u=Fq a from rx);obtain⟨_,_,xs,_,o,es,ep,h1,h2,_⟩:=(show cw X.prog X.w H s.heap a (.dT aC) from I.HH a _ ea);exact HA Tu I.MI #[o,h1,h2.1] e (λz=>nomatch z) h
 | @ins a C dx fs ea cl ha hn htk hm=>
  cases (show u=Fq a from rx);obtain⟨mA,O,_⟩:=lY I.HH ea;obtain⟨od,J,_⟩:=O.look;exact HA (PySem.W.kitx_own (cl.get _) cl.hd ha hn htk hm) I.MI J e (λz=>nomatch z) h
end
theorem bW.mono {j k:E1}{A:Gk}(r:bW k A) (h:j<=k):bW j A:=#[r.hd,by have:=r.dp;lia,by have:=r.un;lia]
theorem bW.deeper {k:E1}{A:Gk}(r:bW (k+1) A) (env:Env):bW k (A.deeper env):=
 #[r.hd,by have:=r.dp;show A.depth+1+2*k+5<_;lia,by have:=r.un;show A.units+3+16*k+200<_;lia]
theorem ui {A:Gk}{C:EJ} :(A.under (.builtin "type.__call__" #[.ref C::us,kw])).depth=A.depth+1:=by
 first|rfl|simp [Rv,Code.weight,Code.isCreation,Code.isGuard,Code.isCaller,Code.frames,Si,guardIds]
theorem uy {A:Gk}{C:EJ} :(A.under (.builtin "type.__call__" #[.ref C::us,kw])).units=A.units+1:=by
 first|rfl|simp [Rv,Code.cUnits,Code.frames,Si]
theorem bW.make {k:E1}{A:Gk}(r:bW (k+1) A) (C:EJ) (us:EA EH) (kw:EA (Fh×EH)):bW k (A.under (.builtin "type.__call__" #[.ref C::us,kw])):=
 #[r.hd,by have:=r.dp;rw[ui];lia,by have:=r.un;rw[uy];lia]
theorem bW.depth {k:E1}{A:Gk}(r:bW k A):A.depth<recursionLimit:=by have:=r.dp;lia
theorem bW.units {k:E1}{A:Gk}(r:bW k A):A.units+64<OX:=by have:=r.un;lia
def A7:TA:=λ_ H Q=>Q [] H
def BP (ta:TE) (tr:TA):TA:=λσ H Q=>ta σ H λx H1=>tr σ H1 λxs H2=>Q (x::xs) H2
section
variable {X:Cx}{e:G8}{es:EA G8}{te:TE}{t:TA}{pos:Pos}
theorem ag:PA X [] A7:=λ_ _ _ _ H Q I h=>KL #[[],H,I, .nil,h]
theorem aa (ha:PE X e te) (hr:PA X es t) (hs:Fb (e::es) X.env=(FM,eval e X.env)::Fb es X.env:=by rfl):PA X (e::es) (BP te t):=by
 intro pos pins s σ H Q I h;rw[hs];show Fl _ _ (spliced ((FM,eval e X.env)::Ie pos (Fb es X.env))) _ _ s;refine Ks (b9 (ha pins s σ H _ I h) λu s1 ⟨x,H1,I1,r1,q1⟩=>?_);exact b9 (hr pos pins s1 σ H1 _ I1 q1) λus s2 ⟨xs,H2,I2,r2,q2⟩=>#[x::xs,H2,I2, .cons r1 r2,q2]
def ajW (t:TA):TE:=λσ H Q=>t σ H λxs H1=>xs.length<=FE/\ ∀p,H1 p=Fa->Q (.ref p) (aF H1 p (.tup xs))
inductive BW (Q:VK) (xs:EA V) (H1:Hp):Prop
 |mk (_:xs.length<=FE) (_: ∀p,H1 p=Fa->Q (.ref p) (aF H1 p (.lst xs))):BW Q xs H1
def ajX (t:TA):TE:=λσ H Q=>t σ H (BW Q)
theorem zZ {x1} (h:PA X es t):PE X (.Tuple es x1 pos) (ajW t):=by
 intro pins s σ H Q I hq;refine wpAny_Tuple_spliced (b9 (h pos pins s σ H _ I hq) λus s1 ⟨xs,H1,I1,r,z,q⟩=>#[by rw[<-r.length];exact z,?_]);have hf:H1 s1.heap.objs.size=Fa:=I1.HH.fresh (E6 _);refine#[.ref s1.heap.objs.size,aF H1 s1.heap.objs.size (.tup xs),I1.laid (t':=s1.toks) (λb u e=>E2 _ e) (E6 _) ?_,FS,q _ hf];exact#[z,us,r,#[_,Gy _ rfl,FS,_,FS]]
theorem iG (h:PA X es t):PE X (.List es pos) (ajX t):=by
 intro pins s σ H Q I hq;refine wpAny_List_spliced (b9 (h pos pins s σ H _ I hq) λus s1 ⟨xs,H1,I1,r,z,q⟩=>#[by rw[<-r.length];exact z,?_]);have hf:H1 s1.heap.objs.size=Fa:=I1.HH.fresh (E6 _);refine#[.ref s1.heap.objs.size,aF H1 s1.heap.objs.size (.lst xs),I1.laid (t':=s1.toks) (λb u e=>E2 _ e) (E6 _) ?_,FS,q _ hf];exact#[z,us,0,r,Gy _ rfl]
end
theorem bS.mono {P:Fz}{w:Ga}{K:EF}{mg:Fh->ET EH}{base:Gn}{CX:pS}{j k:E1}{f:EJ}{fd:FL}{ps:EA Fh}{sp:Sp}(F:bS P w K mg base CX j f fd ps sp) (h:j<=k):
  bS P w K mg base CX k f fd ps sp:=#[F.len,λA outer s H args us vs Q E hr=>F.run A outer s H args us vs Q E (hr.mono h)]
theorem bS.imp {P:Fz}{w:Ga}{K:EF}{mg:Fh->ET EH}{base:Gn}{CX:pS}{k:E1}{f:EJ}{fd:FL}{ps:EA Fh}{sp sp':Sp}(F:bS P w K mg base CX k f fd ps sp)
  (h: ∀vs H Q E,sp' vs H Q E->sp vs H Q E):bS P w K mg base CX k f fd ps sp':=
 #[λvs H Q E q=>F.len vs H Q E (h _ _ _ _ q),λA outer s H args us vs Q E hr he hb hv hs=>F.run A outer s H args us vs Q E hr he hb hv (h _ _ _ _ hs)]
theorem vg.make {P:Fz}{w:Ga}{K:EF}{mg:Fh->ET EH}{base:Gn}{A:Gk}{s:EM}{H:Hp}(e:vg P w K mg base A outer s H) (C:EJ) (us:EA EH) (kw:EA (Fh×EH)):
  vg P w K mg base (A.under (.builtin "type.__call__" #[.ref C::us,kw])) outer s H:=#[by first|exact e.frames|(simpa [Rv,Code.envs,Si,pushEnvs] using e.frames),e.mod,e.bs,e.Ue,e.funs,e.VU,e.HH,e.bare]
section
variable {X:Cx}{pins:EA (EJ×Ih)}{σ:St}{H:Hp}{s s':EM}
theorem aE.ZT (I:aE X pins σ H s):vg X.prog X.w X.K X.mg X.base X.A X.stack s H:=
 #[I.ok.frames,I.ok.mod,I.bs,Fj I.ok.Ue I.sz,I.stack,I.PZ,I.HH,I.bare]
theorem aE.after {Q:VK}{u:EH}(I:aE X pins σ H s) (h:CE X.stack X.prog X.w H s Q u s'):EP X pins σ Q u s':=by
 obtain⟨v,H',os,bare,un,HH,r,q⟩:=h;obtain⟨hh,g,d,t,os'⟩:=s';obtain rfl:os'=s.os:=os;exact#[v,H',I.call (h':=hh) (g':=g) (d':=d) (t':=t) (ch:=[]) un HH bare (λb z=>E7 z (by simp)),r,q]
end
def Al (sp:Sp) (QL:EA V) (E:XK) (t:TA):TE:=λσ H Q=>t σ H λvs H1=>sp (vs++QL) H1 Q E
inductive zQ (C:EJ) (m:Fh) (R:V->Hp->Prop) (x:V) (H1:Hp):Prop
 |mk (a dx:EJ) (fs:EA (Fh×V)) (_:x= .ref a) (_:H1 a=EQ (.ins C dx fs)) (_:fs.lookup m=Fa) (_:R x H1):zQ C m R x H1
def Xo (C:EJ) (m:Fh) (sp:Sp) (QL:EA V) (E:XK) (ta:TE) (t:TA):TE:=λσ H Q=>ta σ H (zQ C m (λx H1=>t σ H1 λvs H2=>sp (x::(vs++QL)) H2 Q E))
def BY (C:EJ) (sp:Sp) (QL:EA V) (E:XK) (t:TA):TE:=λσ H Q=>t σ H λvs H1=> ∀x dx,H1 x=Fa->H1 dx=Fa->dx≠x->
 sp (.ref x::(vs++QL)) (aF (aF H1 dx (.own x)) x (.ins C dx [])) (λv H2=>v= .HZ/\Q (.ref x) H2) E
def dg (CX:pS) (X:Cx) (E:XK):Prop:= ∀(pins:EA (EJ×Ih)) (σ:St) (H:Hp) (s:EM) (e:EH) (s':EM),aE X pins σ H s->CX X.stack H s E e s'->X.xe e s'
section
variable {X:Cx}{CX:pS}{k:E1}{f C:EJ}{fd:FL}{ps:EA Fh}{sp:Sp}{QL:EA V}{ds:EA EH}{E:XK}{x m:Fh}{p pos Kx:Pos}{e o:G8}{es:EA G8}{ta:TE}{t:TA}
theorem qD {pins:EA (EJ×Ih)}{σ:St}{H:Hp}{s:EM}{Q:VK}(F:bS X.prog X.w X.K X.mg X.base CX k f fd ps sp) (hr:bW k X.A) (hb:gk X.K fd ps ds) (hd:aX QL ds) (hx:dg CX X E)
  (I:aE X pins σ H s) (r:aX vs us) (h:sp (vs++QL) H Q E):Fl (model X.prog X.w) X.A (call (.ref f) us) (EP X pins σ Q) X.xe s:=by
 have r2:aX (vs++QL) (us++ds):=r.append hd
 have hl:(us++ds).length=ps.length:=by rw[<-r2.length];exact F.len _ _ _ _ h
 refine P2 (Mu (F.run X.A X.stack s H #[us,[]] (us++ds) (vs++QL) Q E hr I.ZT (hb s us I.MI hl) r2 h) λr s' hq=>?_);cases r with
 |error e=>exact hx pins σ H s e s' I hq
 |ok fl=>
  cases fl with
  |ret u=>exact I.after hq
  |next=>exact HW hq
  |brk=>exact HW hq
  |cont=>exact HW hq
theorem aL (F:bS X.prog X.w X.K X.mg X.base CX k f fd ps sp) (hr:bW k X.A) (hg:Gl X x) (d:CD X.K X.mg x f fd ps) (hx:dg CX X E)
  (ha:PA X (e::es) t) (Rl:(x == ("__debug__":Fh))=FM:=by decide) (he:Fb (e::es) X.env=(FM,eval e X.env)::Fb es X.env:=by rfl) (Ma:(Ie pos (Fb es X.env)).any (·.1)=FM:=by rfl):
  PE X (.Call (.Name x p) (e::es) [] pos) (Al sp [] E t):=by
 intro pins s σ H Q I h;refine Je (gi I hg d.m ?_ Rl);refine Ki (h₀:=X.base) I.ok.mod.UQ d.k (b9 (ha pos pins s σ H _ I h) λus s1 ⟨vs,H1,I1,r,q⟩=>#[I1.MI,?_]) he Ma;exact qD F hr d.b .nil hx I1 r q
theorem cx (he:PE X o ta) (c:gw X.K C) (d:MD X.K C m f fd ps) (F:bS X.prog X.w X.K X.mg X.base CX k f fd ps sp) (hr:bW k X.A) (hx:dg CX X E) (ha:PA X (e::es) t)
  (JS:Fb (e::es) X.env=(FM,eval e X.env)::Fb es X.env:=by rfl) (Ma:(Ie pos (Fb es X.env)).any (·.1)=FM:=by rfl)
  (ht:eval (.Call (.Attribute o m Kx) (e::es) [] pos) X.env=(do
   let ov<-eval o X.env
   standAt Kx.atName
   let (f,first)<-holding [ov] (Ku ov m pl)
   MR pos f first (Ie pos (Fb (e::es) X.env)) (Kj pos (IE [] X.env))):=by rfl):
  PE X (.Call (.Attribute o m Kx) (e::es) [] pos) (Xo C m sp [] E ta t):=by
 intro pins s σ H Q I h;refine KN (pl:=pl) (b9 (he pins s σ H _ I h) λu s1 ⟨x,H1,I1,rx,a,dx,fs,ex,ea,l,q⟩=>?_) ht;subst ex;obtain rfl:u=Fq a:=rx;refine ow I1 ea c d.m l ?_;refine Ki (first:=[.ref a]) (h₀:=X.base) I.ok.mod.UQ d.m.kp (b9 (ha pos pins s1 σ H1 _ I1 q) λus s2 ⟨vs,H2,I2,r,q2⟩=>#[I2.MI,?_]) JS Ma
 exact qD (us:= .ref a::us) (vs:= .ref a::vs) F hr d.b .nil hx I2 (.cons rfl r) q2
theorem bQ (he:PE X o ta) (c:gw X.K C) (d:MD X.K C m f fd ps) (F:bS X.prog X.w X.K X.mg X.base CX k f fd ps sp) (hr:bW k X.A) (hx:dg CX X E)
  (ht:eval (.Call (.Attribute o m Kx) [] [] pos) X.env=(do
   let ov<-eval o X.env
   standAt Kx.atName
   let (f,first)<-holding [ov] (Ku ov m pl)
   MR pos f first (Ie pos (Fb [] X.env)) (Kj pos (IE [] X.env))):=by rfl):
  PE X (.Call (.Attribute o m Kx) [] [] pos) (Xo C m sp [] E ta A7):=by
 intro pins s σ H Q I h;refine KN (pl:=pl) (b9 (he pins s σ H _ I h) λu s1 ⟨x,H1,I1,rx,a,dx,fs,ex,ea,l,q⟩=>?_) ht;subst ex;obtain rfl:u=Fq a:=rx;refine ow I1 ea c d.m l ?_;exact NF (first:=[.ref a]) I1.MI d.m.kp (qD (us:=[.ref a]) (vs:=[.ref a]) F hr d.b .nil hx I1 (.cons rfl .nil) q)
theorem tw {pins:EA (EJ×Ih)}{σ:St}{H:Hp}{s:EM}{Q:VK}(M:Mk X.K C f) (F:bS X.prog X.w X.K X.mg X.base CX k f fd ps sp) (hr:bW (k+1) X.A) (hb:gk X.K fd ps ds) (hd:aX QL ds)
  (hx:dg CX X E) (I:aE X pins σ H s) (r:aX vs us)
  (h: ∀x dx,H x=Fa->H dx=Fa->dx≠x->sp (.ref x::(vs++QL)) (aF (aF H dx (.own x)) x (.ins C dx [])) (λv H2=>v= .HZ/\Q (.ref x) H2) E):
  Fl (model X.prog X.w) X.A (call (.ref C) us) (EP X pins σ Q) X.xe s:=by
 have hq:=h (s.heap.objs.size+1) s.heap.objs.size (I.HH.fresh (KH _)) (I.HH.fresh (E6 _)) (Gu (G6 _))
 have I2:=aE.made (C:=C) I
 have r2:aX (V.ref (s.heap.objs.size+1)::(vs++QL)) (Fq (s.heap.objs.size+1)::(us++ds)):= .cons rfl (r.append hd)
 have hl:(Fq (s.heap.objs.size+1)::us++ds).length=ps.length:=by
  have e:=r2.length;rw[F.len _ _ _ _ hq] at e;exact e.symm
 refine P2 (Ay (f:=f) I.MI M.makes M.init (beq_iff_eq.mp M.fn) (Mu (F.run _ X.stack _ _ #[Fq (s.heap.objs.size+1)::us,[]] (Fq (s.heap.objs.size+1)::(us++ds)) _ _ E (hr.make C us [])
  (I2.ZT.make C us []) (hb _ (Fq (s.heap.objs.size+1)::us) I2.MI hl) r2 hq) λr s' TR=>?_))
 cases r with
 |error e=>exact hx pins σ _ _ e s' I2 TR
 |ok fl=>
  cases fl with
  |ret u=>
   obtain⟨v,H',I3,rv,ev,q3⟩:=I2.after TR;subst ev;exact#[rv,#[V.ref (s.heap.objs.size+1),H',I3,FS,q3]]
  |next=>exact HW TR
  |brk=>exact HW TR
  |cont=>exact HW TR
theorem gX (M:Mk X.K C f) (F:bS X.prog X.w X.K X.mg X.base CX k f fd ps sp) (hr:bW (k+1) X.A) (hg:Gl X x) (hm:X.mg x=EQ (.ref C)) (hb:gk X.K fd ps ds) (hd:aX QL ds) (hx:dg CX X E)
  (ha:PA X (e::es) t) (Rl:(x == ("__debug__":Fh))=FM:=by decide) (he:Fb (e::es) X.env=(FM,eval e X.env)::Fb es X.env:=by rfl) (Ma:(Ie pos (Fb es X.env)).any (·.1)=FM:=by rfl):
  PE X (.Call (.Name x p) (e::es) [] pos) (BY C sp QL E t):=by
 intro pins s σ H Q I h;refine Je (gi I hg hm ?_ Rl);refine Ki (h₀:=X.base) I.ok.mod.UQ M.kp (b9 (ha pos pins s σ H _ I h) λus s1 ⟨vs,H1,I1,r,q⟩=>#[I1.MI,?_]) he Ma;exact tw M F hr hb hd hx I1 r q
theorem CP (M:Mk X.K C f) (F:bS X.prog X.w X.K X.mg X.base CX k f fd ps sp) (hr:bW (k+1) X.A) (hg:Gl X x) (hm:X.mg x=EQ (.ref C)) (hb:gk X.K fd ps ds) (hd:aX QL ds) (hx:dg CX X E)
  (Rl:(x == ("__debug__":Fh))=FM:=by decide):PE X (.Call (.Name x p) [] [] pos) (BY C sp QL E A7):=by
 intro pins s σ H Q I h;refine Je (gi I hg hm ?_ Rl);exact NF I.MI M.kp (tw (us:=[]) M F hr hb hd hx I .nil h)
end
structure az (N P:EA Fh) (sc:Scope):Prop where
 kind:sc.kind= .function
 co:sc.isCoroutine=FM
 gen:sc.isGenerator=FM
 nd:N.Nodup
 pre:N.take P.length=P
 par: ∀x∈P,sc.names.lookup x=EQ .local\/sc.names.lookup x=EQ .cell
 ZU: ∀y∈sc.names,y.2≠ .free
theorem pU {kindOf:Fh->ET Jq}{x:Fh} : ∀ {binds:EA (Fh×EH)}{m:Fh->ET EH},(∀v,(x,v)∉binds)->UM kindOf binds m x=m x
 |[],_,_=>rfl
 | (n,v)::r,m,h=>by
  unfold UM;rw[pU λw hw=>h w (EN _ hw)];split
  ·have:x≠n:=by rintro rfl;exact h v EO
   simp [this]
  ·rfl
theorem pB {kindOf:Fh->ET Jq}{x:Fh} : ∀ {binds:EA (Fh×EH)}{m:Fh->ET EH},(∀v,(x,v)∉binds)->UO kindOf binds m x=m x
 |[],_,_=>rfl
 | (n,v)::r,m,h=>by
  unfold UO;rw[pB λw hw=>h w (EN _ hw)];split
  ·rfl
  ·have:x≠n:=by rintro rfl;exact h v EO
   simp [this]
theorem pX {kindOf:Fh->ET Jq}{x:Fh}{v:EH} : ∀ {P:EA Fh}{vs:EA EH}{i:E1}{m:Fh->ET EH},P.Nodup->P[i]?=EQ x->vs[i]?=EQ v->kindOf x=EQ .local->
  UM kindOf (P.zip vs) m x=EQ v
 |[],_,_,_,_,h,_,_=>by simp at h
 |_::_,[],_,_,_,_,h,_=>by simp at h
 |p::P,w::vs,0,m,nd,h1,h2,hk=>by
  simp at h1 h2;subst h1;subst h2;show UM kindOf ((p,w)::P.zip vs) m p=_;unfold UM;rw[pU λv hv=>(FI.mp nd).1 (Kt hv).1,EL hk];simp
 |p::P,w::vs,i+1,m,nd,h1,h2,hk=>by
  show UM kindOf ((p,w)::P.zip vs) m x=_
  unfold UM;exact pX (i:=i) (FI.mp nd).2 (by simpa using h1) (by simpa using h2) hk
theorem pG {kindOf:Fh->ET Jq}{x:Fh}{v:EH} : ∀ {P:EA Fh}{vs:EA EH}{i:E1}{m:Fh->ET EH},P.Nodup->P[i]?=EQ x->vs[i]?=EQ v->kindOf x≠EQ .local->
  UO kindOf (P.zip vs) m x=EQ v
 |[],_,_,_,_,h,_,_=>by simp at h
 |_::_,[],_,_,_,_,h,_=>by simp at h
 |p::P,w::vs,0,m,nd,h1,h2,hk=>by
  simp at h1 h2;subst h1;subst h2;show UO kindOf ((p,w)::P.zip vs) m p=_;unfold UO;rw[pB λv hv=>(FI.mp nd).1 (Kt hv).1,EI hk];simp
 |p::P,w::vs,i+1,m,nd,h1,h2,hk=>by
  show UO kindOf ((p,w)::P.zip vs) m x=_
  unfold UO;exact pG (i:=i) (FI.mp nd).2 (by simpa using h1) (by simpa using h2) hk
def start (N:EA Fh) (vs:EA V):St:=vs.map EQ++Iz (N.length-vs.length) Fa
def fi (CX:pS) (P:Fz) (w:Ga) (K:EF) (mg:Fh->ET EH) (base:Gn) (N:EA Fh) (Gz:Fh) (scope:Scope) (f:EJ) (cd:EH) (A:Gk) (outer:EA Env) (s:EM) (H:Hp) (E:XK):Cx where
 prog:=P
 w:=w
 K:=K
 mg:=mg
 base:=base
 A:=A.deeper (Jf Gz scope s.heap.objs.size f cd)
 N:=N
 OZ:=s
 H_0:=H
 env:=Jf Gz scope s.heap.objs.size f cd
 outer:=outer
 stack:=Jf Gz scope s.heap.objs.size f cd::outer
 ex:=[]
 calm:=FB
 fn:=λ_=>FB
 pn:=[]
 xe:=λe s'=>Fl (model P w) (A.deeper (Jf Gz scope s.heap.objs.size f cd)) (leaving (Jf Gz scope s.heap.objs.size f cd) e) (λ_ s''=>CX outer H s E e s'') (λe' s''=>CX outer H s E e' s'') s'
theorem rQ {sc:Scope}{n:E1}{x:Fh}(h:sc.names.lookup x=EQ .cell): ∃c,(Hx n sc.names []).lookup x=EQ c:=by
 have q:=QV sc.names n [] (.inl h);exact Ka.mp q
theorem zg {CX:pS}{P:Fz}{w:Ga}{K:EF}{mg:Fh->ET EH}{base:Gn}{N ps:EA Fh}{Gz:Fh}{scope:Scope}{f:EJ}{cd:EH}{A:Gk}{outer:EA Env}{s s1:EM}{H:Hp}{E:XK}{us:EA EH}{vs:EA V}
  (S:az N ps scope) (hd:A.handled=Fa) (e0:vg P w K mg base A outer s H) (hl:vs.length=ps.length) (r:aX vs us)
  (x:InCallC s s.heap.objs.size (UM (Jf Gz scope s.heap.objs.size f cd).kindOf (ps.zip us) λ_=>Fa) (Hx (s.heap.objs.size+1) scope.names []) (UO (Jf Gz scope s.heap.objs.size f cd).kindOf (ps.zip us) λ_=>Fa) s1):
  aE (fi CX P w K mg base N Gz scope f cd A outer s H E) [] (start N vs) H s1:=by
 have Ma:ps.length<=N.length:=by have:=FN NP S.pre;rw[PR] at this;lia
 obtain⟨h1,tk,rfl,hk⟩:=x.done;have noA: ∀b:EJ,b∉(fi CX P w K mg base N Gz scope f cd A outer s H E).ex:=λb z=>E7 (show b∈([]:EA EJ) from z) (by simp)
 refine#[#[e0.mod,S.kind,FS,FS,E6 _,λy z c h1 h2=>?_,λy hy=>?_,λy c _ h=>?_,λ_=>hd,Gk.frames_deeper e0.frames, .inr #[FS,FS],λb z=>E7 z (noA b),e0.bs,e0.Ue,λb _ _=>noA b,λb z=>E7 z (noA b),e0.funs,e0.VU],
  rfl,e0.bare,Un.kept hk,#[_,x.toInCall.ns,λi y v h1 h2 h3=>?_],λy c h=>#[_,x.cell y c h],e0.HH.fresh (E6 _),λy c h=>?_,λp hp=>E7 (show p∈([]:EA (EJ×Ih)) from hp) (by simp),e0.HH.kept hk,?_]
 ·exact name_of_addr x.apart (Gg h1) (Gg h2)
 ·have hy:scope.names.lookup y=EQ .cell\/scope.names.lookup y=EQ .free:=hy
  rcases hy with hy|hy
  ·exact rQ hy
  ·exact E7 rfl (S.ZU _ (Gg hy))
 ·exact J6 (x.above y c (Gg h))
 ·have hi:i<vs.length:=by
   unfold start at h2;by_cases hi:i<vs.length
   ·exact hi
   ·rw[EA.getElem?_append_right (by simpa using hi)] at h2
    rw[Kz] at h2;split at h2<;>cases h2
  have ha:vs[i]?=EQ v:=by
   unfold start at h2;rw[QR (by simpa using hi),FQ] at h2;cases e:vs[i]? with
   |none=>rw[e] at h2;cases h2
   |some a=>rw[e] at h2;cases h2;rfl
  obtain⟨u,hu,rv⟩:=r.get ha;have hp:ps[i]?=EQ y:=by
   rw[<-S.pre,EA.getElem?_take_of_lt (by lia)];exact h1
  have ndP:ps.Nodup:=by rw[<-S.pre];exact S.nd.sublist (EA.take_sublist _ _)
  refine#[u,rv,?_];rcases S.par y (Gs hp) with k|k
  ·exact .inl #[k,pX ndP hp hu k]
  ·obtain⟨c,e⟩:=rQ (n:=s.heap.objs.size+1) k
   refine .inr #[.inl k,c,e,?_];have q:=x.cell y c e;rw[pG ndP hp hu (by show scope.names.lookup y≠_;rw[k];decide)] at q;exact q
 ·exact e0.HH.fresh (J6 (x.above y c (Gg h)))
 ·unfold start
  show _=N.length
  rw[Fc,EY,Ny];lia
theorem Xp {CX:pS}{P:Fz}{w:Ga}{K:EF}{mg:Fh->ET EH}{base:Gn}{k:E1}{f:EJ}{name Gz:Fh}{params:Arguments}{body:EA Stmt}{scope:Scope}{dV kV doc pm Gp ct oc:EH}{an od:ET EJ}
  {VV:IQ (ET EH)}{N ps:EA Fh}{sp:Sp}(lk:K.lookup f=EQ #[oc,od, .func (HB name Gz params body scope dV kV doc pm an Gp ct),VV]) (RG:KA K Gp Gz=FB) (S:az N ps scope)
  (len: ∀vs H Q E,sp vs H Q E->vs.length=ps.length)
  (Jc: ∀(A:Gk) (outer:EA Env) (s:EM) (H:Hp) (vs:EA V) (Q:VK) (E:XK),bW k (A.deeper (Jf Gz scope s.heap.objs.size f Gp))->sp vs H Q E->
   Bd (fi CX P w K mg base N Gz scope f Gp A outer s H E) body { nx:=λ_ H'=>Q .HZ H',rt:=Q } (start N vs) H):
  bS P w K mg base CX (k+1) f (HB name Gz params body scope dV kV doc pm an Gp ct) ps sp:=by
 refine#[len,λA outer s H args us vs Q E hr e0 hb r SR=>?_];have hl:=len _ _ _ _ SR;have KX:K.In s.heap:=e0.mod.UQ.keeps λb o e=>(e0.bs b o e).1
 have lim:s.heap.NoLimit:=e0.mod.nolimit.keeps λb o e=>(e0.bs b o e).1
 have aeV: ∀y∈ps.zip us,scope.names.lookup y.1=EQ .local\/(scope.names.lookup y.1=EQ .cell/\((Hx (s.heap.objs.size+1) scope.names []).lookup y.1).isSome=FB):=λ⟨n,v⟩ hy=>by
  rcases S.par n (Kt hy).1 with q|q
  ·exact .inl q
  ·exact .inr #[q,QV _ _ _ (.inl q)]
 refine codeAny_call_function hr.depth (KX _ _ lk) rfl S.co S.gen rfl (PySem.W.codeRec_of KX RG) (hb _ _ _ _ ?_);refine wpAny_newFunctionEnv_cells S.kind aeV λenv he s1 x=>?_;subst he;refine#[lim.keeps x.toInCall.keep,codeAny_func ?_];obtain⟨t,ht,hq⟩:=Jc A outer s H vs Q E (hr.deeper _) SR;have I:aE (fi CX P w K mg base N Gz scope f Gp A outer s H E) [] (start N vs) H s1:=zg S hr.hd e0 hl r x;refine HP (ht [] s1 (start N vs) H _ I hq) (λfl s' hs=>?_) λe s' hs=>hs;have eN: ∀ {σ':St}{H':Hp}{v:V}{u:EH},aE (fi CX P w K mg base N Gz scope f Gp A outer s H E) [] σ' H' s'->bh v u->Q v H'->CE outer P w H s Q u s':=
  λ{σ' H' v u} J rv q=>#[v,H',J.os,J.bare,J.base,J.HH,rv,q]
 cases fl with
 |ret u=>
  obtain⟨v,σ',H',J,rv,q⟩:=hs;exact eN J rv q
 |next=>
  obtain⟨σ',H',J,q⟩:=hs;exact eN (v:=V.HZ) (u:=Hn) J rfl q
 |brk=>
  obtain⟨_,_,_,q⟩:=hs;exact HW q
 |cont=>
  obtain⟨_,_,_,q⟩:=hs;exact HW q
section
variable {X:Cx}{x:Fh}{p pos:Pos}{e:G8}{es:EA G8}{t:TA}{id T:String}{r:EA V->Hp->VK->Prop}
def tCB (r:EA V->Hp->VK->Prop) (t:TA):TE:=λσ H Q=>t σ H λvs H1=>r vs H1 Q
theorem bF (hc:gF X (.builtin id) r) (hg:Gl X x) (hm:X.mg x=Fa) (hv:Kr x=EQ (.builtin id)) (ha:PA X (e::es) t) (hn:x≠"__name__":=by decide) (Rl:(x == ("__debug__":Fh))=FM:=by decide)
  (he:Fb (e::es) X.env=(FM,eval e X.env)::Fb es X.env:=by rfl) (Ma:(Ie pos (Fb es X.env)).any (·.1)=FM:=by rfl):PE X (.Call (.Name x p) (e::es) [] pos) (tCB r t):=by
 intro pins s σ H Q I h;refine Je (kX I hg hm hv ?_ hn Rl);exact NM (b9 (ha pos pins s σ H _ I h) λus s1 ⟨vs,H1,I1,r1,q1⟩=>hc pins s1 σ H1 vs us Q I1 r1 q1) he Ma
theorem iX (hc:gF X (.type T) r) (hg:Gl X x) (hm:X.mg x=Fa) (hv:Kr x=EQ (.type T)) (ha:PA X (e::es) t) (hn:x≠"__name__":=by decide) (Rl:(x == ("__debug__":Fh))=FM:=by decide)
  (he:Fb (e::es) X.env=(FM,eval e X.env)::Fb es X.env:=by rfl) (Ma:(Ie pos (Fb es X.env)).any (·.1)=FM:=by rfl):PE X (.Call (.Name x p) (e::es) [] pos) (tCB r t):=by
 intro pins s σ H Q I h;refine Je (kX I hg hm hv ?_ hn Rl);exact Jt (b9 (ha pos pins s σ H _ I h) λus s1 ⟨vs,H1,I1,r1,q1⟩=>hc pins s1 σ H1 vs us Q I1 r1 q1) he Ma
end
end L2
namespace HT
open PySem PyProof.Rows
section
variable {prog:Fz}{w:Ga}{A:Gk}{E:EH->EM->Prop}{s:EM}
def Sw (n d:E1):ET Int->E1
 |none=>d
 |some v=>if v<0 then(v+(n:Int)).toNat else min v.toNat n
theorem TU (n d k:E1):Sw n d (EQ (k:Int))=min k n:=by
 show(if(k:Int)<0 then((k:Int)+(n:Int)).toNat else min (k:Int).toNat n)=min k n
 rw[EI (by lia),Int.toNat_natCast]
end
end HT
namespace L2
open PySem PySem.Spec PyProof.Rows
abbrev TO:=St->Hp->(ET Int->Hp->Prop)->Prop
def PO (X:Cx) (e:ET G8) (t:TO):Prop:=
 ∀(pins:EA (EJ×Ih)) (s:EM) (σ:St) (H:Hp) (Q:ET Int->Hp->Prop),aE X pins σ H s->t σ H Q->
  Fl (model X.prog X.w) X.A (evalPart e X.env) (λu s'=> ∃o H',aE X pins σ H' s'/\IsPart u o/\Q o H') X.xe s
def aeW (t:TE):TO:=λσ H Q=>t σ H λx H1=> ∃i,x= .int i/\Q (EQ i) H1
section
variable {X:Cx}{e:G8}{te:TE}{lo hi:ET G8}{tl th:TO}{pos p2:Pos}
theorem i6 (h:PE X e te):PO X (EQ e) (aeW te):=by
 intro pins s σ H Q I hw;rw[evalPart_some];refine b9 (h pins s σ H _ I hw) λu s1 ⟨x,H1,I1,r1,q1⟩=>?_;obtain⟨i,rfl,q⟩:=q1;obtain⟨t,rfl⟩:=r1;exact#[EQ i,H1,I1, .int i t,q]
def SlR (X:Cx) (r:V->ET Int->ET Int->Hp->VK->Prop):Prop:=
 ∀(pins:EA (EJ×Ih)) (s:EM) (σ:St) (H:Hp) (x:V) (v vl vu:EH) (lo hi:ET Int) (sl:EJ) (Q:VK),aE X pins σ H s->bh x v->s.heap.IsSliceOf sl vl vu .none->IsPart vl lo->IsPart vu hi->r x lo hi H Q->
  ∃T id,Hg (.type T) "__getitem__"=pure (EQ (.builtin id))/\s.TypeIs v T/\Fl (model X.prog X.w) X.A (Sj v (.ref sl)) (EP X pins σ Q) X.xe s
def tSl (r:V->ET Int->ET Int->Hp->VK->Prop) (te:TE) (tl th:TO):TE:=λσ H Q=>te σ H λx H1=>tl σ H1 λl H2=>th σ H2 λu H3=>r x l u H3 Q
theorem og {r:V->ET Int->ET Int->Hp->VK->Prop}(hr:SlR X r) (he:PE X e te) (hl:PO X lo tl) (hu:PO X hi th):PE X (.Subscript e (.Slice lo hi Fa p2) pos) (tSl r te tl th):=by
 intro pins s σ H Q I h;refine Yo (b9 (he pins s σ H _ I h) λv s1 ⟨x,H1,I1,r1,q1⟩=>?_);refine wpAny_Slice (b9 (hl pins s1 σ H1 _ I1 q1) λvl s2 ⟨l,H2,I2,pl,q2⟩=>b9 (hu pins s2 σ H2 _ I2 q2) λvu s3 ⟨u,H3,I3,pu,q3⟩=>?_);rw[evalPart_none];refine Fx ?_;have I4:aE X pins σ H3 { s3 with heap:=s3.heap.push { cls:= .type "slice",data:= .fields [vl,vu, .none].toArray } } :=I3.kept (t':=s3.toks) λb ob q=>E2 _ q
 obtain⟨T,id,hT,ht,hg⟩:=hr pins { s3 with heap:=s3.heap.push { cls:= .type "slice",data:= .fields [vl,vu, .none].toArray } } σ H3 x v vl vu l u s3.heap.objs.size Q I4 r1 (aa8 ..) pl pu q3;show Fl (model X.prog X.w) X.A (T7 e (.Slice lo hi Fa p2) v (.ref s3.heap.objs.size)) (EP X pins σ Q) X.xe { s3 with heap:=s3.heap.push { cls:= .type "slice",data:= .fields [vl,vu, .none].toArray } };exact tail_any (ops:=[.ref s3.heap.objs.size,v]) ht hT hg (by with_unfolding_all rfl)
def uQ (xs:EA V) (lo hi:ET Int):EA V:=(xs.drop (HT.Sw xs.length 0 lo)).take (HT.Sw xs.length xs.length hi-HT.Sw xs.length 0 lo)
theorem rF (xs:EA V) (lo hi:ET Int):(uQ xs lo hi).length<=xs.length:=by
 unfold uQ;rw[PR,Lg];lia
end
def Xq (n:E1) (i:Int):ET E1:=if 0<=i then(if i<n then EQ i.toNat else Fa) else if-(n:Int)<=i then EQ (i+n).toNat else Fa
def zq {α:Type}(xs:EA α) (i:Int):ET α:=(Xq xs.length i).bind λj=>xs[j]?
theorem DC {i:Int}(h:Xq n i=EQ j):seqIndex? i n=EQ j/\j<n/\ -(n:Int)<=i/\i<n:=by
 unfold Xq at h;by_cases h0:0<=i
 ·rw[EL h0] at h
  by_cases h1:i<n
  ·rw[EL h1] at h
   have e:i.toNat=j:=E5 h;exact#[by rw[seqIndex_of h0 h1,e],by lia,by lia,h1]
  ·rw[EI h1] at h;cases h
 ·rw[EI h0] at h
  by_cases h1: -(n:Int)<=i
  ·rw[EL h1] at h
   have e:(i+n).toNat=j:=E5 h;exact#[by rw[seqIndex_neg (by lia) h1,e],by lia,h1,by lia]
  ·rw[EI h1] at h;cases h
theorem qd {α:Type}{xs:EA α}{i:Int}{v:α}(h:zq xs i=EQ v): ∃j,seqIndex? i xs.length=EQ j/\xs[j]?=EQ v/\j<xs.length/\ -(xs.length:Int)<=i/\i<xs.length:=by
 unfold zq at h;cases e:Xq xs.length i with
 |none=>rw[e] at h;cases h
 |some j=>
  rw[e] at h;obtain⟨h1,h2,h3,h4⟩:=DC e;exact#[j,h1,h,h2,h3,h4]
theorem bj {α:Type}{xs:EA α}{j:E1}{v:α}(h:xs[j]?=EQ v):zq xs (j:Int)=EQ v:=by
 have hj:j<xs.length:=(FF.mp h).1
 have e:Xq xs.length (j:Int)=EQ j:=by
  unfold Xq;rw[EL (by lia),EL (by lia)];simp
 unfold zq;rw[e];exact h
theorem d8 {α:Type}(xs:EA α) (v:α):zq (xs++[v]) (-1)=EQ v:=by
 have hl:(xs++[v]).length=xs.length+1:=by simp
 have e:Xq (xs++[v]).length (-1)=EQ xs.length:=by
  unfold Xq;rw[hl,EI [01],EL (by lia)]
  congr 1
  lia
 unfold zq;rw[e];show(xs++[v])[xs.length]?=EQ v;simp
def qV (b:G8):Prop:= ∀o i,subscripted b FM o i=operate [o,i] (Sj o i)
def IxR (X:Cx) (r:R2):Prop:=
 ∀(JM slice:G8) (pins:EA (EJ×Ih)) (s:EM) (σ:St) (H:Hp) (x y:V) (v u:EH) (Q:VK),aE X pins σ H s->bh x v->bh y u->r x y H Q->
  subscripted slice FM v u=operate [v,u] (Sj v u)->Fl (model X.prog X.w) X.A (T7 JM slice v u) (EP X pins σ Q) X.xe s
def MtR (X:Cx) (id:String) (r:V->EA V->Hp->VK->Prop):Prop:=
 ∀(pins:EA (EJ×Ih)) (s:EM) (σ:St) (H:Hp) (x:V) (xs:EA V) (v:EH) (us:EA EH) (Q:VK),aE X pins σ H s->bh x v->aX xs us->r x xs H Q->
  Fl (model X.prog X.w) X.A (call (.builtin id) (v::us)) (EP X pins σ Q) X.xe s
section
variable {X:Cx}{a b:G8}{ta tb:TE}{pos:Pos}
theorem cK {r:R2}(hr:IxR X r) (ha:PE X a ta) (hb:PE X b tb) (hs:qV b):PE X (.Subscript a b pos) (tOp r ta tb):=by
 intro pins s σ H Q I h;exact Yo (ZO ha hb I h λv u s2 x y H2 I2 rx ry q=>hr a b pins s2 σ H2 x y v u Q I2 rx ry q (hs _ _))
inductive AW (K:EF) (x:V) (y:V) (H:Hp) (Q:VK):Prop
 |mk (p:EJ) (xs:EA V) (i:Int) (v:V) (_:x= .ref p) (_:y= .int i) (_:cO K H p xs) (_:zq xs i=EQ v) (_:Q v H):AW K x y H Q
inductive aeX (K:EF) (x:V) (y:V) (H:Hp) (Q:VK):Prop
 |mk (p:EJ) (xs:EA V) (i:Int) (v:V) (_:x= .ref p) (_:y= .int i) (_:rh K H p xs) (_:zq xs i=EQ v) (_:Q v H):aeX K x y H Q
inductive aeY (x:V) (y:V) (H:Hp) (Q:VK):Prop
 |mk (z:Fh) (i:Int) (c:E1) (_:x= .str z) (_:y= .int i) (_:z.length<=FE) (_:zq z.cps.toList i=EQ c) (_:Q (.str ⟨[c].toArray⟩) H):aeY x y H Q
theorem bB:IxR X (AW X.K):=by
 intro JM slice pins s σ H x y v u Q I rx ry h hs;obtain⟨p,xs,i,z,rfl,rfl,hq,he,q⟩:=h;cases rx;obtain⟨t,rfl⟩:=ry;obtain⟨Hc,r,pl,hz⟩:=I.list hq;obtain⟨j,h1,h2,h3,h4,h5⟩:=qd he;obtain⟨w,ew,S9⟩:=r.get h2;have hl:=r.length;have hn:=qC;have eN:EP X pins σ Q w s:=#[z,H,I,S9,q];by_cases h0:0<=i
 ·have hj:i.toNat=j:=by
   rw[seqIndex_of h0 h5] at h1;exact E5 h1
  exact item_listR pl.isList h0 (by lia) (by rw[hj];simpa using ew) eN hs
 ·have hj:(i+(Hc.toArray.size:Int)).toNat=j:=by
   rw[seqIndex_neg (by lia) h4] at h1;rw[F8,<-hl];exact E5 h1
  exact UX (x:=w) pl.isList.typeIs slot_list_getitem.lookup
   (wpAny_getItem_list_neg (Q:=λr s'=>r=w/\EP X pins σ Q r s') pl.isList (by lia) (by rw[F8]<;>lia) (by lia) (by rw[hj];simpa using ew) #[FS,eN]) hs
theorem ZV:IxR X (aeX X.K):=by
 intro JM slice pins s σ H x y v u Q I rx ry h hs;obtain⟨p,xs,i,z,rfl,rfl,hq,he,q⟩:=h;cases rx;obtain⟨t,rfl⟩:=ry;obtain⟨Hc,r,pl,hz⟩:=I.tuple hq;obtain⟨j,h1,h2,h3,h4,h5⟩:=qd he;obtain⟨w,ew,S9⟩:=r.get h2;have hl:=r.length;have hn:=qC;have eN:EP X pins σ Q w s:=#[z,H,I,S9,q];exact UX (x:=w) pl.typeIs slot_tuple_getitem.lookup
  (getItem_tuple (j:=j) (Q:=λr s'=>r=w/\EP X pins σ Q r s') pl (by lia) (by lia) (by rw[F8,<-hl];exact h1) (by simpa using ew) #[FS,eN]) hs
theorem ZW:IxR X aeY:=by
 intro JM slice pins s σ H x y v u Q I rx ry h hs;obtain⟨z,i,c,rfl,rfl,hz,he,q⟩:=h;obtain⟨t,rfl⟩:=rx;obtain⟨t',rfl⟩:=ry;obtain⟨j,h1,h2,h3,h4,h5⟩:=qd he;have hl:z.cps.toList.length=z.length:=by simp [Fh.length]
 rw[hl] at h1 h4 h5;have hn:=qC;exact tail_any (Yp s z t) slot_str_getitem.lookup (getItem_str (c:=c) (by
  have e1:decide (i< -(2 ^ 63:Int))=FM:=FA (by lia)
  have e2:decide (i ≥ 2 ^ 63)=FM:=FA (by lia);rw[e1,e2,Oo]) (by rw[h1];simpa using h2) #[.str #[[c].toArray],H,I.tok _,#[_,FS],q]) hs
theorem qz (lo hi:ET Int) (n:E1):(L4 lo hi Fa n).1=((HT.Sw n 0 lo:E1):Int)/\(L4 lo hi Fa n).2.1=((HT.Sw n n hi:E1):Int)/\(L4 lo hi Fa n).2.2=1:=by
 refine#[?_,?_,FS]
 ·cases lo with
  |none=>simp [L4,HT.Sw]
  |some i=>
   simp only[L4,HT.Sw,UE,show(1:Int)>0 by decide,Sk];by_cases h:i<0
   ·simp only[h,Sk]<;>lia
   ·simp only[h,L5]<;>lia
 ·cases hi with
  |none=>simp [L4,HT.Sw]
  |some i=>
   simp only[L4,HT.Sw,UE,show(1:Int)>0 by decide,Sk];by_cases h:i<0
   ·simp only[h,Sk]<;>lia
   ·simp only[h,L5]<;>lia
theorem oR (Hc:EA EH) (lo hi:ET Int):slicePick Hc.toArray lo hi Fa=((Hc.drop (HT.Sw Hc.length 0 lo)).take (HT.Sw Hc.length Hc.length hi-HT.Sw Hc.length 0 lo)).toArray:=by
 obtain⟨h1,h2,h3⟩:=qz lo hi Hc.toArray.size;unfold slicePick;rw[h1,h2,h3];simp only[sliceRange_one,pick_run,F8]<;>rfl
def ajY (K:EF):V->ET Int->ET Int->Hp->VK->Prop:=λx lo hi H Q=> ∃a xs,x= .ref a/\cO K H a xs/\ ∀p,H p=Fa->Q (.ref p) (aF H p (.lst (uQ xs lo hi)))
theorem qv:SlR X (ajY X.K):=by
 intro pins s σ H x v vl vu lo hi sl Q I rx hs pl pu h;obtain⟨a,xs,rfl,hx,q⟩:=h;cases rx;obtain⟨Hc,r,ht,hz⟩:=I.list hx;have MJ:=r.length;refine#["list",_,slot_list_getitem.lookup,ht.isList.typeIs,?_];refine wpAny_getItem_list_slice ht.isList hs pl pu .none (by simp) ?_ (by rw[F8]<;>lia);rw[oR,<-MJ];refine#[.ref s.heap.objs.size,_,I.laid (t':=s.toks) (o:= .lst (uQ xs lo hi)) (λb ob q=>E2 _ q) (E6 _) ?_,FS,q _ (I.HH.fresh (E6 _))];exact#[Fj (rF xs lo hi) hz,_,0,(r.drop (HT.Sw xs.length 0 lo)).take (HT.Sw xs.length xs.length hi-HT.Sw xs.length 0 lo),Gy _ rfl]
def jk:V->FR
 | .HZ=>FB
 | .bl _=>FB
 | .int _=>FB
 | .str _=>FB
 |_=>FM
def DQ:V->V->FR
 | .HZ, .HZ=>FB
 | .bl a, .bl b=>a == b
 | .bl a, .int b=>(if a then 1 else 0) == b
 | .int a, .bl b=>a == (if b then 1 else 0)
 | .int a, .int b=>a == b
 | .str a, .str b=>a == b
 |_,_=>FM
theorem ZX {A:Gk}{s:EM}{y x:V}{u v:EH}(ry:bh y u) (rx:bh x v) (fy:jk y=FB) (fx:jk x=FB):SeqAt.EqAt A s u v (DQ y x):=by
 cases y with
 |HZ=>
  cases ry;cases x with
  |HZ=>cases rx;exact SeqAt.EqAt.same _
  |bl b=>cases rx;exact SeqAt.EqAt.none_bool b
  |int b=>obtain⟨t,rfl⟩:=rx;exact SeqAt.EqAt.none_int b t
  |str b=>obtain⟨t,rfl⟩:=rx;exact SeqAt.EqAt.none_str b t
  |_=>exact E7 (show FM=FB from fx) EE
 |bl a=>
  cases ry;cases x with
  |HZ=>cases rx;exact SeqAt.EqAt.bool_none a
  |bl b=>cases rx;exact SeqAt.EqAt.bool_bool a b
  |int b=>obtain⟨t,rfl⟩:=rx;exact SeqAt.EqAt.bool_int a b t
  |str b=>obtain⟨t,rfl⟩:=rx;exact SeqAt.EqAt.bool_str a b t
  |_=>exact E7 (show FM=FB from fx) EE
 |int a=>
  obtain⟨t',rfl⟩:=ry;cases x with
  |HZ=>cases rx;exact SeqAt.EqAt.int_none a t'
  |bl b=>cases rx;exact SeqAt.EqAt.int_bool a t' b
  |int b=>obtain⟨t,rfl⟩:=rx;exact SeqAt.EqAt.int_int a t' b t
  |str b=>obtain⟨t,rfl⟩:=rx;exact Rt a t' b t
  |_=>exact E7 (show FM=FB from fx) EE
 |str a=>
  obtain⟨t',rfl⟩:=ry;cases x with
  |HZ=>cases rx;exact SeqAt.EqAt.str_none a t'
  |bl b=>cases rx;exact SeqAt.EqAt.str_bool a t' b
  |int b=>obtain⟨t,rfl⟩:=rx;exact Ru a t' b t
  |str b=>obtain⟨t,rfl⟩:=rx;exact SeqAt.EqAt.str_str a t' b t
  |_=>exact E7 (show FM=FB from fx) EE
 |_=>exact E7 (show FM=FB from fy) EE
def vG (x:V) (u:EH):FR:=match u with
 | .none=>DQ .HZ x
 | .bool b=>DQ (.bl b) x
 | .int i _=>DQ (.int i) x
 | .str z _=>DQ (.str z) x
 |_=>FM
theorem zA {x y:V}{u:EH}(r:bh y u) (f:jk y=FB):vG x u=DQ y x:=by
 cases y with
 |HZ=>cases r;rfl
 |bl b=>cases r;rfl
 |int i=>obtain⟨t,rfl⟩:=r;rfl
 |str z=>obtain⟨t,rfl⟩:=r;rfl
 |_=>exact E7 (show FM=FB from f) EE
theorem kt {x:V} : ∀ {xs:EA V}{us:EA EH},aX xs us->xs.all jk=FB->us.any (vG x)=xs.any λy=>DQ y x
 |_,_, .nil,_=>rfl
 |y::xs,u::us, .cons r t,f=>by
  rw[MO,Gh] at f;rw[MP,MP,zA r f.1,kt t f.2]
theorem iO {A:Gk}{s:EM}{x:V}{v:EH}(rx:bh x v) (fx:jk x=FB): ∀ {xs:EA V}{us:EA EH},aX xs us->xs.all jk=FB-> ∀u∈us,SeqAt.EqAt A s u v (vG x u)
 |_,_, .nil,_=>λu hu=>by cases hu
 |y::xs,u::us, .cons r t,f=>λu' hu=>by
  rw[MO,Gh] at f;rcases EW.mp hu with rfl|hu
  ·rw[zA r f.1];exact ZX r rx f.1 fx
  ·exact iO rx fx t f.2 u' hu
def tZ (x:V) (xs:EA V):FR:=xs.any λy=>DQ y x
inductive rIn (K:EF) (neg:FR) (x:V) (y:V) (H:Hp) (Q:VK):Prop
 |mk (p:EJ) (xs:EA V) (_:y= .ref p) (_:(cO K H p xs\/rh K H p xs)) (_:jk x=FB) (_:xs.all jk=FB) (_:Q (.bl (if neg then !tZ x xs else tZ x xs)) H):rIn K neg x y H Q
theorem kT:kW X (HL .In) (rIn X.K FM):=by
 intro pins s σ H x y v u Q I rx ry h;obtain⟨p,xs,rfl,hq,fx,fs,q⟩:=h;cases ry;rcases hq with hq|hq
 ·obtain⟨Hc,r,pl,hz⟩:=I.list hq
  refine SeqAt.in_listAt (vG x) pl.isList (λw hw=>iO rx fx r fs w (by simpa using hw)) #[.bl _,H,I,FS,?_];rw[show Hc.toArray.any (vG x)=Hc.any (vG x) by simp,kt r fs];exact q
 ·obtain⟨Hc,r,pl,hz⟩:=I.tuple hq
  refine SeqAt.in_tupleAt (vG x) pl (λw hw=>iO rx fx r fs w (by simpa using hw)) #[.bl _,H,I,FS,?_];rw[show Hc.toArray.any (vG x)=Hc.any (vG x) by simp,kt r fs];exact q
theorem jW:kW X (HL .NotIn) (rIn X.K FB):=by
 intro pins s σ H x y v u Q I rx ry h;obtain⟨p,xs,rfl,hq,fx,fs,q⟩:=h;cases ry;rcases hq with hq|hq
 ·obtain⟨Hc,r,pl,hz⟩:=I.list hq
  refine SeqAt.notIn_listAt (vG x) pl.isList (λw hw=>iO rx fx r fs w (by simpa using hw)) #[.bl _,H,I,FS,?_];rw[show Hc.toArray.any (vG x)=Hc.any (vG x) by simp,kt r fs];exact q
 ·obtain⟨Hc,r,pl,hz⟩:=I.tuple hq
  refine SeqAt.notIn_tupleAt (vG x) pl (λw hw=>iO rx fx r fs w (by simpa using hw)) #[.bl _,H,I,FS,?_];rw[show Hc.toArray.any (vG x)=Hc.any (vG x) by simp,kt r fs];exact q
inductive aeZ (K:EF) (xs:EA V) (H:Hp) (Q:VK):Prop
 |mk (p:EJ) (ys:EA V) (_:xs=[.ref p]) (_:(cO K H p ys\/rh K H p ys)) (_:Q (.int ys.length) H):aeZ K xs H Q
theorem bM:gF X (.builtin "len") (aeZ X.K):=by
 intro pins s σ H xs us Q I r h;obtain⟨p,ys,rfl,hq,q⟩:=h;obtain⟨u,rfl,rx⟩:=oj r;cases rx;have hn:=qC;rcases hq with hq|hq
 ·obtain⟨Hc,r',pl,hz⟩:=I.list hq
  have MJ:=r'.length;exact Calls.call_len_list pl.isList (by simp only[F8]<;>lia) #[.int ys.length,H,I.tok _,#[s.toks+1,by rw[F8,MJ]],q]
 ·obtain⟨Hc,r',pl,hz⟩:=I.tuple hq
  have MJ:=r'.length;exact len_tuple pl (by simp only[F8]<;>lia) #[.int ys.length,H,I.tok _,#[s.toks+1,by rw[F8,MJ]],q]
theorem gn:gF X (.type "tuple") (λxs H Q=> ∃p ys,xs=[.ref p]/\((cO X.K H p ys/\ ∀l,H l=Fa->Q (.ref l) (aF H l (.tup ys)))\/(rh X.K H p ys/\Q (.ref p) H))):=by
 intro pins s σ H xs us Q I r h;obtain⟨p,ys,rfl,h⟩:=h;obtain⟨u,rfl,rx⟩:=oj r;cases rx;rcases h with⟨hq,q⟩|⟨hq,q⟩
 ·obtain⟨Hc,r',pl,hz⟩:=I.list hq
  have MJ:=r'.length;refine call_tuple_list pl.isList (λh' kp=>?_) (by simp only[F8]<;>lia)
  have I1:aE X pins σ H { s with heap:=h' } :=I.kept (t':=s.toks) kp
  have I2:aE X pins σ (aF H h'.objs.size (.tup ys)) { s with heap:=h'.push { cls:= .type "tuple",data:= .seq Hc.toArray } } :=
   I1.laid (t':=s.toks) (λb o e=>E2 _ e) (E6 _) (show cw X.prog X.w _ _ _ (.tup ys) from#[hz,Hc,r',IsTup.new _ _])
  exact#[.ref h'.objs.size,_,I2,FS,q _ (I1.HH.fresh (E6 _))]
 ·obtain⟨Hc,r',pl,hz⟩:=I.tuple hq
  exact call_tuple_same pl #[.ref p,H,I,FS,q]
def tyV (K:EF) (T:String) (x:V) (H:Hp):Prop:=match x with
 | .str _=>T="str"
 | .int _=>T="int"
 | .ref p=>(T="list"/\ ∃xs,cO K H p xs)\/(T="tuple"/\ ∃o,K.lookup p=EQ o/\o.cls= .type "tuple"/\o.dict=Fa)\/
   (T="dict"/\((∃aC,H p=EQ (.dK aC))\/ ∃aC,H p=EQ (.dT aC)))\/(T="set"/\ ∃S n,H p=EQ (.set S n))
 |_=>False
theorem A6 {pins:EA (EJ×Ih)}{σ:St}{H:Hp}{s:EM}{T:String}{x:V}{v:EH}(I:aE X pins σ H s) (r:bh x v) (ty:tyV X.K T x H):
  s.TypeIs v T/\ ∀a,v= .ref a-> ∃ob,s.heap.get? a=EQ ob/\ob.dict=Fa:=by
 cases x with
 |str z=>
  obtain⟨t,rfl⟩:=r;cases (show T="str" from ty);exact#[Yp s z t,λ_ e=>nomatch e]
 |int i=>
  obtain⟨t,rfl⟩:=r;cases (show T="int" from ty);exact#[typeIs_int s i t,λ_ e=>nomatch e]
 |ref p=>
  cases r;rcases ty with⟨rfl,xs,hq⟩|⟨rfl,o,hk,hc,hd⟩|⟨rfl,hk⟩|⟨rfl,S,n,hk⟩
  ·obtain⟨Hc,_,pl,_⟩:=I.list hq
   refine#[pl.isList.typeIs,λa e=>?_];cases e;obtain⟨o,n,e,c,hd,_⟩:=pl;exact#[o,e,hd]
  ·refine#[#[o,I.MI p o hk,hc],λa e=>?_]
   cases e;exact#[o,I.MI _ o hk,hd]
  ·have z: ∃o,s.heap.get? p=EQ o/\o.ExactDict:=by
    rcases hk with⟨aC,hk⟩|⟨aC,hk⟩
    ·obtain⟨_,_,_,_,o,_,_,e,ex,_⟩:=I.HH p _ hk
     exact#[o,e,ex]
    ·obtain⟨_,_,_,_,o,_,_,e,ex,_⟩:=I.HH p _ hk
     exact#[o,e,ex]
   obtain⟨o,e,ex⟩:=z;refine#[#[o,e,ex.1],λa e2=>?_];cases e2;exact#[o,e,ex.2.1]
  ·obtain⟨o,_,_,_,e,ex,_⟩:=I.HH p _ hk
   refine#[#[o,e,ex.1],λa e2=>?_];cases e2;exact#[o,e,ex.2.1]
 |_=>exact HW ty
def ajZ (K:EF) (T:String) (r:V->EA V->Hp->VK->Prop) (to:TE):TE:=λσ H Q=>to σ H λx H1=>tyV K T x H1/\r x [] H1 Q
inductive ae0 (K:EF) (T:String) (R:V->Hp->Prop) (x:V) (H1:Hp):Prop
 |mk (_:tyV K T x H1) (_:R x H1):ae0 K T R x H1
def tBM (K:EF) (T:String) (r:V->EA V->Hp->VK->Prop) (to:TE) (t:TA):TE:=λσ H Q=>to σ H (ae0 K T (λx H1=>t σ H1 λxs H2=>r x xs H2 Q))
variable {o e:G8}{es:EA G8}{to:TE}{t:TA}{name:Fh}{Kx K5:Pos}{T id:String}{r:V->EA V->Hp->VK->Prop}
theorem Be (pa:PlainAttrs T) (slot:Slot T name id) (hty:typeOf (.builtin id)=pure (.type "method_descriptor")) (hm:MtR X id r) (ho:PE X o to)
  (Qj:HM o name X.env (eval o X.env)=eval o X.env:=by rfl) (Qk:(Kx.endLine == K5.line)=FB:=by rfl):PE X (.Call (.Attribute o name Kx) [] [] K5) (ajZ X.K T r to):=by
 intro pins s σ H Q I h;refine wpAny_Call_method0_late Qj Qk (b9 (ho pins s σ H _ I h) λv s1 ⟨x,H1,I1,r1,ty,q1⟩=>?_);obtain⟨h1,h2⟩:=A6 I1 r1 ty;exact#[T,id,pa,slot,hty,h1,h2,KJ rfl (PySem.evalArgs_none (hm pins s1 σ H1 x [] v [] Q I1 r1 .nil q1))]
theorem wj (pa:PlainAttrs T) (slot:Slot T name id) (hty:typeOf (.builtin id)=pure (.type "method_descriptor")) (hm:MtR X id r) (ho:PE X o to) (ha:PA X (e::es) t)
  (Qj:HM o name X.env (eval o X.env)=eval o X.env:=by rfl)
  (aj0:((Ie K5 (Fb (e::es) X.env)).all (λx=>!x.1)&&(Kj K5 (IE [] X.env)).all (λx=>x.1.isSome)
   &&decide ((e::es).length+([]:EA Keyword).length+(if([]:EA Keyword).isEmpty then 0 else 1)<30))=FB:=by rfl)
  (Qk:(Kx.endLine == K5.line)=FB:=by rfl) (hs:Fb (e::es) X.env=(FM,eval e X.env)::Fb es X.env:=by rfl) (ZY:(Ie K5 (Fb es X.env)).any (·.1)=FM:=by rfl):
  PE X (.Call (.Attribute o name Kx) (e::es) [] K5) (tBM X.K T r to t):=by
 intro pins s σ H Q I h;refine wpAny_Call_method_late Qj aj0 Qk rfl (b9 (ho pins s σ H _ I h) λv s1 ⟨x,H1,I1,r1,ty,q1⟩=>?_);obtain⟨h1,h2⟩:=A6 I1 r1 ty;refine#[T,id,pa,slot,hty,h1,h2,?_];have hA:=ha K5 pins s1 σ H1 _ I1 q1;rw[hs] at hA ⊢;refine KJ (by show(FM||(Ie K5 (Fb es X.env)).any (·.1))=FM;rw[ZY]<;>rfl) (NC ?_)
 exact b9 hA λus s2 ⟨vs,H2,I2,r2,q2⟩=>hm pins s2 σ H2 x vs v us Q I2 r1 r2 q2
end
def MtM (X:Cx) (id:String) (r:V->EA V->Hp->VK->Prop):Prop:=
 ∀(pins:EA (EJ×Ih)) (s:EM) (σ:St) (H:Hp) (x:V) (xs:EA V) (v:EH) (us:EA EH) (Q:VK),aE X pins σ H s->bh x v->aX xs us->r x xs H Q->
  Fl (model X.prog X.w) X.A (call (.builtin id) (v::us)) (EP X pins σ Q) X.xe s
theorem aX.one: ∀ {x:V}{us:EA EH},aX [x] us-> ∃u,us=[u]/\bh x u
 |_,_, .cons r .nil=>#[_,FS,r]
theorem aX.zero: ∀ {us:EA EH},aX [] us->us=[]
 |_, .nil=>rfl
theorem aX.dropLast {xs:EA V}(h:aX xs us):aX xs.dropLast us.dropLast:=by
 induction h with
 |nil=>exact .nil
 |cons r t ih=>
  cases t with
  |nil=>exact .nil
  |cons q t'=>exact .cons r ih
theorem uJ {α:Type}(l:EA α):l.eraseIdx (l.length-1)=l.dropLast:=by
 induction l with
 |nil=>rfl
 |cons a r ih=>
  cases r with
  |nil=>rfl
  |cons b r=>
   have e:(a::b::r).length-1=((b::r).length-1)+1:=by
    have h1:(a::b::r).length=r.length+2:=rfl
    have h2:(b::r).length=r.length+1:=rfl;lia
   rw[e,EA.eraseIdx_cons_succ,ih]
   all_goals rfl
section
variable {X:Cx}{pins:EA (EJ×Ih)}{σ:St}{H:Hp}{s:EM}{l b:EJ}{xs ys zs:EA V}
theorem aE.ae1 {Hc its':EA EH}{f:IQ EH->IQ EH}(I:aE X pins σ H s) (hH:H l=EQ (.lst xs))
  (e:s.heap.get? l=EQ { cls:= .type "list",data:= .seq Hc.toArray n }) (hf:f Hc.toArray=its'.toArray) (hv:aX ys its') (hz:ys.length<=FE):
  aE X pins σ (aF H l (.lst ys)) { s with heap:=s.heap.update l (Ih.mapSeq f),toks:=t' } :=by
 have q:=PySem.IsL.update e f;rw[hf] at q;refine I.write (x:=l) (e:=l) (by rw[hH];exact trivial) (.inl rfl) (λb' u hb hu=>(GA s.heap (Ih.mapSeq f) (HS hb)).trans hu) #[_,q] ?_
 exact#[hz,its',_,hv,q]
theorem aE.ZZ (I:aE X pins σ H s) (hH:H l=EQ (.lst xs)):xs.length<=FE/\ ∃(Hc:EA EH) (n:E1),aX xs Hc/\xs.length=Hc.length/\s.heap.get? l=EQ { cls:= .type "list",data:= .seq Hc.toArray n } :=by
 obtain⟨z,Hc,n,r,e⟩:=I.HH l _ hH;exact#[z,Hc,n,r,r.length,e]
end
section
variable {X:Cx}
inductive w9 (x:V) (vs:EA V) (H:Hp) (Q:VK):Prop
 |mk (l:EJ) (xs:EA V) (y:V) (_:x= .ref l) (_:vs=[y]) (_:H l=EQ (.lst xs)) (_:xs.length<FE) (_:Q .HZ (aF H l (.lst (xs++[y])))):w9 x vs H Q
theorem iR:MtM X "list.append" w9:=by
 intro pins s σ H x vs v us Q I rx rv h;obtain⟨l,xs,y,rfl,rfl,hH,hz,q⟩:=h;cases rx;obtain⟨u,rfl,ru⟩:=rv.one;obtain⟨z,Hc,n,r,hl,e⟩:=I.ZZ hH;refine call_meets F.slot_list_append #[_,e,FS] F.entry_list_append (F.args_list_append_2 _ _) (PySem.list_append l Hc.toArray n u (by rw[F8];lia)) #[e,?_];refine#[.HZ,_,I.ae1 (its':=Hc++[u]) hH e (by simp) (r.append (.cons ru .nil)) ?_,FS,q];rw[Fc,IT];lia
def aj1:V->EA V->Hp->VK->Prop:=λx vs H Q=> ∃l xs y,x= .ref l/\vs=[]/\H l=EQ (.lst xs)/\xs[xs.length-1]?=EQ y/\Q y (aF H l (.lst xs.dropLast))
theorem Bq:MtM X "list.pop" aj1:=by
 intro pins s σ H x vs v us Q I rx rv h;obtain⟨l,xs,y,rfl,rfl,hH,hy,q⟩:=h;cases rx;have hus:=rv.zero;subst hus;obtain⟨z,Hc,n,r,hl,e⟩:=I.ZZ hH;obtain⟨u,hu,ru⟩:=r.get hy;have hy':Hc.toArray[Hc.toArray.size-1]?=EQ u:=by
  show Hc.toArray[Hc.length-1]?=EQ u
  rw[<-Sb,<-hl];exact hu
 refine call_meets F.slot_list_pop #[_,e,FS] F.entry_list_pop (F.args_list_pop_1 _) (MeetsSeq.list_pop_last l Hc.toArray n u hy' (by rw[F8];lia)) #[e,?_];refine#[y,_,I.ae1 (its':=Hc.dropLast) hH e ?_ r.dropLast ?_,ru,q]
 ·show Hc.toArray.eraseIdxIfInBounds (Hc.toArray.size-1)=Hc.dropLast.toArray
  rw[F8,EA.eraseIdxIfInBounds_toArray,uJ]
 ·rw[EA.length_dropLast]
  lia
end
section
variable {prog:Fz}{w:Ga}{A:Gk}{E:EH->EM->Prop}{s:EM}
set_option maxRecDepth 100000 in
end
theorem aX.ints: ∀ {ns:EA Int}{us:EA EH},aX (ns.map V.int) us->IntsAre us ns
 |[],us,h=>by
  rw[Ph] at h;cases h;exact IntsAre.nil
 |n::ns,us,h=>by
  rw[Fe] at h;cases h with
  |cons r t=>
   obtain⟨k,rfl⟩:=r;exact IntsAre.cons n k (aX.ints t)
theorem aX.bls: ∀ {bs:EA FR}{us:EA EH},aX (bs.map V.bl) us->us=bs.map L7
 |[],us,h=>by
  rw[Ph] at h;cases h
  rfl
 |b::bs,us,h=>by
  rw[Fe] at h;cases h with
  |cons r t=>
   cases r;rw[aX.bls t,Fe]
theorem aX.ae2 {a:EJ}(r:aX [V.ref a] us):us=[Fq a]:=by
 cases r with
 |cons r t=>
  cases t;cases r
  rfl
section
variable {prog:Fz}{w:Ga}{A:Gk}{E:EH->EM->Prop}{s:EM}{l:EJ}{Hc:EA EH}{ns:EA Int}{Q:EH->EM->Prop}
theorem Dc (hh:A.handled=Fa) (hl:s.heap.IsList l Hc.toArray) (hi:IntsAre Hc ns)
  (h: ∀h' tk t',(∀b o,s.heap.get? b=EQ o->h'.get? b=EQ o)->Q (.int ns.sum t') { s with heap:=h',toks:=tk }):Fl (model prog w) A (call (.builtin "sum") [.ref l]) Q E s:=by
 obtain⟨xs,e⟩:=hi.allInts.items;have hn:numsOf (Kk xs).toList=ns:=by rw[<-e];exact hi.numsOf
 rw[nums_intItems] at hn;rw[e] at hl;refine PySem.sum_intListG hh hl λh' tk t' hk=>?_;have:=h h' tk t' hk;rw[preSum_eq,II (by simp),hn];exact this
end
section
variable {X:Cx}
def aj2 (K:EF):EA V->Hp->VK->Prop:=λvs H Q=> ∃(a:EJ) (ns:EA Int),vs=[V.ref a]/\cO K H a (ns.map V.int)/\Q (.int ns.sum) H
theorem Z0 (hc:X.calm=FB):gF X (.builtin "sum") (aj2 X.K):=by
 intro pins s σ H vs us Q I r h;obtain⟨a,ns,rfl,hs,q⟩:=h;obtain⟨Hc,rv,hl,_⟩:=I.list hs;rw[aX.ae2 r];exact Dc (I.ok.hd hc) hl.isList rv.ints λh' tk t' hk=>#[.int _,H,I.kept hk,#[_,FS],q]
end
theorem zP {prog:Fz}{w:Ga}{A:Gk}{E:EH->EM->Prop}{s:EM}{l:EJ}{Q:EH->EM->Prop}(hl:s.heap.IsList l items)
  (h: ∀s₂:EM,s₂= { s with heap:=s.heap.push { cls:= .type "list_iterator",data:= .fields [.ref l, .int 0 0].toArray } } ->
   (s₂.heap.IsListIter s.heap.objs.size l 0/\s₂.heap.IsList l items)->l≠s.heap.objs.size->Q (.ref s.heap.objs.size) s₂):Fl (model prog w) A (pyIter (.ref l)) Q E s:=by
 have TQ:l<s.heap.objs.size:=by obtain⟨_,e,_⟩:=hl;exact Fn e
 exact wpAny_pyIter_list hl (h _ rfl #[#[_,Gy _ rfl,FS,FS],hl.push _] (Gu TQ))
theorem rC {prog:Fz}{w:Ga}{A:Gk}{bs:EA FR}{Hc:EA EH}(e:Hc=bs.map L7):
  TruthOf prog w A (λi v=>Hc.toArray[i]?=EQ v) (λi=>bs.getD i FM):=λi v s Q E hv hq=>by
 have hv':Hc[i]?=EQ v:=by simpa using hv
 rw[e,FQ] at hv';obtain⟨b,hb,rfl⟩:=FG.mp hv';have hg:bs.getD i FM=b:=by rw[HX,hb]<;>rfl
 have TR:Q (bs.getD i FM) s:=hq;rw[hg] at TR;exact Ic TR
theorem pZ: ∀bs:EA FR,(IS bs.length).all (λi=>bs.getD i FM)=bs.all id
 |[]=>rfl
 |b::bs=>by
  rw[EZ,EA.range_succ_eq_map,MO,Sn,MO,<-pZ bs]
  all_goals rfl
section
variable {X:Cx}
def aj3 (K:EF):EA V->Hp->VK->Prop:=λvs H Q=> ∃(a:EJ) (bs:EA FR),vs=[V.ref a]/\cO K H a (bs.map V.bl)/\Q (.bl (bs.all id)) H
theorem Z1 (hc:X.calm=FB):gF X (.builtin "all") (aj3 X.K):=by
 intro pins s σ H vs us Q I r h;obtain⟨a,bs,rfl,hs,q⟩:=h;obtain⟨Hc,rv,hl,_⟩:=I.list hs;rw[aX.ae2 r];have hb:=rv.bls;refine call_all_walk (zP hl.isList λs₂ e2 st hne=>?_);subst e2;refine#[_,_,_,_,_,_,_,FS,Walks.list (A:=X.A.in1) (I.ok.hd hc) _ a hne Hc.toArray,st,rC hb,λh' tk hk=>?_];refine#[.bl _,H,I.kept λb o eo=>hk b o (λZ2=>?_) (E2 _ eo),?_,q]
 ·rcases EW.mp Z2 with e1|Z2
  ·exact E7 (e1▸Fn eo) (Hq _)
  ·cases Z2
 ·show L7 _=L7 _
  rw[<-pZ,hb,F8,EY]
end
abbrev CI (h:Gn) (c:EJ) (v:ET EH):Prop:=h.IsCell c v
def aj4 (scope sc:Scope):Scope:=
 { scope with names:=scope.names.map λ(n,k)=>if(k == .free&&sc.kind == .function&&sc.names.lookup n == EQ .cell) then(n, .cell) else(n,k) }
def bV (cells:EA (Fh×EJ)):EA (Fh×Jq)->EA (Fh×EJ)->EA (Fh×EJ)
 |[],acc=>acc
 | (n,k)::r,acc=>if k == .free then bV cells r ((n,(cells.lookup n).getD 0)::acc) else bV cells r acc
theorem ko (env:Env) (f:Fh×Jq->EA (Fh×EJ)->Sem (ForInStep (EA (Fh×EJ))))
  (hf: ∀n k c,f (n,k) c=if k == .free then(do let a<-cellOf env n;pure (.yield ((n,a)::c))) else pure (.yield c)):
  ∀(names:EA (Fh×Jq)) (acc:EA (Fh×EJ)),(∀y∈names,y.2= .free-> ∃c,env.cells.lookup y.1=EQ c)->forIn names acc f=pure (bV env.cells names acc)
 |[],acc,_=>by rw[QI];rfl
 | (n,k)::r,acc,h=>by
  rw[V7,hf];have ih:=λacc=>ko env f hf r acc λy hy=>h y (EN _ hy)
  unfold bV;by_cases hk:(k == KY)=FB
  ·rw[EL hk,EL hk]
   obtain⟨c,hc⟩:=h (n,k) EO (by simpa using hk);have e:cellOf env n=pure c:=by unfold cellOf;rw[hc]
   rw[e];have e2:(env.cells.lookup n).getD 0=c:=by rw[hc];rfl
   rw[e2];exact ih _
  ·rw[EI hk,EI hk]
   exact ih _
theorem vE {scope:Scope}{env:Env}(h: ∀y∈scope.names,y.2= .free-> ∃c,env.cells.lookup y.1=EQ c):closureFor scope env=pure (bV env.cells scope.names []):=by
 simp only[closureFor];rw[ko env _ (λn k c=>rfl) scope.names [] h]
 rfl
theorem jE {α:Type} : ∀ {l:EA (Fh×α)}{n:Fh}{c:α},(n,c)∈l-> ∃c',l.lookup n=EQ c'
 | (k,v)::r,n,c,h=>by
  rw[Jr];cases hb:n == k with
  |true=>exact#[_,FS]
  |false=>
   rcases EW.mp h with e|h
   ·cases e;simp at hb
   ·exact jE h
theorem f9 {cells:EA (Fh×EJ)} : ∀ {names:EA (Fh×Jq)}{acc:EA (Fh×EJ)}{n:Fh}{c:EJ},(n,c)∈bV cells names acc->(n,c)∈acc\/((n, .free)∈names/\c=(cells.lookup n).getD 0)
 |[],_,_,_,h=> .inl h
 | (m,k)::r,acc,n,c,h=>by
  unfold bV at h;split at h
  ·rename_i hk
   have hk:k= .free:=by simpa using hk
   rcases f9 h with h|⟨h1,h2⟩
   ·rcases EW.mp h with e|h
    ·cases e;exact .inr #[hk▸EO,FS]
    ·exact .inl h
   ·exact .inr #[EN _ h1,h2]
  ·rcases f9 h with h|⟨h1,h2⟩
   ·exact .inl h
   ·exact .inr #[EN _ h1,h2]
theorem iy {cells:EA (Fh×EJ)} : ∀ {names:EA (Fh×Jq)}{acc:EA (Fh×EJ)}{p:Fh×EJ},p∈acc->p∈bV cells names acc
 |[],_,_,h=>h
 | (m,k)::r,acc,p,h=>by
  unfold bV;split
  ·exact iy (EN _ h)
  ·exact iy h
theorem iJ {cells:EA (Fh×EJ)} : ∀ {names:EA (Fh×Jq)}{acc:EA (Fh×EJ)}{n:Fh},(n, .free)∈names->(n,(cells.lookup n).getD 0)∈bV cells names acc
 | (m,k)::r,acc,n,h=>by
  unfold bV;rcases EW.mp h with e|h
  ·cases e
   exact iy EO
  ·split
   ·exact iJ h
   ·exact iJ h
theorem gO: ∀ {names:EA (Fh×Jq)}{h:Gn}{acc:EA (Fh×EJ)}{x:Fh}{c:EJ},(x,c)∈Hx h.objs.size names acc->
  (x,c)∈acc\/((x, .cell)∈names/\h.objs.size<=c/\CI (MN h names) c Fa)
 |[],_,_,_,_,h=> .inl h
 | (n,k)::r,h,acc,x,c,hm=>by
  unfold Hx at hm;unfold MN;split at hm
  ·rename_i hk
   rw[EL hk];have hk:k= .cell:=by simpa using hk
   rw[<-Hf h { cls:= .type "cell",data:= .cell Fa }] at hm;rcases gO hm with hm|⟨h1,h2,h3⟩
   ·rcases EW.mp hm with e|hm
    ·cases e
     exact .inr #[hk▸EO,E6 _,_,Of r _ _ _ (Gy _ rfl),FS]
    ·exact .inl hm
   ·rw[Hf] at h2
    exact .inr #[EN _ h1,KS h2,h3]
  ·rename_i hk
   rw[EI hk];rcases gO hm with hm|⟨h1,h2,h3⟩
   ·exact .inl hm
   ·exact .inr #[EN _ h1,h2,h3]
theorem iT: ∀ {names:EA (Fh×Jq)}{n:E1}{acc:EA (Fh×EJ)}{p:Fh×EJ},p∈acc->p∈Hx n names acc
 |[],_,_,_,h=>h
 | (m,k)::r,n,acc,p,h=>by
  unfold Hx;split
  ·exact iT (EN _ h)
  ·exact iT h
theorem kM: ∀ {names:EA (Fh×Jq)}{n:E1}{acc:EA (Fh×EJ)}{x:Fh},(x, .cell)∈names-> ∃c,(x,c)∈Hx n names acc
 | (m,k)::r,n,acc,x,h=>by
  unfold Hx;rcases EW.mp h with e|h
  ·cases e
   exact#[n,iT EO]
  ·split
   ·exact kM h
   ·exact kM h
theorem li: ∀ {names:EA (Fh×Jq)}{h:Gn}{acc:EA (Fh×EJ)}{x y:Fh}{c:EJ},(∀p∈acc,p.2<h.objs.size)->(∀x y c,(x,c)∈acc->(y,c)∈acc->x=y)->
  (x,c)∈Hx h.objs.size names acc->(y,c)∈Hx h.objs.size names acc->x=y
 |[],_,_,_,_,_,_,hi,h1,h2=>hi _ _ _ h1 h2
 | (n,k)::r,h,acc,x,y,c,hl,hi,h1,h2=>by
  unfold Hx at h1 h2;split at h1
  ·rename_i hk
   rw[EL hk] at h2;rw[<-Hf h { cls:= .type "cell",data:= .cell Fa }] at h1 h2;refine li (h:=h.push _) (λp hp=>?_) (λx y c a b=>?_) h1 h2
   ·rw[Hf]
    rcases EW.mp hp with rfl|hp
    ·exact G6 _
    ·exact IC (hl p hp)
   ·rcases EW.mp a with e|a<;>rcases EW.mp b with e'|b
    ·cases e;cases e';rfl
    ·cases e;exact E7 (hl _ b) (Hq _)
    ·cases e';exact E7 (hl _ a) (Hq _)
    ·exact hi _ _ _ a b
  ·rename_i hk
   rw[EI hk] at h2;exact li hl hi h1 h2
theorem sC {M:Model}{A:Gk}{E:EH->EM->Prop}{s:EM}{scope:Scope}{globals:EJ}{closure:EA (Fh×EJ)}{Gz:Fh}{func:ET EJ}{code:EH}{around:Env}{builtins:EJ}{Q:Env->EM->Prop}
  (h:Q (newEnv scope s.heap.objs.size globals (Hx (s.heap.objs.size+1) scope.names closure) Gz func code (EQ around) builtins)
   { s with heap:=MN (s.heap.push { cls:= .type "dict",data:= .dict [].toArray }) scope.names }):
  Fl M A (newFunctionEnv scope globals closure [] Gz func code (EQ around) builtins) Q E s:=by
 simp only[newFunctionEnv,Tr,Sk];refine E3 (wpAny_alloc ?_);refine E3 (wpAny_layCells _ (λn k c=>rfl) scope.names closure _ _ ?_);rw[show({ s with heap:=s.heap.push { cls:= .type "dict",data:= .dict [].toArray } } :EM).heap.objs.size=s.heap.objs.size+1 from Hf ..];rw[QI];exact E3 (Fx (Fx h))
theorem ip {sc:Scope} : ∀ {names:EA (Fh×Jq)}{x:Fh}{k:Jq},
  (names.map λ(n,k)=>if(k == KY&&sc.kind == .function&&sc.names.lookup n == EQ .cell) then(n,Qr) else(n,k)).lookup x=EQ k->
  ∃k',names.lookup x=EQ k'/\(k=k'\/(k'= .free/\k= .cell))
 |[],_,_,h=>by simp at h
 | (n,k₀)::r,x,k,h=>by
  have ih:= @ip sc r x k
  have h':IM x ((if(k₀ == KY&&sc.kind == .function&&sc.names.lookup n == EQ .cell)=FB then(n,Qr) else(n,k₀))::(r.map _))=EQ k:=h
  cases hx:x == n with
  |true=>
   simp only[Jr,hx];by_cases hc:(k₀ == KY&&sc.kind == .function&&sc.names.lookup n == EQ .cell)=FB
   ·rw[EL hc] at h'
    simp only[Jr,hx] at h';cases h';simp only[Gh,beq_iff_eq] at hc;exact#[k₀,FS, .inr #[hc.1.1,FS]]
   ·rw[EI hc] at h'
    simp only[Jr,hx] at h';cases h';exact#[_,FS, .inl rfl]
  |false=>
   simp only[Jr,hx];by_cases hc:(k₀ == KY&&sc.kind == .function&&sc.names.lookup n == EQ .cell)=FB
   ·rw[EL hc] at h'
    simp only[Jr,hx] at h';exact ih h'
   ·rw[EI hc] at h'
    simp only[Jr,hx] at h';exact ih h'
structure wu (N:EA Fh) (sc scope:Scope) (own:EA (Fh×E1)):Prop where
 kind:scope.kind= .function
 uniq: ∀y∈scope.names,scope.names.lookup y.1=EQ y.2
 ix: ∀p∈own,N[p.2]?=EQ p.1
 free: ∀y∈scope.names,y.2= .free->sc.names.lookup y.1=EQ .cell\/sc.names.lookup y.1=EQ .free
 own: ∀y∈scope.names,y.2= .local\/y.2= .cell->y.1∈own.map (·.1)\/y.1∉N
def gU (σ:St):EA E1->St
 |[]=>σ
 |v::vs=>(gU σ vs).set v Fa
theorem iE (σ:St): ∀vs:EA E1,(gU σ vs).length=σ.length
 |[]=>rfl
 |v::vs=>by unfold gU;rw[EA.length_set,iE σ vs]
theorem lc {σ:St}{i:E1}{x:V} : ∀ {vs:EA E1},(gU σ vs)[i]?=EQ (EQ x)->σ[i]?=EQ (EQ x)/\i∉vs
 |[],h=>#[h,by simp]
 |v::vs,h=>by
  unfold gU at h;by_cases hi:v=i
  ·subst hi
   by_cases hv:v<(gU σ vs).length
   ·rw[M8 hv] at h;cases h
   ·rw[Ig (by simpa using hv)] at h;cases h
  ·rw[NN hi] at h
   obtain⟨h1,h2⟩:=lc h;exact#[h1,by simp only[EW,Vg];exact#[λe=>hi e.symm,h2]]
abbrev Cx.Sx (X:Cx) (s:EM) (H:Hp) (scope:Scope) (Kw:Env) (fp:EA EJ):Cx:= { X with OZ:=s,H_0:=H,env:=Kw,outer:=X.stack,ex:=fp,fn:=λx=>scope.names.lookup x == EQ .cell,pn:=[],xe:=λ_ _=>False }
section
variable {X:Cx}{pins:EA (EJ×Ih)}{σ:St}{H:Hp}{s:EM}
theorem r8 {scope:Scope}{own:EA (Fh×E1)}{fp:EA EJ}(I:aE X pins σ H s) (ok:wu X.N X.env.scope scope own) (hN:X.N.Nodup) (hfp: ∀b∈fp,oV X pins H b/\b<s.heap.objs.size):
  aE (X.Sx s H scope (L6 scope (Hx (s.heap.objs.size+1) scope.names (bV X.env.cells scope.names [])) s.heap.objs.size X.env) fp) [] (gU σ (own.map (·.2))) H { s with heap:=MN (s.heap.push { cls:= .type "dict",data:= .dict [].toArray }) scope.names } :=by
 have QQ: ∀y∈scope.names,y.2= .free-> ∃c,X.env.cells.lookup y.1=EQ c:=λy hy e=>by
  rcases ok.free y hy e with k|k
  ·exact I.ok.has _ (.inl k)
  ·exact I.ok.has _ (.inr k)
 generalize RY:L6 scope (Hx (s.heap.objs.size+1) scope.names (bV X.env.cells scope.names [])) s.heap.objs.size X.env=Kw;have kp: ∀b o,s.heap.get? b=EQ o->(MN (s.heap.push { cls:= .type "dict",data:= .dict [].toArray }) scope.names).get? b=EQ o:=λb o e=>Of _ _ _ _ (E2 _ e)
 have hL:Kw.locals=s.heap.objs.size:=by rw[<-RY];rfl
 have Z3:Kw.cells=Hx (s.heap.objs.size+1) scope.names (bV X.env.cells scope.names []):=by rw[<-RY];rfl
 have hsc:Kw.scope=aj4 scope X.env.scope:=by rw[<-RY];rfl
 rw[<-Hf s.heap { cls:= .type "dict",data:= .dict [].toArray }] at Z3;have cm: ∀ {y c},(y,c)∈bV X.env.cells scope.names []->X.env.cells.lookup y=EQ c/\c<s.heap.objs.size:=λ{y c} hm=>by
  rcases f9 hm with hm|⟨h1,rfl⟩
  ·cases hm
  ·obtain⟨c,hc⟩:=QQ _ h1 rfl
   rw[hc];obtain⟨w,z⟩:=I.cell _ _ hc;exact#[FS,z.lt]
 have mem: ∀ {y c},Kw.cells.lookup y=EQ c->(X.env.cells.lookup y=EQ c/\c<s.heap.objs.size)\/(s.heap.objs.size+1<=c/\CI (MN (s.heap.push { cls:= .type "dict",data:= .dict [].toArray }) scope.names) c Fa):=λ{y c} e=>by
  rw[Z3] at e;rcases gO (Gg e) with hm|⟨_,h2,h3⟩
  ·exact .inl (cm hm)
  ·rw[Hf] at h2;exact .inr #[h2,h3]
 have look: ∀ {y},scope.names.lookup y=EQ .free-> ∃c,Kw.cells.lookup y=EQ c/\X.env.cells.lookup y=EQ c:=λ{y} hl=>by
  have hy:(y,KY)∈scope.names:=Gg hl;obtain⟨c',e'⟩:=jE (iT (names:=scope.names) (n:=(s.heap.push { cls:= .type "dict",data:= .dict [].toArray }).objs.size) (iJ (cells:=X.env.cells) (acc:=[]) hy));rw[<-Z3] at e';refine#[c',e',?_];rw[Z3] at e';rcases gO (Gg e') with hm|⟨h1,_,_⟩
  ·exact(cm hm).1
  ·have:=ok.uniq _ h1
   rw[hl] at this;cases this
 have okB:(X.Sx s H scope Kw fp).Ok:=by
  refine#[I.ok.mod,by show Kw.scope.kind=_;rw[hsc];exact ok.kind,by show Kw.globals=_;rw[<-RY];exact I.ok.glob,by show Kw.builtins=_;rw[<-RY];exact I.ok.blt,by show s.heap.objs.size<=Kw.locals;rw[hL];exact E6 _,
   λy z c e1 e2=>?_,λy hy=>?_,λy c z e=>?_,I.ok.hd,I.ok.frames, .inl rfl,λb hb=>#[?_,λy c e z=>?_],I.bs,Fj I.ok.Ue I.sz,λb o e hb=>?_,λb hb z=>?_,I.stack,I.PZ]
  ·have e1:Kw.cells.lookup y=EQ c:=e1
   have e2:Kw.cells.lookup z=EQ c:=e2;rw[Z3] at e1 e2;refine li (λp hp=>?_) (λy z c a b=>I.ok.inj y z c (cm a).1 (cm b).1) (Gg e1) (Gg e2)
   rw[Hf];exact IC (cm (y:=p.1) (c:=p.2) hp).2
  ·show∃c,Kw.cells.lookup y=EQ c
   have key: ∀k,Kw.kindOf y=EQ k->(k= .cell\/k= .free)-> ∃c,Kw.cells.lookup y=EQ c:=λk hk Z4=>by
    unfold Env.kindOf at hk;rw[hsc] at hk;obtain⟨k',e,r⟩:=ip hk;have:k'= .cell\/k'= .free:=by
     rcases r with rfl|⟨rfl,_⟩
     ·exact Z4
     ·exact .inr rfl
    rcases this with rfl|rfl
    ·obtain⟨c,hm⟩:=kM (n:=(s.heap.push { cls:= .type "dict",data:= .dict [].toArray }).objs.size) (acc:=bV X.env.cells scope.names []) (Gg e)
     obtain⟨c',e'⟩:=jE hm;exact#[c',by rw[Z3];exact e']
    ·obtain⟨c,h1,_⟩:=look e
     exact#[c,h1]
   rcases hy with hy|hy
   ·exact key _ hy (.inl rfl)
   ·exact key _ hy (.inr rfl)
  ·have z:(scope.names.lookup y == EQ Qr)=FB:=z
   have z:scope.names.lookup y=EQ .cell:=by simpa using z
   have e:Kw.cells.lookup y=EQ c:=e;rw[Z3] at e;rcases gO (Gg e) with hm|⟨_,h2,_⟩
   ·rcases f9 hm with hm|⟨h1,_⟩
    ·cases hm
    ·have q:=ok.uniq _ h1
     rw[z] at q;cases q
   ·rw[Hf] at h2
    exact KS h2
  ·show b≠Kw.locals
   rw[hL];exact Gu (hfp b hb).2
  ·have e:Kw.cells.lookup y=EQ c:=e
   rcases mem e with⟨h1,_⟩|⟨h1,_⟩
   ·exact(hfp b hb).1.2.2.2.2.1 y c h1 z
   ·have h2:s.heap.objs.size+1<=b:=by rw[<-z];exact h1
    exact E7 (Fv (hfp b hb).2 (KS h2)) (Hq _)
  ·rcases(hfp b hb).1.2.2.2.1 with z|z
   ·exact I.ok.RV b o e z
   ·exact E7 (Fv (Fn e) (Fj I.ok.Ue z)) (Hq _)
  ·rcases EW.mp (I.Rk b z) with z|z
   ·exact(hfp b hb).1.2.1 z
   ·exact(hfp b hb).1.2.2.1 z
 refine#[okB,FS,I.bare,Un.kept kp,#[λ_=>Fa,?_,λi y av e1 e2 e3=>?_],λy c e=>?_,?_,λy c e=>?_,λp hp=>?_,I.HH.kept kp,by rw[iE];exact I.len]
 ·show Gn.Ns _ Kw.locals _
  rw[hL];exact Gn.Ns.keeps (Gn.Ns.new ..) λb o e=>Of _ _ _ _ e
 ·obtain⟨e2,hne⟩:=lc e2
  have Rx:scope.names.lookup y=EQ .free/\(Kw.kindOf y=EQ .cell\/Kw.kindOf y=EQ .free):=by
   have key: ∀k,Kw.scope.names.lookup y=EQ k->k= .local\/k= .cell\/k= .free->scope.names.lookup y=EQ .free/\(Kw.kindOf y=EQ .cell\/Kw.kindOf y=EQ .free):=λk hk Z4=>by
    have hk0:=hk;rw[hsc] at hk;obtain⟨k',e,r⟩:=ip hk
    have no: ¬(k'= .local\/k'= .cell):=λhh=>by
     rcases ok.own _ (Gg e) hh with e'|e'
     ·obtain⟨p,hp,hpy⟩:=KQ.mp e'
      have e3:=ok.ix p hp
      have:p.1=y:=hpy;rw[this] at e3;exact hne (KQ.mpr #[p,hp,nB hN e3 e1])
     ·exact e' (Gs e1)
    rcases r with rfl|⟨rfl,rfl⟩
    ·rcases Z4 with rfl|rfl|rfl
     ·exact E7 (.inl rfl) no
     ·exact E7 (.inr rfl) no
     ·exact#[e, .inr hk0]
    ·exact#[e, .inl hk0]
   have e3:oH Kw.scope y:=e3;rcases e3 with e3|e3|e3
   ·exact key _ e3 (.inl rfl)
   ·exact key _ e3 (.inr (.inl rfl))
   ·exact key _ e3 (.inr (.inr rfl))
  obtain⟨m,hn,hl⟩:=I.loc;have aj5:oH X.env.scope y:=(ok.free _ (Gg Rx.1) rfl).elim (λk=> .inr (.inl k)) (λk=> .inr (.inr k))
  obtain⟨w,r,q⟩:=hl i y av e1 e2 aj5;refine#[w,r, .inr #[Rx.2,?_]];obtain⟨c,h1,h2⟩:=look Rx.1;rcases q with⟨k,_⟩|⟨_,c',e',z⟩
  ·have k:X.env.scope.names.lookup y=EQ .local:=k
   rcases ok.free _ (Gg Rx.1) rfl with k'|k'<;>rw[show X.env.scope.names.lookup y=_ from k'] at k<;>cases k
  ·rw[h2] at e';cases e'
   exact#[c,h1,z.keeps kp]
 ·have e:Kw.cells.lookup y=EQ c:=e
  rcases mem e with⟨h1,_⟩|⟨_,z⟩
  ·obtain⟨w,z⟩:=I.cell y c h1
   exact#[w,z.keeps kp]
  ·exact#[_,z]
 ·show H Kw.locals=Fa
  rw[hL];exact I.HH.fresh (E6 _)
 ·have e:Kw.cells.lookup y=EQ c:=e
  rcases mem e with⟨h1,_⟩|⟨h1,_⟩
  ·exact I.LG y c h1
  ·exact I.HH.fresh (KS h1)
 ·exact E7 (show p∈([]:EA (EJ×Ih))++[] from hp) (by simp)
theorem Z5 {E:EH->EM->Prop}{xs:EA V}{y:V}{v:EH}{Q:EH->EM->Prop}(I:aE X pins σ H s) (hD:H D=EQ (.lst xs)) (hz:xs.length<FE) (r:bh y v)
  (h: ∀s',aE X pins σ (aF H D (.lst (xs++[y]))) s'->Q .none s'):Fl (model X.prog X.w) X.A (call (.builtin "list.append") [.ref D,v]) Q E s:=by
 obtain⟨hz',Hc,n,ri,e⟩:=I.HH D _ hD;have hl:=ri.length;refine append_at (hsz:=by rw[F8];lia) e λh' sb QP=>?_;refine h { s with heap:=h' } (I.write (t':=s.toks) (by rw[hD];trivial) (.inl rfl) (λb u hb q=>(sb.2 b hb).trans q) #[_,QP] #[by rw[Fc];exact hz,Hc++[v],n+1,ri.append (.cons r .nil),?_]);rw[QP];simp
def PTs (X:Cx) (ifs:EA G8) (t:TT):Prop:=
 ∀(pins:EA (EJ×Ih)) (s:EM) (σ:St) (H:Hp) (Q:FR->Hp->Prop),aE X pins σ H s->t σ H Q->
  Fl (model X.prog X.w) X.A (forIn ifs FB λc r=>if r=FB then do let ok<-isTrue c X.env (eval c X.env);pure (MQ ok) else pure (MQ r)) (TP X pins σ Q) X.xe s
def Z6:TT:=λ_ H Q=>Q FB H
theorem w6:PTs X [] Z6:=λ_ _ _ H _ I h=>wpAny_tests_nil #[H,I,h]
end
theorem xO {α:Type}{t:Sem α}{Q Q':α->EM->Prop}{A:Gk}{E:EH->EM->Prop}{s:EM}(h:Fl M A t Q (λ_ _=>False) s) (hQ: ∀a s,Q a s->Q' a s):Fl M A t Q' E s:=HP h hQ λ_ _ z=>HW z
theorem qg {prog:Fz}{w:Ga}{A:Gk}{R:Result->EM->Prop}{s:EM}{elt target iter:G8}{scope:Scope}{pos:Pos}{it acc:EH}{env:Env}(I:E1->EM->Prop)
  (turn: ∀n s,I n s->Fl (model prog w) A (QY it) (λr s₁=>match r with
   |none=>R (.ok .next) s₁
   |some v=>Fl (model prog w) A (Oe target it v) (λ_ s₁'=>Fl (model prog w) A (assign target env v) (λ_ s₂=>
     Fl (model prog w) A (forIn ifs FB λc r=>if r=FB then do let ok<-isTrue c env (eval c env);pure (MQ ok) else pure (MQ r)) (λok s₃=>
      if ok=FB then Fl (model prog w) A (eval elt env) (λx s₄=>
       Fl (model prog w) A (call (.builtin "list.append") [acc,x]) (λ_ s₅=> ∃m,m<n/\I m s₅) (So (model prog w) A env λe s'=>R (.error e) s') s₄) (So (model prog w) A env λe s'=>R (.error e) s') s₃
      else∃m,m<n/\I m s₃) (So (model prog w) A env λe s'=>R (.error e) s') s₂) (So (model prog w) A env λe s'=>R (.error e) s') s₁') (So (model prog w) A env λe s'=>R (.error e) s') s₁) (So (model prog w) A env λe s'=>R (.error e) s') s)
  (n:E1) (h:I n s):
  KP (model prog w) A (.compLoop (.ListComp elt [#[target,iter,ifs,0]] scope pos) 0 it acc env) R s:=by
 refine codeAny_loop rfl I (λn s hI=>?_) n h;show Fl _ A ((compTurn (.ListComp elt [#[target,iter,ifs,0]] scope pos) 0 it acc env).onRaise (λx=>do Pd x env;theTreesLotGoes x)) _ _ s;refine wpAny_noted ?_;rw[compTurn_list];refine E3 (Nb (E3 (HP (turn n s hI) (λr s₁ h₁=>?_) λ_ _ h'=>h')));cases r with
 |none=>exact Fx h₁
 |some v=>
  refine E3 (HP h₁ (λ_ s₁' h₁'=>?_) λ_ _ h'=>h');refine E3 (HP h₁' (λ_ s₂ h₂=>E3 (HP h₂ (λok s₃ h₃=>?_) λ_ _ h'=>h')) λ_ _ h'=>h');cases ok with
  |false=>exact Fx #[FS,h₃]
  |true=>
   exact E3 (E3 (HP h₃ (λx s₄ h₄=>E3 (HP h₄ (λ_ s₅ h₅=>Fx (Fx #[FS,h₅])) λ_ _ h'=>h')) λ_ _ h'=>h'))
section
variable {X:Cx}
def tLc (wi:TI) (g:TG) (tt:TT) (te:TE) (vs:EA E1):TE:=λσ H Q=>wi σ H λJ H1=> ∀D,H1 D=Fa-> ∃W:E1->E1->Hp->Prop,(∃m,W 0 m (aF H1 D (.lst [])))/\ ∀i m H,W i m H->
 (J.stop i H/\Q (.ref D) H)\/(J.go i H/\ ∃Nx:Hp->Prop,(∀H',Nx H'-> ∃m',m'<m/\W (i+1) m' H')/\ ∀x H',J.yld i H x H'->g x (gU σ vs) H' λσ2 H2=>gU σ2 vs=gU σ vs/\tt σ2 H2 λb H3=>
  if b=FB then te σ2 H3 λy H4=> ∃acc,H4 D=EQ (.lst acc)/\acc.length<FE/\Nx (aF H4 D (.lst (acc++[y]))) else Nx H3)
theorem Di {pins:EA (EJ×Ih)}{s:EM}{σ:St}{H:Hp}{Q:VK}{elt tg iter:G8}{ifs:EA G8}{scope:Scope}{own:EA (Fh×E1)}{pos MK:Pos}{wi:TI}{g:TG}{tt:TT}{te:TE}{use:ET (EH->Sem Mo)}{Qf:EH->EM->Prop}
  (hc:X.calm=FB) (hN:X.N.Nodup) (I:aE X pins σ H s) (hi:PI X tg iter wi) (ok:wu X.N X.env.scope scope own)
  (hg: ∀(s:EM) (H:Hp) (C:EJ) (cl:EA (Fh×EJ)) (fp:EA EJ),PG (X.Sx s H scope (L6 scope cl C X.env) fp) tg g) (ht: ∀(s:EM) (H:Hp) (C:EJ) (cl:EA (Fh×EJ)) (fp:EA EJ),PTs (X.Sx s H scope (L6 scope cl C X.env) fp) ifs tt)
  (he: ∀(s:EM) (H:Hp) (C:EJ) (cl:EA (Fh×EJ)) (fp:EA EJ),PE (X.Sx s H scope (L6 scope cl C X.env) fp) elt te) (hs: ∀x,Lk iter X.env x=pure x)
  (h:tLc wi g tt te (own.map (·.2)) σ H Q)
  (hRR: ∀D C s' m H',aE X pins σ H' s'->Q (.ref D) H'->s'.heap.Ns C m->oV X pins H' C->compPost (model X.prog X.w) X.A X.xe use Qf (.ref D) C (.ok .next) s'):
  Fl (model X.prog X.w) X.A (comprehension (.ListComp elt [#[tg,iter,ifs,0]] scope pos) scope X.env MK (newList []) FM (eval iter X.env) use) Qf X.xe s:=by
 have QQ: ∀y∈scope.names,y.2= .free-> ∃c,X.env.cells.lookup y.1=EQ c:=λy hy e=>by
  rcases ok.free y hy e with k|k
  ·exact I.ok.has _ (.inl k)
  ·exact I.ok.has _ (.inr k)
 refine wpAny_comprehension_free (use:=use) rfl hs (vE QQ) ok.kind (λy hy e=>by rw[ok.uniq y hy,e])
  (b9 (hi pins s σ H _ I h) λxv s1 hx=>b9 hx λitv s2 h2=>?_)
 obtain⟨it,fp,tn,J,H2,e,I2,T,st2,f2,q⟩:=h2;subst e;refine wpAny_newObj_type (sC ?_) (by show 0<=FE;decide);generalize hD:s2.heap.objs.size=D;have hDn:H2 D=Fa:=I2.HH.fresh (JG hD);obtain⟨W,⟨m0,w0⟩,turn⟩:=q D hDn;generalize hs3:({ s2 with heap:=s2.heap.push { cls:= .type "list",data:= .seq ([]:EA EH).toArray } } :EM)=s3;have I3:aE X pins σ (aF H2 D (.lst [])) s3:=by
  rw[<-hs3];refine I2.laid (t':=s2.toks) (λb o e=>E2 _ e) (JG hD) #[Fs _,[],0, .nil,?_];rw[<-hD];exact Gy _ rfl
 have h3:s3.heap=s2.heap.push { cls:= .type "list",data:= .seq ([]:EA EH).toArray } :=by rw[<-hs3]
 have sz: ∀b∈fp,b<s2.heap.objs.size:=λb hb=>by
  obtain⟨o,e,_⟩:=T.obj _ _ st2 b hb;exact Fn e
 have f3: ∀b∈fp,oV X pins (aF H2 D (.lst [])) b/\b<s3.heap.objs.size:=λb hb=>by
  have TQ:=sz b hb;refine#[#[?_,(f2 b hb).2],by rw[h3,Hf];exact IC TQ];rw[ac (by rw[<-hD];exact Gu TQ)];exact(f2 b hb).1
 have st3:tn 0 s3.heap:=T.keep _ _ _ st2 λb _ o e=>by rw[h3];exact E2 _ e
 have I4:=r8 I3 ok hN f3
 have pg:=hg s3 (aF H2 D (.lst [])) s3.heap.objs.size (Hx (s3.heap.objs.size+1) scope.names (bV X.env.cells scope.names [])) fp
 have pt:=ht s3 (aF H2 D (.lst [])) s3.heap.objs.size (Hx (s3.heap.objs.size+1) scope.names (bV X.env.cells scope.names [])) fp
 have pe:=he s3 (aF H2 D (.lst [])) s3.heap.objs.size (Hx (s3.heap.objs.size+1) scope.names (bV X.env.cells scope.names [])) fp
 show KP _ _ (.compStart (.ListComp elt [#[tg,iter,ifs,0]] scope pos) 0 (.ref it) (.ref D) (L6 scope (Hx (s3.heap.objs.size+1) scope.names (bV X.env.cells scope.names [])) s3.heap.objs.size X.env)) (compPost (model X.prog X.w) X.A X.xe use Qf (.ref D) s3.heap.objs.size) { s3 with heap:=MN (s3.heap.push { cls:= .type "dict",data:= .dict [].toArray }) scope.names }
 have nfp: ∀b∈fp,(aF H2 D (.lst [])) b=Fa:=λb hb=>(f3 b hb).1.1
 generalize hce:L6 scope (Hx (s3.heap.objs.size+1) scope.names (bV X.env.cells scope.names [])) s3.heap.objs.size X.env=ce at I4 pg pt pe ⊢;have cL:ce.locals=s3.heap.objs.size:=by subst hce;rfl
 generalize hH3:aF H2 D (.lst [])=H3 at I3 I4 pg pt pe w0 nfp f3;generalize hs4:({ s3 with heap:=MN (s3.heap.push { cls:= .type "dict",data:= .dict [].toArray }) scope.names } :EM)=s4 at I4 ⊢;have st4:tn 0 s4.heap:=T.keep _ _ _ st3 λb _ o e=>by rw[<-hs4];exact Of _ _ _ _ (E2 _ e)
 have S8: ∀ {σ':St}{H':Hp}{s':EM},aE (X.Sx s3 H3 scope ce fp) [] σ' H' s'->(∀b∈fp,H' b=Fa)-> ∀b∈fp,oV (X.Sx s3 H3 scope ce fp) [] H' b:=λ{σ' H' s'} I' hn b hb=>
  #[hn b hb,(I'.ok.ZH b hb).1,I'.ok.RW b hb, .inl hb,λx c e=>(I'.ok.ZH b hb).2 x c e,λp hp=>E7 (show p∈([]:EA (EJ×Ih))++[] from hp) (by simp)]
 have loop:KP (model X.prog X.w) X.A (.compLoop (.ListComp elt [⟨tg,iter,ifs,0⟩] scope pos) 0 (.ref it) (.ref D) ce) (compPost (model X.prog X.w) X.A X.xe use Qf (.ref D) s3.heap.objs.size) s4:=by
  refine qg (λn s'=> ∃i H',aE (X.Sx s3 H3 scope ce fp) [] (gU σ (own.map (·.2))) H' s'/\tn i s'.heap/\(∀b∈fp,H' b=Fa)/\W i n H') ?_ m0 #[0,H3,I4,st4,nfp,w0];rintro n s5 ⟨i,H5,I5,st5,n5,w5⟩;rcases turn i n H5 w5 with⟨stop,qq⟩|⟨go,Nx,hNx,step⟩
  ·have td:=T.done (X.Sx s3 H3 scope ce fp) rfl rfl rfl hc i [] s5 _ H5 (λ_ _=>False) I5 (S8 I5 n5) st5 stop
   refine xO td λr s6 ⟨hr,I6⟩=>?_;subst hr;have I7:aE X pins σ H5 s6:=I3.VA (ch:=fp) I6.os I6.base I6.HH I6.bare λb hb=>#[(f3 b hb).1.2.2.2.1,(f3 b hb).1.2.1,(f3 b hb).1.2.2.2.2.1,(f3 b hb).1.2.2.2.2.2]
   have nC:H5 s3.heap.objs.size=Fa:=by
    have z:H5 ce.locals=Fa:=I6.free;rw[cL] at z;exact z
   obtain⟨m,hn,_⟩:=I6.loc;have hn:s6.heap.Ns ce.locals m:=hn;rw[cL] at hn;exact hRR D s3.heap.objs.size s6 m H5 I7 qq hn (I3.ZN (E6 _) nC)
  ·have ti:=T.item (X.Sx s3 H3 scope ce fp) rfl rfl rfl hc i [] s5 _ H5 (λ_ _=>False) I5 (S8 I5 n5) st5 go
   refine xO ti λr s6 ⟨u,hr,h6⟩=>?_;subst hr;refine xO h6 λ_ s7 ⟨x,H7,I7,r7,y7,st7,n7⟩=>?_;have I7':=I7.pinned (S8 I7 n7) (T.obj _ _ st7);refine xO (pg _ s7 _ H7 x u _ I7' r7 (step x H7 y7)) λ_ s8 ⟨σ8,H8,I8,hw8,q8⟩=>?_;refine xO (pt _ s8 σ8 H8 _ I8 q8) λb s9 ⟨H9,I9,q9⟩=>?_;have eN: ∀ {s':EM}{H':Hp},aE (X.Sx s3 H3 scope ce fp) ([]++nN fp s7.heap) σ8 H' s'->Nx H'-> ∃m,m<n/\ ∃i H',aE (X.Sx s3 H3 scope ce fp) [] (gU σ (own.map (·.2))) H' s'/\tn i s'.heap/\(∀b∈fp,H' b=Fa)/\W i m H':=λ{s' H'} I' nx=>by
    obtain⟨m',hm,w'⟩:=hNx H' nx;have ae3: ∀b∈fp,∀o,s7.heap.get? b=EQ o->s'.heap.get? b=EQ o/\H' b=Fa:=λb hb o e=>
     let z:=I'.pin (b,o) (GI _ (GI _ (jA hb e)))
     #[z.1,z.2.1]
    have hl:(gU σ (own.map (·.2))).length=σ8.length:=by rw[<-hw8,iE]
    refine#[m',hm,i+1,H',(I'.OM (pins:=[])).weak hl (λj v e=>?_),T.keep _ _ _ st7 λb hb o e=>(ae3 b hb o e).1,λb hb=>?_,w']
    ·rw[<-hw8] at e
     exact(lc e).1
    ·obtain⟨o,e,_⟩:=T.obj _ _ st7 b hb
     exact(ae3 b hb o e).2
   cases b with
   |false=>
    simp only[Ii,L5] at q9 ⊢;exact eN I9 q9
   |true=>
    simp only[Sk] at q9 ⊢;refine xO (pe _ s9 σ8 H9 _ I9 q9) λz s10 ⟨yv,H10,I10,r10,acc,aj6,aj7,nx⟩=>?_;exact Z5 (X:=X.Sx s3 H3 scope ce fp) I10 aj6 aj7 r10 λs11 I11=>eN I11 nx
 exact codeAny_compStart_list loop (T.self X.A 0 _ _ _ st4 loop)
theorem Xr {elt tg iter:G8}{scope:Scope}{pos:Pos}{g:TG}{tt:TT}{te:TE}(hc:X.calm=FB) (hN:X.N.Nodup) (hi:PI X tg iter wi) (ok:wu X.N X.env.scope scope own)
  (hg: ∀(s:EM) (H:Hp) (C:EJ) (cl:EA (Fh×EJ)) (fp:EA EJ),PG (X.Sx s H scope (L6 scope cl C X.env) fp) tg g) (ht: ∀(s:EM) (H:Hp) (C:EJ) (cl:EA (Fh×EJ)) (fp:EA EJ),PTs (X.Sx s H scope (L6 scope cl C X.env) fp) ifs tt)
  (he: ∀(s:EM) (H:Hp) (C:EJ) (cl:EA (Fh×EJ)) (fp:EA EJ),PE (X.Sx s H scope (L6 scope cl C X.env) fp) elt te) (hs: ∀x,Lk iter X.env x=pure x:=by intro _;rfl):
  PE X (.ListComp elt [#[tg,iter,ifs,0]] scope pos) (tLc wi g tt te (own.map (·.2))):=by
 intro pins s σ H Q I h;rw[eval_ListComp];refine Di hc hN I hi ok hg ht he hs h λD C s' m H' I' q hn f=>#[m,hn,λh'' sb=>?_];obtain⟨f0,f1,f2,f3,f4,f5⟩:=f;exact#[.ref D,H',I'.turned (t':=s'.toks) (λb o hb e=>(sb.2 b hb).trans e) f0 f1 f3 f4 f5,FS,q]
end
theorem vP {K:EF}{a:EJ}{xs:EA V}{g:TG}{tt:TT}{te:TE}{σ:St}{H1:Hp}{Qd:Hp->Prop}(Pv:E1->Hp->Prop) (h0:Pv 0 (aF H1 D (.lst []))) (hl: ∀i H,i<=xs.length->Pv i H->cO K H a xs)
  (hs: ∀i x H,xs[i]?=EQ x->Pv i H->g x (gU σ vs) H λσ2 H2=>gU σ2 vs=gU σ vs/\tt σ2 H2 λb H3=>
   if b=FB then te σ2 H3 λy H4=> ∃acc,H4 D=EQ (.lst acc)/\acc.length<FE/\Pv (i+1) (aF H4 D (.lst (acc++[y]))) else Pv (i+1) H3) (hd: ∀H,Pv xs.length H->Qd H):
  ∃W:E1->E1->Hp->Prop,(∃m,W 0 m (aF H1 D (.lst [])))/\ ∀i m H,W i m H->
   ((Xm K a).stop i H/\Qd H)\/((Xm K a).go i H/\ ∃Nx:Hp->Prop,(∀H',Nx H'-> ∃m',m'<m/\W (i+1) m' H')/\ ∀x H',(Xm K a).yld i H x H'->g x (gU σ vs) H' λσ2 H2=>gU σ2 vs=gU σ vs/\tt σ2 H2 λb H3=>
    if b=FB then te σ2 H3 λy H4=> ∃acc,H4 D=EQ (.lst acc)/\acc.length<FE/\Nx (aF H4 D (.lst (acc++[y]))) else Nx H3):=by
 refine#[λi m H=>m=xs.length-i/\i<=xs.length/\Pv i H,#[xs.length,by simp,Fs _,h0],?_];rintro i m H ⟨rfl,hi,p⟩;have q:=hl i H hi p;by_cases TQ:i<xs.length
 ·refine .inr #[#[xs,xs[i],q,by simp [TQ]],Pv (i+1),λH' p'=>#[xs.length-(i+1),by lia,FS,TQ,p'],λx H' y=>?_]
  obtain⟨e,y⟩:=y;subst e;exact hs i x _ (y xs q) p
 ·have e:i=xs.length:=by lia
  subst e;exact .inl #[#[xs,q,E6 _],hd H p]
def Eu (N:EA Fh) (sc scope:Scope) (own:EA (Fh×E1)):FR:=
 (match scope.kind with| .function=>FB|_=>FM)&&(scope.names.all λy=>decide (scope.names.lookup y.1=EQ y.2))&&(own.all λp=>decide (N[p.2]?=EQ p.1))&&
  (scope.names.all λy=>match y.2 with
   | .free=>(match sc.names.lookup y.1 with|some .cell=>FB|some .free=>FB|_=>FM)
   | .local=>decide (y.1∈own.map (·.1))||decide (y.1∉N)
   | .cell=>decide (y.1∈own.map (·.1))||decide (y.1∉N)
   |_=>FB)
theorem sO {sc scope:Scope}(h:Eu N sc scope own=FB):wu N sc scope own:=by
 unfold Eu at h;simp only[Gh,Lf,M9] at h;obtain⟨⟨⟨h1,h2⟩,h3⟩,h4⟩:=h;refine#[?_,h2,h3,λy hy e=>?_,λy hy e=>?_]
 ·split at h1
  ·assumption
  ·cases h1
 ·have q:=h4 y hy
  simp only[e] at q;split at q<;>first|exact .inl (by assumption)|exact .inr (by assumption)|cases q
 ·have q:=h4 y hy
  rcases e with e|e<;>(simp only[e,LL,M9] at q;exact q)
section
variable {κ:Type} [DecidableEq κ]
def bN (aC:EA (κ×V)) (k:κ):ET V:=(aC.find? λkv=>decide (kv.1=k)).map (·.2)
def dy (aC:EA (κ×V)) (k:κ) (v:V):EA (κ×V):=
 if(aC.any λkv=>decide (kv.1=k))=FB then aC.map (λkv=>if kv.1=k then(kv.1,v) else kv) else aC++[(k,v)]
def fD (aC:EA (κ×V)) (k:κ):EA (κ×V):=aC.filter λkv=>decide (kv.1≠k)
theorem cf {p:κ×V}{r:EA (κ×V)}{k:κ}(e:p.1=k):bN (p::r) k=EQ p.2:=by simp [bN,GF,e]
theorem bX {p:κ×V}{r:EA (κ×V)}{k:κ}(e: ¬p.1=k):bN (p::r) k=bN r k:=by simp [bN,GF,e]
theorem kc (k:κ): ∀aC:EA (κ×V),(aC.any λkv=>decide (kv.1=k))=(bN aC k).isSome
 |[]=>rfl
 |p::r=>by
  rw[MP];by_cases e:p.1=k
  ·simp only[cf e,Gb e,Sq,Tr]
  ·rw[bX e,FA e,Rr];exact kc k r
theorem tj (k j:κ) (y:V): ∀aC:EA (κ×V),bN (aC.map λkv=>if kv.1=k then(kv.1,y) else kv) j=(bN aC j).map λx=>if j=k then y else x
 |[]=>rfl
 |p::r=>by
  have ih:=tj k j y r;rw[Fe];by_cases h:p.1=k
  ·rw[EL h]
   by_cases e:p.1=j
   ·rw[cf (p:=(p.1,y)) e,cf e,Ly,EL (e.symm.trans h)]
   ·rw[bX (p:=(p.1,y)) e,bX e,ih]
  ·rw[EI h]
   by_cases e:p.1=j
   ·rw[cf (p:=p) e,cf e,Ly,EI (λz=>h (e.trans z))]
   ·rw[bX (p:=p) e,bX e,ih]
theorem pW (k j:κ) (y:V): ∀aC:EA (κ×V),bN aC k=Fa->bN (aC++[(k,y)]) j=if j=k then EQ y else bN aC j
 |[],_=>by
  by_cases e:k=j
  ·rw[EL e.symm];exact cf (p:=(k,y)) e
  ·rw[EI (λz=>e z.symm)];exact bX (p:=(k,y)) e
 |p::r,hn=>by
  rw[VJ];have hk: ¬p.1=k:=λz=>by rw[cf z] at hn;cases hn
  rw[bX hk] at hn;have ih:=pW k j y r hn;by_cases e:p.1=j
  ·rw[cf e,cf e,EI (λz=>hk (e.trans z))]
  ·rw[bX e,bX e,ih]
theorem gB (aC:EA (κ×V)) (k j:κ) (y:V):bN (dy aC k y) j=if j=k then EQ y else bN aC j:=by
 unfold dy;by_cases a:(aC.any λkv=>decide (kv.1=k))=FB
 ·rw[EL a,tj]
  rw[kc] at a;by_cases e:j=k
  ·obtain⟨x,hx⟩:=Ka.mp a
   rw[EL e,e,hx,Ly,EL rfl]
  ·rw[EI e]
   cases bN aC j with
   |none=>rfl
   |some x=>rw[Ly,EI e]
 ·rw[EI a]
  refine pW k j y aC ?_;rw[kc] at a;cases q:bN aC k with
  |none=>rfl
  |some x=>rw[q] at a;exact(a rfl).elim
theorem cD (aC:EA (κ×V)) (k:κ) (v:V):(dy aC k v).length<=aC.length+1:=by
 unfold dy;split
 ·rw[EY];lia
 ·rw[Fc,EZ,JK];lia
theorem fR.LN {o:ET V}{u:ET EH}(r:fR o u):o.isSome=u.isSome:=by
 cases o with
 |none=>cases u with
  |none=>rfl
  |some _=>exact(show False from r).elim
 |some _=>cases u with
  |none=>exact(show False from r).elim
  |some _=>rfl
theorem KV.val {aC:EA (κ×V)}(r:KV aC vs) (k:κ):fR (bN aC k) (Pj vs k):=by
 unfold KV at r
 induction r with
 |nil=>exact GH
 | @cons p q ps qs h t ih=>
  obtain⟨h1,h2⟩:=h;by_cases e:p.1=k
  ·have e':q.1=k:=h1.symm.trans e
   have b:Pj (q::qs) k=EQ q.2:=by simp [Pj,GF,e']
   rw[cf e,b];exact h2
  ·have e': ¬q.1=k:=λz=>e (h1.trans z)
   have b:Pj (q::qs) k=Pj qs k:=by simp [Pj,GF,e']
   rw[bX e,b];exact ih
theorem KV.any {aC:EA (κ×V)}(r:KV aC vs) (k:κ):(aC.any λkv=>decide (kv.1=k))=vs.any λkv=>decide (kv.1=k):=by
 unfold KV at r
 induction r with
 |nil=>rfl
 |cons h t ih=>rw[MP,MP,ih,h.1]
theorem KV.Z7 {aC:EA (κ×V)}(r:KV aC vs) (k:κ) {y:V}{u:EH}(ry:bh y u):
  KV (aC.map λkv=>if kv.1=k then(kv.1,y) else kv) (vs.map λkv=>if kv.1=k then(kv.1,u) else kv):=by
 unfold KV at r ⊢
 induction r with
 |nil=>exact .nil
 | @cons p q ps qs h t ih=>
  rw[Fe,Fe];refine .cons ?_ ih;obtain⟨h1,h2⟩:=h;by_cases e:p.1=k
  ·rw[EL e,EL (h1.symm.trans e)];exact#[h1,ry]
  ·rw[EI e,EI (λz=>e (h1.trans z))];exact#[h1,h2]
theorem KV.put {aC:EA (κ×V)}(r:KV aC vs) (k:κ) {y:V}{u:EH}(ry:bh y u):KV (dy aC k y) (stored vs k u):=by
 unfold dy stored;rw[r.any k];by_cases e:(vs.any λkv=>decide (kv.1=k))=FB
 ·rw[EL e,EL e];exact r.Z7 k ry
 ·rw[EI e,EI e];exact Yt r #[FS,ry]
theorem KV.drop {aC:EA (κ×V)}(r:KV aC vs) (k:κ):KV (fD aC k) (without vs k):=by
 unfold KV at r ⊢;unfold fD without
 induction r with
 |nil=>exact .nil
 | @cons p q ps qs h t ih=>
  obtain⟨h1,h2⟩:=h;rw[PU,PU];by_cases e:p.1=k
  ·have a: ¬decide (p.1≠k)=FB:=by simp [e]
   have b: ¬decide (q.1≠k)=FB:=by simp [h1.symm.trans e]
   rw[EI a,EI b];exact ih
  ·have e': ¬q.1=k:=λz=>e (h1.trans z)
   have a:decide (p.1≠k)=FB:=by simp [e]
   have b:decide (q.1≠k)=FB:=by simp [e']
   rw[EL a,EL b];exact .cons #[h1,h2] ih
theorem KV.length {aC:EA (κ×V)}(r:KV aC vs):aC.length=vs.length:=QJ r
theorem Bo (aC:EA (κ×V)) (k:κ):(fD aC k).length<=aC.length:=Nz _ _
end
theorem oE {P:Fz}{w:Ga}{k:a0}{u:EH}(r:bh (kV k) u):(aT P w).is k u=FB:=by
 cases k with
 |inl i=>obtain⟨t,e⟩:=(show∃t,u=JL i t from r);subst e;exact sP P w i t
 |inr x=>obtain⟨t,e⟩:=(show∃t,u=NQ x t from r);subst e;exact rE P w x t
theorem pz {P:Fz}{w:Ga} : ∀ {ks:EA a0}{us:EA EH},aX (ks.map kV) us->ItemsAre (aT P w) ks us
 |[],_,r=>by rw[Ph] at r;cases r;exact .nil
 |k::ks,_,r=>by
  rw[Fe] at r;cases r with
  |cons h t=>exact .cons (oE h) (pz t)
abbrev KT (H:Hp):EA (EA a0×V)->EA (EA a0×EJ×EH)->Prop:=Paired λp q=>p.1=q.1/\H q.2.1=EQ (.tup (p.1.map kV))/\bh p.2 q.2.2
theorem KT.val {H:Hp}{aC:EA (EA a0×V)}{xs:EA (EA a0×EJ×EH)}(r:KT H aC xs) (k:EA a0):fR (bN aC k) ((Qv xs k).map (·.2)):=by
 induction r with
 |nil=>exact GH
 | @cons p q ps qs h t ih=>
  obtain⟨h1,_,h2⟩:=h;by_cases e:p.1=k
  ·have e':q.1=k:=h1.symm.trans e
   have b:Qv (q::qs) k=EQ q.2:=by simp [Qv,GF,e']
   rw[cf e,b];exact h2
  ·have e': ¬q.1=k:=λz=>e (h1.trans z)
   have b:Qv (q::qs) k=Qv qs k:=by simp [Qv,GF,e']
   rw[bX e,b];exact ih
theorem KT.Z7 {H:Hp}{aC:EA (EA a0×V)}{xs:EA (EA a0×EJ×EH)}(r:KT H aC xs) (k:EA a0) {y:V}{u:EH}(ry:bh y u):
  KT H (aC.map λkv=>if kv.1=k then(kv.1,y) else kv) (xs.map (putAt k u)):=by
 induction r with
 |nil=>exact .nil
 | @cons p q ps qs h t ih=>
  rw[Fe,Fe];refine .cons ?_ ih;obtain⟨h1,h2,h3⟩:=h;unfold putAt;by_cases e:p.1=k
  ·rw[EL e,EL (h1.symm.trans e)];exact#[h1,h2,ry]
  ·rw[EI e,EI (λz=>e (h1.trans z))];exact#[h1,h2,h3]
theorem KT.put {H:Hp}{aC:EA (EA a0×V)}{xs:EA (EA a0×EJ×EH)}(r:KT H aC xs) (k:EA a0) {b:EJ}{y:V}{u:EH}(hb:H b=EQ (.tup (k.map kV))) (ry:bh y u):
  KT H (dy aC k y) (storedH xs k b u):=by
 have e:(aC.any λkv=>decide (kv.1=k))=(Qv xs k).isSome:=by
  rw[kc,(r.val k).LN,Hv]
 unfold dy storedH;rw[e];by_cases q:(Qv xs k).isSome=FB
 ·rw[EL q,EL q];exact r.Z7 k ry
 ·rw[EI q,EI q];exact Yt r #[FS,hb,ry]
theorem KT.keeps {H H':Hp}{aC:EA (EA a0×V)}{xs:EA (EA a0×EJ×EH)}(r:KT H aC xs) (ht: ∀b ys,H b=EQ (.tup ys)->H' b=EQ (.tup ys)):KT H' aC xs:=
 Paired.M7 r λ_ _ z=>#[z.1,ht _ _ z.2.1,z.2.2]
section
variable {P:Fz}{w:Ga}{H:Hp}{h:Gn}{a:EJ}
theorem Xs {u:HO}(ok:h9 P w H h) (e:Rd H a u):cw P w H h a u:=e.ok ok
theorem nG {aC:EA (a0×V)}(ok:h9 P w H h) (e:Rd H a (.dK aC)):aC.length<=FE/\(a == HN)=FM/\ ∃vs,KV aC vs/\h.DictOf (aT P w) a vs:=
 show cw P w H h a (.dK aC) from Xs ok e
theorem Xt {aC:EA (a0×V)}(ok:h9 P w H h) (e:H a=EQ (.dK aC)):aC.length<=FE/\(a == HN)=FM/\ ∃vs,KV aC vs/\h.DictOf (aT P w) a vs:=nG ok (.inl e)
theorem jr {ks:EA a0}(ok:h9 P w H h) (e:H a=EQ (.tup (ks.map kV))):(MM (aT P w)).is h ks a:=by
 obtain⟨_,Hc,r,o,h1,h2,n,h3⟩:=(show cw P w H h a (.tup (ks.map kV)) from ok a _ e);exact#[o,Hc.toArray,n,h1,h2,h3,by simpa using pz r]
theorem pY {aC:EA (EA a0×V)}(ok:h9 P w H h) (e:Rd H a (.dT aC)):aC.length<=FE/\(a == HN)=FM/\
  ∃xs,KT H aC xs/\h.DictOfH (MM (aT P w)) a xs:=by
 obtain⟨z,y,xs,r,o,es,ep,h1,h2,h3,h4,h5⟩:=(show cw P w H h a (.dT aC) from Xs ok e);refine#[z,y,xs,r,o,es,ep,h1,h2,h3,h4,λx hx=>?_,h5];have all: ∀ {l:EA (EA a0×V)}{m:EA (EA a0×EJ×EH)},KT H l m-> ∀x∈m,(MM (aT P w)).is h x.1 x.2.1:=by
  intro l m q
  induction q with
  |nil=>intro x hx;exact nomatch hx
  | @cons p q ps qs hq t ih=>
   intro x hx;rcases EW.mp hx with e|hx
   ·subst e
    exact jr ok (by rw[<-hq.1];exact hq.2.1)
   ·exact ih x hx
 exact all r x hx
theorem ae4 {aC:EA (EA a0×V)}(ok:h9 P w H h) (e:H a=EQ (.dT aC)):aC.length<=FE/\(a == HN)=FM/\
  ∃xs,KT H aC xs/\h.DictOfH (MM (aT P w)) a xs:=pY ok (.inl e)
end
def gv (H:Hp) (a:EJ) (y:V) (r:ET V):Prop:=
 (∃aC k,Rd H a (.dK aC)/\y=kV k/\r=bN aC k)\/ ∃aC k b,Rd H a (.dT aC)/\y= .ref b/\H b=EQ (.tup (k.map kV))/\r=bN aC k
def rp (H:Hp) (a:EJ) (y v:V) (H':Hp):Prop:=
 (∃aC k,H a=EQ (.dK aC)/\y=kV k/\aC.length<FE/\H'=aF H a (.dK (dy aC k v)))\/
 ∃aC k b,H a=EQ (.dT aC)/\y= .ref b/\H b=EQ (.tup (k.map kV))/\aC.length<FE/\H'=aF H a (.dT (dy aC k v))
theorem gv.k {H:Hp}{a:EJ}{aC:EA (a0×V)}{k:a0}(e:H a=EQ (.dK aC)):gv H a (kV k) (bN aC k):= .inl #[aC,k, .inl e,FS,FS]
theorem rp.k {H:Hp}{a:EJ}{aC:EA (a0×V)}{k:a0}{v:V}(e:H a=EQ (.dK aC)) (hl:aC.length<FE):rp H a (kV k) v (aF H a (.dK (dy aC k v))):= .inl #[aC,k,e,FS,hl,FS]
section
variable {X:Cx}{pins:EA (EJ×Ih)}{σ:St}{H:Hp}{s:EM}{a:EJ}{y v:V}{u r:EH}{o:ET V}{A:Gk}{E:EH->EM->Prop}
theorem aE.big (I:aE X pins σ H s):HN<s.heap.objs.size:=by
 have h:ID<s.heap.objs.size:=(I.mod.glob.keeps I.bk).lt;exact E1.lt_trans [01] h
theorem ym {Q:EH->EM->Prop}(hu:A.units+1<OX) (I:aE X pins σ H s) (g:gv H a y (EQ v)) (ry:bh y u) (h: ∀w' s',aE X pins σ H s'->bh v w'->Q w' s'):
  Fl (model X.prog X.w) A (Sj (.ref a) u) Q E s:=by
 rcases g with⟨aC,k,e,ey,l⟩|⟨aC,k,b,e,ey,eb,l⟩
 ·subst ey
  obtain⟨z,hd,vs,rel,dd⟩:=nG I.HH e;obtain⟨w',hw,S9⟩:=fR.some_of (v:=v) (o:=Pj vs k) (by rw[l];exact rel.val k);exact wpAny_getItem_of (oE ry) dd.mapOf hw (h w' _ (I.tok _) S9)
 ·subst ey
  cases (show u=Fq b from ry);obtain⟨z,hd,xs,rel,dd⟩:=pY I.HH e;obtain⟨w',hw,S9⟩:=fR.some_of (v:=v) (o:=(Qv xs k).map (·.2)) (by rw[l];exact rel.val k);obtain⟨p,hp,hp2⟩:=FG.mp hw;refine Yk (JN hu) (jr I.HH eb) dd hp ?_;rw[hp2];exact h w' _ (I.tok _) S9
theorem aj8 {Q:EH->EM->Prop}(hu:A.units+1<OX) (I:aE X pins σ H s) (g:gv H a y o) (ry:bh y u) (h: ∀s',aE X pins σ H s'->Q (.bool o.isSome) s'):
  Fl (model X.prog X.w) A (HL .In u (.ref a)) Q E s:=by
 rcases g with⟨aC,k,e,ey,l⟩|⟨aC,k,b,e,ey,eb,l⟩
 ·subst ey
  obtain⟨z,hd,vs,rel,dd⟩:=nG I.HH e;refine wpAny_in_of (oE ry) hd dd.mapOf ?_;rw[<-(rel.val k).LN,<-l];exact h _ (I.tok _)
 ·subst ey
  cases (show u=Fq b from ry);obtain⟨z,hd,xs,rel,dd⟩:=pY I.HH e;refine wpAny_in_heap (JN hu) (jr I.HH eb) hd dd ?_;have q:=(rel.val k).LN;rw[Hv] at q;rw[<-q,<-l];exact h _ (I.tok _)
theorem DB {Q:EH->EM->Prop}(hu:A.units+1<OX) (I:aE X pins σ H s) (g:gv H a y o) (ry:bh y u) (h: ∀s',aE X pins σ H s'->Q (.bool (!o.isSome)) s'):
  Fl (model X.prog X.w) A (HL .NotIn u (.ref a)) Q E s:=by
 rcases g with⟨aC,k,e,ey,l⟩|⟨aC,k,b,e,ey,eb,l⟩
 ·subst ey
  obtain⟨z,hd,vs,rel,dd⟩:=nG I.HH e;refine wpAny_notIn_of (oE ry) hd dd.mapOf ?_;rw[<-(rel.val k).LN,<-l];exact h _ (I.tok _)
 ·subst ey
  cases (show u=Fq b from ry);obtain⟨z,hd,xs,rel,dd⟩:=pY I.HH e;refine wpAny_notIn_heap (JN hu) (jr I.HH eb) hd dd ?_;have q:=(rel.val k).LN;rw[Hv] at q;rw[<-q,<-l];exact h _ (I.tok _)
theorem qX {h':Gn}(I:aE X pins σ H s) (mu:eQ (H a)) (hs:LZ a s.heap h') (he: ∃q,h'.get? a=EQ q) (new:cw X.prog X.w (aF H a ob) h' a ob):
  aE X pins σ (aF H a ob) { s with heap:=h',toks:=t' } :=
 I.write (x:=a) (e:=a) mu (.inl rfl) (λb q hb z=>(hs.2 b hb).trans z) he new
theorem uL {P:Fz}{w:Ga}{H':Hp}{h':Gn}{aC:EA (a0×V)}(z:aC.length<=FE) (hd:(a == HN)=FM) (rel:KV aC vs) (dd:h'.DictOf (aT P w) a vs):
  cw P w H' h' a (.dK aC):=#[z,hd,vs,rel,dd]
theorem yf {H':Hp}{Q:Mo->EM->Prop}(hu:A.units+1<OX) (I:aE X pins σ H s) (g:rp H a y v H') (ry:bh y u) (rv:bh v r) (h: ∀s',aE X pins σ H' s'->Q () s'):
  Fl (model X.prog X.w) A (setItem (.ref a) u r) Q E s:=by
 rcases g with⟨aC,k,e,ey,l,eH⟩|⟨aC,k,b,e,ey,eb,l,eH⟩
 ·subst ey eH
  obtain⟨z,hd,vs,rel,dd⟩:=Xt I.HH e;have hz:vs.length<=FE:=by rw[<-rel.length];exact z
  have hl:(dy aC k v).length<=FE:=by have:=cD aC k v;lia
  refine wpAny_setItem_pairs (hsz:=hz) (oE ry) dd λh' V1 hs=>h _ ?_;have he: ∃q,h'.get? a=EQ q:=let ⟨q,_,_,hq,_⟩:=V1;#[q,hq];exact qX I (by rw[e];exact GH) hs he (uL hl hd (rel.put k rv) V1)
 ·subst ey eH
  cases (show u=Fq b from ry);obtain⟨z,hd,xs,rel,dd⟩:=ae4 I.HH e;have hz:xs.length<=FE:=by rw[<-QJ rel];exact z
  have hl:(dy aC k v).length<=FE:=by have:=cD aC k v;lia
  refine wpAny_setItem_heap (hsz:=hz) (JN hu) (jr I.HH eb) dd λh' V1 hs=>h _ ?_;obtain⟨q,es,ep,hq,h2,h3,h4,_,h5⟩:=V1;refine qX I (by rw[e];exact GH) hs #[q,hq] #[hl,hd,_,(rel.put k eb rv).keeps λc ys ec=>?_,q,es,ep,hq,h2,h3,h4,h5];rw[ac (pj ec e (λz=>nomatch z))]
  exact ec
end
section
variable {X:Cx}{pins:EA (EJ×Ih)}{σ:St}{H:Hp}{s:EM}{a:EJ}{aC:EA (a0×V)}{k:a0}{u:EH}{A:Gk}{E:EH->EM->Prop}
theorem ae5 {v:V}{Q:EH->EM->Prop}(I:aE X pins σ H s) (e:H a=EQ (.dK aC)) (ry:bh (kV k) u) (l:bN aC k=EQ v) (hm:more=[]\/ ∃x,more=[x])
  (h: ∀w' s',aE X pins σ (aF H a (.dK (fD aC k))) s'->bh v w'->Q w' s'):Fl (model X.prog X.w) A (call (.builtin "dict.pop") (.ref a::u::more)) Q E s:=by
 obtain⟨z,hd,vs,rel,dd⟩:=Xt I.HH e;obtain⟨w',hw,S9⟩:=fR.some_of (v:=v) (o:=Pj vs k) (by rw[<-l];exact rel.val k);have hp:(keyPart u).isSome=FB:=by
  cases k with
  |inl i=>obtain⟨t,q⟩:=(show∃t,u=JL i t from ry);subst q;rfl
  |inr x=>obtain⟨t,q⟩:=(show∃t,u=NQ x t from ry);subst q;rfl
 have ha:argsOk "dict.pop" ⟨.ref a::u::more,[]⟩:=by
  rcases hm with q|⟨x,q⟩
  ·subst q;exact PySem.F.args_dict_pop_2 _ _
  ·subst q;exact PySem.F.args_dict_pop_3 _ _ _
 refine call_meetsIn Rn dd.typeIs PySem.F.entry_dict_pop ha (meets_dict_pop_there (aT X.prog X.w) a (oE ry) more hm hp)
  #[vs,w',dd,by rw[<-rel.length];exact z,hw,λh' V1 hs=>h w' _ ?_ S9]
 have he: ∃q,h'.get? a=EQ q:=let ⟨q,_,_,hq,_⟩:=V1;#[q,hq];exact qX I (by rw[e];exact GH) hs he (uL (Fj (Bo aC k) z) hd (rel.drop k) V1)
theorem ae6 {Q:EH->EM->Prop}(I:aE X pins σ H s) (e:Rd H a (.dK aC)) (h: ∀t s',aE X pins σ H s'->Q (.int aC.length t) s'):Fl (model X.prog X.w) A (call (.builtin "len") [.ref a]) Q E s:=by
 obtain⟨z,hd,vs,rel,dd⟩:=nG I.HH e;refine call_len_dict hd dd (by rw[<-rel.length];rw[Ht] at z;lia) ?_;rw[<-rel.length];exact h _ _ (I.tok _)
end
def Ej (i:G8):Prop:= ∀ov iv,subscripted i FM ov iv=operate [ov,iv] (Sj ov iv)
theorem wK {prog:Fz}{w:Ga}{A:Gk}{E:EH->EM->Prop}{s:EM}{env:Env}{JM slice:G8}{pos:Pos}{T id:String}{Q:EH->EM->Prop}
  (hl:Hg (.type T) "__getitem__"=pure (EQ (.builtin id))) (hs:Ej slice)
  (h:Fl (model prog w) A (eval JM env) (λo s₁=>Fl (model prog w) A (eval slice env) (λi s₂=>s₂.TypeIs o T/\Fl (model prog w) A (Sj o i) Q E s₂) E s₁) E s):
  Fl (model prog w) A (eval (.Subscript JM slice pos) env) Q E s:=by
 refine Yo (HP h (λo s₁ h₁=>HP h₁ (λi s₂ h₂=>?_) λ_ _ x=>x) λ_ _ x=>x);obtain⟨hT,h₂⟩:=h₂;unfold T7;refine E3 ?_;rw[getitemInPython_of_ne hT.not_modules];refine E3 (wpAny_specialOf hT hl ?_);have eN:Fl (model prog w) A (subscripted slice FM o i) (λr s₃=>Fl (model prog w) A (letTemporaryGo JM o r>>=λ_=>pure r) Q E s₃) E s₂:=by
  rw[hs o i];exact wpAny_operating (HP h₂ (λr s₃ h₃=>E3 (wpAny_letTemporaryGo (Fx h₃))) λ_ _ x=>x)
 first
  |exact Fx (E3 eN)
  |exact E3 (Fx (E3 eN))
  |exact E3 eN
theorem rS {X:Cx}{pins:EA (EJ×Ih)}{σ:St}{H:Hp}{s:EM}{a:EJ}{y:V}{o:ET V}(I:aE X pins σ H s) (g:gv H a y o):s.TypeIs (.ref a) "dict":=by
 rcases g with⟨aC,k,e,_,_⟩|⟨aC,k,b,e,_,_,_⟩
 ·obtain⟨_,_,vs,_,dd⟩:=nG I.HH e
  exact dd.typeIs
 ·obtain⟨_,_,xs,_,dd⟩:=pY I.HH e
  exact dd.typeIs
def ae7 (td ty:TE):TE:=λσ H Q=>td σ H λx H1=>ty σ H1 λy H2=> ∃a v,x= .ref a/\gv H2 a y (EQ v)/\Q v H2
inductive B8 (y:V) (R:ET V->Hp->Prop) (x:V) (H2:Hp):Prop
 |mk (a:EJ) (o:ET V) (_:x= .ref a) (_:gv H2 a y o) (_:R o H2):B8 y R x H2
def aj9 (ty td:TE):TE:=λσ H Q=>ty σ H λy H1=>td σ H1 (B8 y (λo H2=>Q (.bl o.isSome) H2))
def Db (ty td:TE):TE:=λσ H Q=>ty σ H λy H1=>td σ H1 (B8 y (λo H2=>Q (.bl (!o.isSome)) H2))
def ae8 (td ty tv:TE):TS:=λD σ H=>tv σ H λv H1=>td σ H1 λx H2=>ty σ H2 λy H3=> ∃a H4,x= .ref a/\rp H3 a y v H4/\D.nx σ H4
section
variable {X:Cx}{o i e JM:G8}{pos MK aeU:Pos}{td ty tv:TE}
theorem jL (hu:X.A.units+1<OX) (ho:PE X o td) (hi:PE X i ty) (hs:Ej i):PE X (.Subscript o i pos) (ae7 td ty):=by
 intro pins s σ H Q I h;refine wK Qm.lookup hs (b9 (ho pins s σ H _ I h) λu s1 ⟨x,H1,I1,rx,q1⟩=>b9 (hi pins s1 σ H1 _ I1 q1) λiv s2 ⟨y,H2,I2,ry,a,v,ex,g,q2⟩=>?_);subst ex;obtain rfl:u=Fq a:=rx;exact#[rS I2 g,ym hu I2 g ry λw' s3 I3 S9=>#[v,H2,I3,S9,q2]]
theorem mZ (hu:X.A.units+1<OX) (hi:PE X i ty) (ho:PE X o td):PC X .In i o (aj9 ty td):=by
 intro pins s σ H Q I h;refine b9 (hi pins s σ H _ I h) λiv s1 ⟨y,H1,I1,ry,q1⟩=>b9 (ho pins s1 σ H1 _ I1 q1) λu s2 ⟨x,H2,I2,rx,a,ov,ex,g,q2⟩=>?_;subst ex;obtain rfl:u=Fq a:=rx;exact aj8 hu I2 g ry λs3 I3=>#[.bl ov.isSome,H2,I3,FS,q2]
theorem iW (hu:X.A.units+1<OX) (hi:PE X i ty) (ho:PE X o td):PC X .NotIn i o (Db ty td):=by
 intro pins s σ H Q I h;refine b9 (hi pins s σ H _ I h) λiv s1 ⟨y,H1,I1,ry,q1⟩=>b9 (ho pins s1 σ H1 _ I1 q1) λu s2 ⟨x,H2,I2,rx,a,ov,ex,g,q2⟩=>?_;subst ex;obtain rfl:u=Fq a:=rx;exact DB hu I2 g ry λs3 I3=>#[.bl (!ov.isSome),H2,I3,FS,q2]
theorem gQ (hu:X.A.units+1<OX) (ho:PE X o td) (hi:PE X i ty) (hv:PE X JM tv) (hs:K7 JM (EQ (.Subscript o i MK)) pos.line X.env=pure FM):
  PS X (.Assign [.Subscript o i MK] JM pos) (ae8 td ty tv):=by
 intro pins s σ H D I h;refine wpAny_Assign_Subscript (b9 (hv pins s σ H _ I h) λr s1 ⟨v,H1,I1,rv,q1⟩=>b9 (ho pins s1 σ H1 _ I1 q1) λu s2 ⟨x,H2,I2,rx,q2⟩=>b9 (hi pins s2 σ H2 _ I2 q2) λiv s3 ⟨y,H3,I3,ry,a,H4,ex,g,q3⟩=>?_) hs;subst ex;obtain rfl:u=Fq a:=rx;exact yf hu I3 g ry rv λs4 I4=>#[σ,H4,I4,q3]
end
theorem AY {P:Fz}{w:Ga}{H:Hp}(h:Gn) (hb:HN<h.objs.size):cw P w H (h.push { cls:= .type "dict",data:= .dict [].toArray }) h.objs.size (.dK []):=
 #[Fs _,beq_eq_false_iff_ne.mpr (HS (Gu hb)),[], .nil,Sv h]
def Z8:TE:=λ_ H Q=> ∀p,H p=Fa->Q (.ref p) (aF H p (.dK []))
section
variable {X:Cx}{pos:Pos}
theorem e9:PE X (.Dict [] [] pos) Z8:=λpins s σ H Q I h=>
 wpAny_Dict_empty #[.ref s.heap.objs.size,_,I.laid (a:=s.heap.objs.size) (o:= .dK []) (t':=s.toks) (λ_ _ q=>E2 _ q) (E6 _) (AY s.heap I.big),FS,h _ (I.HH.fresh (E6 _))]
end
def fM (aC more:EA (a0×V)):EA (a0×V):=more.foldl (λacc kv=>dy acc kv.1 kv.2) aC
theorem KV.merge: ∀ {more:EA (a0×V)}{rs:EA (a0×EH)}{aC:EA (a0×V)}{vs:EA (a0×EH)},KV more rs->KV aC vs->KV (fM aC more) (merged vs rs):=by
 intro more rs aC vs r;unfold KV at r
 induction r generalizing aC vs with
 |nil=>intro q;exact q
 | @cons p q ps qs h t ih=>
  intro r0;have e:KV (dy aC p.1 p.2) (stored vs q.1 q.2):=by
   have:=r0.put p.1 h.2;rw[<-h.1];exact this
  exact ih e
theorem gu: ∀(more aC:EA (a0×V)),(fM aC more).length<=aC.length+more.length
 |[],aC=>by show aC.length<=aC.length+0;lia
 |p::r,aC=>by
  have h1:=gu r (dy aC p.1 p.2)
  have h2:=cD aC p.1 p.2
  show(fM (dy aC p.1 p.2) r).length<=_
  rw[EZ];lia
structure M1 (X:Cx) (o:G8) (m:Fh) (Kx:Pos) (e:G8) (K5:Pos):Prop where
 base:HM o m X.env (eval o X.env)=eval o X.env
 few:((Ie K5 (Fb [e] X.env)).all (λx=>!x.1)&&(Kj K5 (IE [] X.env)).all (λx=>x.1.isSome)
  &&decide (([e]:EA G8).length+([]:EA Keyword).length+(if([]:EA Keyword).isEmpty then 0 else 1)<30))=FB
 line:(Kx.endLine == K5.line)=FB
 trees:Ie K5 (Fb [e] X.env)=[(FM,eval e X.env)]
def IsD (H:Hp) (a:EJ):Prop:=(∃aC,Rd H a (.dK aC))\/ ∃aC,Rd H a (.dT aC)
theorem Z9 {X:Cx}{pins:EA (EJ×Ih)}{σ:St}{H:Hp}{s:EM}{a:EJ}(I:aE X pins σ H s) (d:IsD H a):
  s.TypeIs (.ref a) "dict"/\(∀b,Fq a= .ref b-> ∃ob,s.heap.get? b=EQ ob/\ob.dict=Fa)/\(a == HN)=FM:=by
 rcases d with⟨aC,e⟩|⟨aC,e⟩
 ·obtain⟨_,hd,vs,_,dd⟩:=nG I.HH e
  refine#[dd.typeIs,λb q=>?_,hd];cases q;obtain⟨ob,_,_,h1,h2,_⟩:=dd;exact#[ob,h1,h2.2.1]
 ·obtain⟨_,hd,xs,_,dd⟩:=pY I.HH e
  refine#[dd.typeIs,λb q=>?_,hd];cases q;obtain⟨ob,_,_,h1,h2,_⟩:=dd;exact#[ob,h1,h2.2.1]
def aaa (td ty:TE):TE:=λσ H Q=>td σ H λx H1=> ∃a,x= .ref a/\IsD H1 a/\ty σ H1 λy H2=> ∃aC k v,H2 a=EQ (.dK aC)/\y=kV k/\bN aC k=EQ v/\Q v (aF H2 a (.dK (fD aC k)))
section
variable {X:Cx}{o e f:G8}{Kx K5:Pos}{td ty tx:TE}
theorem AA (ho:PE X o td) (he:PE X e ty) (m:M1 X o "pop" Kx e K5):PE X (.Call (.Attribute o "pop" Kx) [e] [] K5) (aaa td ty):=by
 intro pins s σ H Q I h;refine wpAny_Call_method m.base m.few m.line PySem.F.plainAttrs_dict Rn PySem.F.type_dict_pop (b9 (ho pins s σ H _ I h) λu s1 ⟨x,H1,I1,rx,a,ex,d,q1⟩=>?_);subst ex;obtain rfl:u=Fq a:=rx;obtain⟨t1,t2,_⟩:=Z9 I1 d;refine#[t1,t2,?_];rw[m.trees];refine KJ rfl (NC (Ks (b9 (he pins s1 σ H1 _ I1 q1) λiv s2 ⟨y,H2,I2,ry,aC,k,v,ea,ey,l,q2⟩=>KL ?_)));subst ey;exact ae5 I2 ea ry l (.inl rfl) λw' s3 I3 S9=>#[v,_,I3,S9,q2]
end
theorem tM:entryFor table "dict.update.loop"=EQ Builtin.«dict.update.loop»:=entryFor_of_tree (by kernel_rfl)
theorem iF:plainId "dict.update.loop"=FB:=by decide+kernel
theorem yn:Kr "zip"=EQ (.type "zip"):=by decide+kernel
end L2
namespace TL
open PySem PySem.Builtin PySem.Builtin.Str PySem.StrLaws
abbrev tl (x:Fh):EA E1:=x.cps.toList
theorem aab {x y:Fh}(h:tl x=tl y):x=y:=Fh.ext' (IQ.toList_inj.mp h)
theorem pD (x y:Fh):tl (x++y)=tl x++tl y:=by
 show(x++y).cps.toList=_
 rw[Fh.cps_append,IQ.toList_append]
def RZ (S:EA E1):EA (EA E1)->EA E1
 |[]=>[]
 |[p]=>p
 |p::q::r=>p++(S++RZ S (q::r))
theorem TV (y:Fh): ∀parts:EA Fh,tl (Yu y parts)=RZ (tl y) (parts.map tl)
 |[]=>rfl
 |[_]=>rfl
 |x::z::r=>by
  show tl (x++y++Yu y (z::r))=tl x++(tl y++RZ (tl y) ((z::r).map tl))
  rw[pD,pD,TV y (z::r),F4]
theorem join_eq (y:Fh) (parts:EA Fh):Ud y parts=Yu y parts:=glued_eq_join y parts
end TL
namespace L2
open PySem PySem.Spec PyProof.Rows
theorem gS: ∀ {ys:EA Fh}{us:EA EH},aX (ys.map V.str) us->StrsAre us ys
 |[],_, .nil=> .nil
 |y::ys,_, .cons r t=>by
  obtain⟨k,rfl⟩:=r;exact .cons y k (gS t)
section
variable {X:Cx}
theorem DR:MtR X "str.join" (λx xs H Q=> ∃a p,∃ys:EA Fh,x= .str a/\xs=[.ref p]/\(cO X.K H p (ys.map V.str)\/rh X.K H p (ys.map V.str))/\
  (ys.map (·.length)).sum+ys.length*a.length<=16777216/\Q (.str (Ud a ys)) H):=by
 intro pins s σ H x xs v us Q I rx rs h;obtain⟨a,p,ys,rfl,rfl,hp,hz,h⟩:=h;obtain⟨t,rfl⟩:=rx;cases rs with
 |cons r1 rs=>
  cases rs;cases r1;rcases hp with hp|hp
  ·obtain⟨Hc,r,⟨o,n,ho,hc,_,hd⟩,_⟩:=I.list hp
   exact PyProof.Rows.join_list (items:=Hc.toArray) #[o,ho,hc,n,hd] (by rw[T4];exact gS r) hz λt' k=>#[.str _,H,I.tok k,#[t',FS],h]
  ·obtain⟨Hc,r,ht,_⟩:=I.tuple hp
   exact PyProof.Rows.join_tuple (items:=Hc.toArray) ht (by rw[T4];exact gS r) hz λt' k=>#[.str _,H,I.tok k,#[t',FS],h]
end
section
variable {X:Cx}{o e:G8}{to te:TE}
def tM1 (r:V->EA V->Hp->VK->Prop) (to te:TE):TE:=λσ H Q=>to σ H λx H1=>(∃a,x= .str a)/\te σ H1 λy H2=>r x [y] H2 Q
theorem ae9 {id:String}{name:Fh}{Kx pos:Pos}{r:V->EA V->Hp->VK->Prop}(slot:Slot "str" name id) (ty:typeOf (.builtin id)=pure (.type "method_descriptor")) (rule:MtR X id r) (ho:PE X o to) (he:PE X e te)
  (hs:Fb [e] X.env=[(FM,eval e X.env)]:=by rfl) (Qj:HM o name X.env (eval o X.env)=eval o X.env:=by rfl) (Qk:(Kx.endLine == pos.line)=FB:=by rfl):
  PE X (.Call (.Attribute o name Kx) [e] [] pos) (tM1 r to te):=by
 intro pins s σ H Q I h;refine PySem.Call_method1 Qj hs Qk (b9 (ho pins s σ H _ I h) λv s1 ⟨x,H1,I1,r1,q1⟩=>?_);obtain⟨⟨a,rfl⟩,q1⟩:=q1;obtain⟨t,rfl⟩:=_root_.id r1;refine#["str",_,F.plainAttrs_str,slot,ty,Yp _ _ _,(λ_ e=>nomatch e),KJ rfl (NC (Ks ?_))]
 exact b9 (he pins s1 σ H1 _ I1 q1) λu s2 ⟨y,H2,I2,r2,q2⟩=>KL (rule pins s2 σ H2 _ [y] _ [u] Q I2 r1 (.cons r2 .nil) q2)
theorem C9 {Kx pos:Pos}(ho:PE X o to) (he:PE X e te) (hs:Fb [e] X.env=[(FM,eval e X.env)]:=by rfl) (Qj:HM o "join" X.env (eval o X.env)=eval o X.env:=by rfl) (Qk:(Kx.endLine == pos.line)=FB:=by rfl):
  PE X (.Call (.Attribute o "join" Kx) [e] [] pos) (tM1 (λx xs H Q=> ∃a p,∃ys:EA Fh,x= .str a/\xs=[.ref p]/\(cO X.K H p (ys.map V.str)\/rh X.K H p (ys.map V.str))/\
   (ys.map (·.length)).sum+ys.length*a.length<=16777216/\Q (.str (Ud a ys)) H) to te):=
 ae9 F.slot_str_join F.type_str_join DR ho he hs Qj Qk
end
abbrev E0:XK:=λ_ _ _=>False
theorem aY {X:Cx} :dg wG X E0:=λ_ _ _ _ _ _ _ h=>h.elim
section
variable {P:Fz}{w:Ga}{K:EF}{mg:Fh->ET EH}{base:Gn}
theorem oF.ok {x Gz:Fh}{st:Stmt}{f:EJ}{fd:FL}{N ps:EA Fh}{k:E1}{sp:Sp}(F:oF K x Gz st f fd) (S:az N ps (af st)) (len: ∀vs H Q E,sp vs H Q E->vs.length=ps.length)
  (Jc: ∀(Gp:EH) (A:Gk) (outer:EA Env) (s:EM) (H:Hp) (vs:EA V) (Q:VK) (E:XK),bW k (A.deeper (Jf Gz (af st) s.heap.objs.size f Gp))->sp vs H Q E->
   Bd (fi wG P w K mg base N Gz (af st) f Gp A outer s H E).nox (a8 st) { nx:=λ_ H'=>Q .HZ H',rt:=Q } (start N vs) H):bS P w K mg base wG (k+1) f fd ps sp:=by
 obtain⟨oc,od,kV,doc,pm,an,Gp,ct,VV,rfl,lk,RG⟩:=F.ex;refine Xp lk RG S len λA outer s H vs Q E hr SR=>?_;obtain⟨t,h,q⟩:=Jc Gp A outer s H vs Q E hr SR;exact#[t,h.nox,q]
end
theorem dq {A:Gk}{k:E1}(hr:bW k A):A.units+1<OX:=FP (Ux (by decide:1<=64) _) hr.units
section
variable {X:Cx}
theorem pv (i:E1) {x:Fh}{pos:Pos}(hN:X.N[i]?=EQ x:=by rfl) (hv:oH X.env.scope x:=by first|exact Gx rfl|exact Or.inr (Gx rfl)|exact Or.inr (Or.inr rfl)) (hd:(x == ("__debug__":Fh))=FM:=by decide)
  (RG:(x == ("__classdict__":Fh))=FM:=by decide):PE X (.Name x pos) (lj i):=dX hN hv hd RG
theorem ye:gF X (.builtin "len") (λxs H Q=> ∃a aC,xs=[V.ref a]/\H a=EQ (.dK aC)/\Q (.int aC.length) H):=by
 intro pins s σ H xs us Q I r h;obtain⟨a,aC,rfl,ha,q⟩:=h;obtain⟨u,rfl,ru⟩:=oj r;cases ru;exact ae6 I (.inl ha) λt s' I'=>#[.int aC.length,H,I',#[t,FS],q]
end
theorem bK {A B:Prop}(h:B):if FM=FB then A else B:=by
 rw[EI EE];exact h
theorem cg {A B:Prop}(h:A):if FB=FB then A else B:=by
 rw[EL rfl];exact h
def a9 (H H':Hp):Prop:= ∀b o,H b=EQ o->H' b=EQ o
theorem a9.refl (H:Hp):a9 H H:=λ_ _ h=>h
theorem a9.trans {H H1 H2:Hp}(a:a9 H H1) (b:a9 H1 H2):a9 H H2:=λc o h=>b c o (a c o h)
theorem a9.seq {K:EF}{H H':Hp}{a:EJ}{xs:EA V}(e:a9 H H') (h:cO K H a xs):cO K H' a xs:=by
 rcases h with(h|⟨o,h⟩)|h
 ·exact .inl (.inl (e _ _ h))
 ·exact .inl (.inr #[o,e _ _ h])
 ·exact .inr h
end L2
namespace OS
open PySem
structure yG (l:EA EJ) (ch:EA EJ) (a:EJ) (oe:Ih) (h h':Gn):Prop where
 keep: ∀b o,b∉l->b∉ch->h.get? b=EQ o->h'.get? b=EQ o
 slot: ∀b o,b∈l->b∉ch->h.get? b=EQ o-> ∃sl,h'.get? b=EQ { o with slots:=sl }
 there: ∀b o,h.get? b=EQ o-> ∃u,h'.get? b=EQ u
 fly: ∃vs T oT ts,h'.get? a=EQ #[oe.cls,oe.dict, .fields vs,oe.slots]/\vs[1]?=EQ (.ref T)/\h.objs.size<=T/\T≠a/\h'.get? T=EQ oT/\oT.data= .fields ts/\ts[3]?=EQ .none
theorem qJ {o:Ih}{vs:IQ EH}(hd:o.data= .fields vs) (f:IQ EH->IQ EH):o.mapFields f=#[o.cls,o.dict, .fields (f vs),o.slots]:=by
 obtain⟨c,d,dt,sl⟩:=o;cases hd
 rfl
section
variable {E:EH->EM->Prop}{base:Gn}{a:EJ}{Q:Mo->EM->Prop}
theorem mx {head:EH}{WJ:FR}(Rx:A.frames=EQ (env::outer)) (hl:s.heap.FunFrames base (env::outer)) (hf:env.frame=EQ L)
  (he:s.heap.get? a=EQ oe) (hd:oe.data= .fields vs) (hsz:1<vs.size)
  (h: ∀h',yG ((env::outer).filterMap (·.frame)) [a] a oe s.heap h'->Q () { s with heap:=h' }):
  Fl M A (frameOf env>>=λx=>entryPlaceOf L WJ>>=λpl=>QX head x .none (Nf L) .none pl>>=λb=>setField (.ref a) 1 b) (λ_ s'=>Fl M A (QW (.ref a) Fa) Q E s') E s:=by
 have na:a∉(env::outer).filterMap (·.frame):=λhm=>by
  obtain⟨_,o,ho,hn⟩:=hl.mem hm;rw[he] at ho;cases ho;exact hn vs hd
 refine E3 (wpAny_frameOf_fun Rx hl hf λh1 S=>E3 (wpAny_entryPlaceOf λpl Ma=>?_));unfold QX newFields;refine E3 (wpAny_newObj_type ?_ (Ma.sizeOk5 _ _ _ _ _));have e1:h1.get? a=EQ oe:=(S.2.1 a na).trans he;generalize ht:({ cls:= .type "traceback",dict:=Fa,data:= .fields ([head, .ref L, .none,Nf L, .none]++(if pl.isEmpty then Iz 6 Hn else pl)).toArray } :Ih)=tb
 have td:tb.data= .fields ([head, .ref L, .none,Nf L, .none]++(if pl.isEmpty then Iz 6 Hn else pl)).toArray:=by rw[<-ht]
 have tf:tb.isFreed=FM:=Ld td
 have e2:(h1.push tb).get? a=EQ oe:=E2 tb e1;refine SJ e2 hd hsz ?_
 have ne:h1.objs.size≠a:=KU (Fn e1)
 have hd3:=OU hd (·.setIfInBounds 1 (Fq h1.objs.size))
 have e3:=IU (HD (·.setIfInBounds 1 (Fq h1.objs.size))) e2 (Ld hd3)
 have t3:((h1.push tb).update a (HD (·.setIfInBounds 1 (Fq h1.objs.size)))).get? h1.objs.size=EQ tb:=
  (GA (h1.push tb) _ (HS ne)).trans (Gy h1 tf)
 unfold QW;refine E3 (wpAny_field e3 hd3 (x:= .ref h1.objs.size) (by simp [hsz]) ?_);rw[EL (show(Fq h1.objs.size !=Hn)=FB from by simp)];have sz3:3<([head, .ref L, .none,Nf L, .none]++(if pl.isEmpty then Iz 6 Hn else pl)).toArray.size:=by
  simp only[F8,Fc,EZ,JK];lia
 refine SJ t3 td sz3 (h _ ?_);have other: ∀b,b≠a->b≠h1.objs.size-> ∀f,(((h1.push tb).update a (HD (·.setIfInBounds 1 (Fq h1.objs.size)))).update h1.objs.size f).get? b=(h1.push tb).get? b:=λb x y f=>by
  rw[GA _ _ (HS y),GA _ _ (HS x)]
 have old: ∀b o,s.heap.get? b=EQ o->b≠h1.objs.size:=λb o q=>by
  rw[S.1];exact Gu (Fn q)
 have d4:=OU td (·.setIfInBounds 3 ((Fa:ET EJ).elim Hn λf=>Nf f))
 have t4:=IU (HD (·.setIfInBounds 3 ((Fa:ET EJ).elim Hn λf=>Nf f))) t3 (Ld d4)
 have a4:(((h1.push tb).update a (HD (·.setIfInBounds 1 (Fq h1.objs.size)))).update h1.objs.size (HD (·.setIfInBounds 3 ((Fa:ET EJ).elim Hn λf=>Nf f)))).get? a=EQ #[oe.cls,oe.dict, .fields (vs.setIfInBounds 1 (Fq h1.objs.size)),oe.slots]:=by
  rw[GA _ _ ne,e3,qJ hd]
 refine#[λb o nl nc q=>?_,λb o hb nc q=>?_,λb o q=>?_,?_]
 ·rw[other b (λz=>nc (by rw[z];exact EO)) (old b o q)]
  exact E2 tb ((S.2.1 b nl).trans q)
 ·obtain⟨sl,z⟩:=S.2.2 b o q
  exact#[sl,by rw[other b (λy=>nc (by rw[y];exact EO)) (old b o q)];exact E2 tb z]
 ·by_cases ba:b=a
  ·rw[ba];exact#[_,a4]
  ·obtain⟨sl,z⟩:=S.2.2 b o q
   exact#[_,by rw[other b ba (old b o q)];exact E2 tb z]
 ·refine#[_,h1.objs.size,_,_,a4,by simp [hsz],JG S.1.symm,ne,t4,d4,?_]
  simp
theorem xN (Rx:A.frames=EQ (env::outer)) (hl:s.heap.FunFrames base (env::outer)) (hf:env.frame=EQ L)
  (he:s.heap.get? a=EQ oe) (hd:oe.data= .fields vs) (h1:vs[1]?=EQ .none)
  (h: ∀h',yG ((env::outer).filterMap (·.frame)) [a] a oe s.heap h'->Q () { s with heap:=h' }):Fl M A (leaving env (.ref a)) Q E s:=by
 unfold leaving Pd;simp only[hf];refine E3 (E3 (wpAny_field he hd h1 ?_));rw[EI [01]];exact mx Rx hl hf he hd (JT.mp h1).1 h
theorem wd (Rx:A.frames=EQ (env::outer)) (hl:s.heap.FunFrames base (env::outer)) (hf:env.frame=EQ L)
  (he:s.heap.get? a=EQ oe) (hd:oe.data= .fields vs) (h1:vs[1]?=EQ (.ref T)) (ne:T≠a) (hT:s.heap.get? T=EQ oT) (hdT:oT.data= .fields ts) (h3:ts[3]?=EQ .none)
  (h: ∀h',yG ((env::outer).filterMap (·.frame)) [a,T] a oe s.heap h'->Q () { s with heap:=h' }):Fl M A (Pd (.ref a) env) (λ_ s'=>Fl M A (QW (.ref a) Fa) Q E s') E s:=by
 unfold Pd;simp only[hf];refine E3 (wpAny_field he hd h1 ?_);rw[EL (show(Fq T !=Hn)=FB from by simp)];refine E3 (wpAny_field hT hdT h3 ?_);rw[EI (show¬((Hn == Nf L)=FB) from by simp [Nf])];refine E3 (SJ hT hdT (JT.mp h3).1 ?_);have other: ∀b,b≠T->(s.heap.update T (HD (·.setIfInBounds 3 Hn))).get? b=s.heap.get? b:=λb hb=>GA _ _ (HS hb)
 have nT:T∉(env::outer).filterMap (·.frame):=λhm=>by
  obtain⟨_,o,ho,hn⟩:=hl.mem hm;rw[hT] at ho;cases ho;exact hn ts hdT
 have sT:=IU (HD (·.setIfInBounds 3 Hn)) hT (Ld (OU hdT _));refine mx (s:= { s with heap:=s.heap.update T (HD (·.setIfInBounds 3 Hn)) }) Rx (hl.of_keeps λb o hb hn=>#[o,(other b λq=>by rw[q,hT] at hb;cases hb;exact hn ts hdT).trans hb,FS]) hf ((other a (HS ne)).trans he) hd (JT.mp h1).1 λh' X=>h h' ?_
 have size:(s.heap.update T (HD (·.setIfInBounds 3 Hn))).objs.size=s.heap.objs.size:=Gn.size_after_update ..;refine#[λb o nl nc q=>X.keep b o nl (λz=>nc (by rcases EW.mp z with z|z;rw[z];exact EO;cases z)) ((other b λz=>nc (by rw[z];simp)).trans q),
  λb o hb nc q=>X.slot b o hb (λz=>nc (by rcases EW.mp z with z|z;rw[z];exact EO;cases z)) ((other b λz=>nc (by rw[z];simp)).trans q),λb o q=>?_,?_]
 ·by_cases bT:b=T
  ·rw[bT];exact X.there T _ sT
  ·exact X.there b o ((other b bT).trans q)
 ·obtain⟨ws,T',oT',ts',x1,x2,x3,x4⟩:=X.fly
  exact#[ws,T',oT',ts',x1,x2,by rw[<-size];exact x3,x4]
theorem Cq (Rx:A.frames=EQ (env::outer)) (hl:s.heap.FunFrames base (env::outer)) (hf:env.frame=EQ L)
  (he:s.heap.get? a=EQ oe) (hd:oe.data= .fields vs) (h1:vs[1]?=EQ (.ref T)) (ne:T≠a) (hT:s.heap.get? T=EQ oT) (hdT:oT.data= .fields ts) (h3:ts[3]?=EQ .none)
  (h: ∀h',yG ((env::outer).filterMap (·.frame)) [a,T] a oe s.heap h'->Q () { s with heap:=h' }):Fl M A (leaving env (.ref a)) Q E s:=by
 unfold leaving;exact E3 (wd Rx hl hf he hd h1 ne hT hdT h3 h)
end
end OS
namespace OS
open PySem
section
variable {prog:Fz}{w:Ga}{A:Gk}{E:EH->EM->Prop}{h:Gn}{g:IQ Qu}{d:Drawn}{t:E1}{os:OsState}
variable {nm q:Fh}{C N:EJ}{bs bm bmB:EA EH}{R7:FR}{sn:EA Fh}{sub:EA EH}{ab:FR}{col:ET FR}{dd:ET EJ}{k0 k1 k2 k3 k5:ET EH}{B JD Nw:String}
def LA (h:Gn) (l:EA EH) (name:Fh) (y:ET EH):Prop:= ∀(M:Model) (A:Gk) (E:EH->EM->Prop) (g:IQ Qu) (d:Drawn) (t:E1) (os:OsState) (Q:ET EH->EM->Prop),Q y #[h,g,d,t,os]->Fl M A (lookupAlong l name) Q E #[h,g,d,t,os]
theorem LA.of (m:mroOf (.type B)=pure l) (k:Hg (.type B) name=pure y):LA h l name y:=by
 rw[typeLookup_eq,m] at k;intro M A E g d t os Q q;rw[show lookupAlong l name=pure y from k];exact Fx q
theorem LA.own {a:EJ}{mA:Fh->ET EH}(o:h.get? a=EQ #[c0,da, .cls cd,sl]) (n:h.Ns cd.ns mA) (z:mA name=Fa) (k:LA h l name y):LA h (.ref a::l) name y:=by
 intro M A E g d t os Q q;rw[lookupAlong_cons];refine E3 (wpAny_classOwn_cls o n ?_);rw[z];exact k M A E g d t os Q q
theorem gY {mN:Fh->ET EH}{Q:ET EH->EM->Prop}(hC:h.get? C=EQ (HF nm q C N bs bm R7 sn sub ab col dd k0 k1 k2 k3 k5 JD)) (n:h.Ns N mN) (k:mN name=Fa->LA h bm name y)
  (q:Q (match mN name with|some v=>EQ v|none=>y) #[h,g,d,t,os]):Fl M A (Hg (.ref C) name) Q E #[h,g,d,t,os]:=by
 rw[typeLookup_eq];refine E3 (wpAny_mroOf_exc hC ?_);rw[lookupAlong_cons];refine E3 (wpAny_classOwn_exc hC n ?_);cases z:mN name with
 |some v=>rw[z] at q;exact Fx q
 |none=>rw[z] at q;exact k z M A E g d t os Q q
abbrev df (C T:EJ):Ih:= { cls:= .ref C,data:= .fields [.ref T, .none, .none, .none, .bool FM, .none].toArray }
abbrev eM (l:EA EH):Ih:= { cls:= .type "tuple",data:= .seq l.toArray }
def wU (x:EJ) (Q:EH->EM->Prop) (E:EH->EM->Prop) (r:Result) (s':EM):Prop:=match r with
 | .ok (.ret v)=>v= .none/\Q (.ref x) s'
 | .ok _=>False
 | .error e=>E e s'
structure Up (bm l:EA EH) (B:String):Prop where
 b:l.contains (.type B)=FB
 a:l.contains (.type "AttributeError")=FM
 n:l.contains (.type "NameError")=FM
theorem Cs (F:Mv B JD Nw bmB) (U:Up bm (.ref C::bm) B) {Q:Mo->EM->Prop}(hC:h.get? C=EQ (HF nm q C N bs bm R7 sn sub ab col dd k0 k1 k2 k3 k5 JD)) (z:Q () #[h,g,d,t,os]):Fl M A (IY JD #[.ref C::rest,[]]) Q E #[h,g,d,t,os]:=by
 have u:=U.b
 have st:=F.noStar;simp only[F.newRow,F.newSplit,F.newKind,IY]
 repeat (first|(refine wpAny_isSubtype_exc hC ?_;rw[u])|refine FW hC ?_|refine wpAny_madeBy_exc hC ?_|refine wpAny_staticBase_exc hC ?_|simp only[bne_self_eq_false,Ii,L5]|wp_step)
 exact z
theorem BS (F:Mv B JD Nw bmB) (U:Up bm (.ref C::bm) B) {R:Result->EM->Prop}(hC:h.get? C=EQ (HF nm q C N bs bm R7 sn sub ab col dd k0 k1 k2 k3 k5 JD)) (z:R (.ok (.ret (.ref (h.objs.size+1)))) #[(h.push (eM rest)).push (df C h.objs.size),g,d,t,os]) (TX:rest.length<=FE):
  KP (model prog w) A (.builtin JD #[.ref C::rest,[]]) R #[h,g,d,t,os]:=by
 have alI:=F.ends
 have u1:=U.b
 have u2:=U.a
 have u3:=U.n;refine codeAny_builtinAt F.entry ?_;unfold Builtin.«BaseException.__new__»;refine wpAt_bind ?_
 show wpAt _ _ _ (stack>>=_) _ _ _
 refine wpAt_bind (wpAt_stack λ_ _=>wpAt_of_wpAny ?_)
 wp_walk
 refine wpAt_of_wpAny ?_;rw[F.owner]
 repeat (first|(with_reducible refine wpAny_isSubtype_exc hC ?_;first|rw[u1]|rw[u2]|rw[u3])|with_reducible refine wpAny_madeHere_exc F.canon hC ?_|with_reducible refine FW hC ?_|wp_step)
 show R _ _
 rw[Hf];exact z
theorem xD (F:Mv B JD Nw bmB) (U:Up bm (.ref C::bm) B) {Q:Mo->EM->Prop}
  (hC:h.get? C=EQ (HF nm q C N bs bm R7 sn sub ab col dd k0 k1 k2 k3 k5 JD)) (he:h.get? e=EQ oe) (ZI:oe.cls= .ref C) (z:Q () #[h,g,d,t,os]):Fl M A (IY Nw #[.ref e::rest,[]]) Q E #[h,g,d,t,os]:=by
 have u:=U.b
 have st:=F.noStar;simp only[F.initRow,F.initSplit,F.initKind,IY]
 repeat (first|(with_reducible refine wpAny_isSubtype_exc hC ?_;rw[u])|(with_reducible refine FW he ?_;rw[ZI])|with_reducible refine FW hC ?_|wp_step)
 refine wpAny_onRaise ?_;rw[show∀(a b:String) (n:E1),Bind.check #[.positional,"*",B, .self,[#["args", .varPos,FM]]] a b n (EA.map (λx=>x.1) ({ pos:=Fq e::rest } :Args).kw)=pure () from λ_ _ _=>check_star_args _ _ _ _ _ _];exact Fx z
theorem oK (F:Mv B JD Nw bmB) (U:Up bm (.ref C::bm) B) {mN:Fh->ET EH}{Q:Fin->EM->Prop}
  (hC:h.get? C=EQ (HF nm q C N bs bm R7 sn sub ab col dd k0 k1 k2 k3 k5 JD)) (hn:h.Ns N mN) (WK:mN "__init__"=EQ (.ref fI)) (hI:h.get? fI=EQ oI) (hIc:oI.cls= .type "function")
  (hq:KP (model prog w) A (.call (.ref fI) #[.ref (h.objs.size+1)::rest,[]]) (wU (h.objs.size+1) (λv s'=>Q (.done (.ret v)) s') E) #[(h.push (eM rest)).push (df C h.objs.size),g,d,t,os])
  (TX:rest.length<=FE):
  Fl (model prog w) A (Builtin.«type.__call__» #[.ref C::rest,[]]) Q E #[h,g,d,t,os]:=by
 repeat (first|with_reducible refine FW hC ?_|with_reducible refine wpAny_madeBy_exc hC ?_|wp_step)
 refine codeAny_call_builtin_code (Uz _ F.quiet) (Cs F U hC ?_);refine BS F U hC ?_ TX;show Fl _ _ _ _ _ _;have c1:((h.push (eM rest)).push (df C h.objs.size)).get? C=EQ (HF nm q C N bs bm R7 sn sub ab col dd k0 k1 k2 k3 k5 JD):=E2 _ (E2 _ hC);have n1:((h.push (eM rest)).push (df C h.objs.size)).Ns N mN:=
  let ⟨o,es,ep,e,r⟩:=hn;#[o,es,ep,E2 _ (E2 _ e),r]
 have i1:((h.push (eM rest)).push (df C h.objs.size)).get? fI=EQ oI:=E2 _ (E2 _ hI)
 have e1:((h.push (eM rest)).push (df C h.objs.size)).get? (h.objs.size+1)=EQ (df C h.objs.size):=by heap_get
 have hcC:(Fq C::bm).contains (.ref C)=FB:=by simp
 unfold Yq
 repeat (first|with_reducible refine FW e1 ?_|(with_reducible refine wpAny_isSubtype_exc c1 ?_;rw[hcC])|wp_step)
 show Fl _ _ (Hg (.ref C) _) _ _ _
 refine gY (y:=Fa) c1 n1 (λz=>by rw[WK] at z;cases z) ?_;rw[WK];refine Nc ?_;unfold bindSpecial;refine E3 (E3 ?_);have hT:(⟨(h.push (eM rest)).push (df C h.objs.size),g,d,t,os⟩:EM).TypeIs (.ref fI) "function":=#[_,i1,hIc];refine U4 hT (Fx (E3 (P2 (Mu hq λr s' z=>?_))));rcases r with e|(v|_|_|_)
 ·exact z
 ·exact z.elim
 ·exact z.elim
 ·exact z.elim
 ·obtain⟨rfl,z⟩:=z
  exact Fx (Fx z)
theorem Ap (F:Mv B JD Nw bmB) (U:Up bm (.ref C::bm) B) {mN:Fh->ET EH}{R:Result->EM->Prop}
  (hC:h.get? C=EQ (HF nm q C N bs bm R7 sn sub ab col dd k0 k1 k2 k3 k5 JD)) (hn:h.Ns N mN) (WK:mN "__init__"=EQ (.ref fI)) (hI:h.get? fI=EQ oI) (hIc:oI.cls= .type "function")
  (hq:KP (model prog w) (A.under (.builtin "type.__call__" #[.ref C::rest,[]])) (.call (.ref fI) #[.ref (h.objs.size+1)::rest,[]]) (wU (h.objs.size+1) (λv s'=>R (.ok (.ret v)) s') (λe s'=>R (.error e) s')) #[(h.push (eM rest)).push (df C h.objs.size),g,d,t,os])
  (TX:rest.length<=FE):
  KP (model prog w) A (.call (.ref C) #[rest,[]]) R #[h,g,d,t,os]:=by
 have f1:=tc_lookup
 have f2:=tc_bind (.ref C)
 have hT:(⟨h,g,d,t,os⟩:EM).TypeIs (.ref C) "type":=#[_,hC,FS];refine codeAny_of_tree ?_
 show Fl _ _ (callAny (.ref C) _) _ _ _
 repeat (any_goals (first|assumption|with_reducible refine FW hC ?_|wp_step))
 refine#[FS,?_];refine codeAny_call_builtin_at (Uz _ [00]) entry_typeCall (wpAny_check_type_call_sub hC (oK F U hC hn WK hI hIc ?_ TX));exact hq
theorem yo (F:Mv B JD Nw bmB) (U:Up bm (.ref C::bm) B) {R:Result->EM->Prop}
  (hC:h.get? C=EQ (HF nm q C N bs bm R7 sn sub ab col dd k0 k1 k2 k3 k5 JD)) (he:h.get? e=EQ (df C T))
  (hq:R (.ok (.ret .none)) #[(h.push (eM [])).update e (HD (·.setIfInBounds 0 (.ref h.objs.size))),g,d,t,os]):
  KP (model prog w) A (.call (.builtin Nw) #[[.ref e],[]]) R #[h,g,d,t,os]:=by
 refine OT F.init.plain F.initEntry (xD F U hC he rfl ?_);unfold Builtin.«BaseException.__init__»
 wp_walk
 exact hq
end
theorem afa:Hg (.type "Exception") "__getattribute__"=pure (EQ (.builtin "BaseException.__getattribute__")):=by rw[JV,Iv];kernel_rfl
theorem afb:Hg (.type "Exception") "__getattr__"=pure Fa:=by rw[JV,Iv];kernel_rfl
theorem wm:Slot "Exception" "__getattribute__" "BaseException.__getattribute__":=
 .of (owner:="BaseException") (n:="__getattribute__") (by rw[JV,Iv];kernel_rfl) [00] [00] [00]
  (by first|exact .inl [00]|exact .inr [00]) (by rw[isSubtype_type];kernel_rfl)
section
open Builtin Builtin.ObjectAttr
variable {prog:Fz}{w:Ga}{A:Gk}{E:EH->EM->Prop}{h:Gn}{g:IQ Qu}{d:Drawn}{t:E1}{os:OsState}
variable {nm q:Fh}{C N x:EJ}{bs bm:EA EH}{sn:EA Fh}{sub:EA EH}{ab:FR}{col:ET FR}{dd:ET EJ}{k0 k1 k2 k3 k5:ET EH}{JD:String}
 {mN mA:Fh->ET EH}{name:Fh}{v:EH}
theorem zh {Q:Vi->EM->Prop}
  (hC:h.get? C=EQ (HF nm q C N bs bm FB sn sub ab col dd k0 k1 k2 k3 k5 JD)) (hn:h.Ns N mN) (hna:mN name=Fa)
  (hB:LA h bm name Fa) (I:h.Inst x C mA) (hv:mA name=EQ v) (hq:Q (.done (.ret v)) #[h,g,d,t,os]):
  Fl (model prog w) A (Builtin.«object.__getattribute__» #[[.ref x, .str name tk],[]]) Q E #[h,g,d,t,os]:=by
 obtain⟨o,hx,hc,hnc,hd⟩:=I;rcases hd with⟨_,hmA⟩|⟨dx,Ur,hne,hns⟩
 ·rw[hmA name] at hv;cases hv
 unfold Builtin.«object.__getattribute__»
 repeat (first|(with_reducible refine FW hx ?_;rw[hc])|(with_reducible refine gY hC hn (λ_=>hB) ?_;rw[hna])|wp_step)
 split
 ·rename_i c RG
  exact E7 RG (hnc c)
 unfold instanceDict
 repeat (first|(with_reducible refine FW hx ?_;rw[hc])|with_reducible refine FW hC ?_|wp_step)
 rw[Ur]
 repeat (first|(with_reducible refine wpAny_nsGet hns.ns ?_;rw[hv])|wp_step)
 exact hq
theorem yT (hcB:(Fq C::bm).contains (.type "BaseException")=FB) {Q:Mo->EM->Prop}(hC:h.get? C=EQ (HF nm q C N bs bm FB sn sub ab col dd k0 k1 k2 k3 k5 JD))
  (hx:h.get? x=EQ o) (hc:o.cls= .ref C) (hq:Q () #[h,g,d,t,os]):Fl M A (IY "BaseException.__getattribute__" #[[.ref x,hU],[]]) Q E #[h,g,d,t,os]:=by
 have hk:builtinKind "BaseException.__getattribute__"=EQ .slot:=by decide+kernel
 have aac:splitId "BaseException.__getattribute__"=EQ ("BaseException","__getattribute__"):=by decide+kernel
 have ha:=PySem.F.args_bexc_ga (.ref x) hU;simp only[IY,hk,aac];refine E3 ?_;unfold Yq
 repeat (first|(with_reducible refine FW hx ?_;rw[hc])|(with_reducible refine wpAny_isSubtype_exc hC ?_;rw[hcB])|wp_step)
 exact hq
theorem DG (hcB:(Fq C::bm).contains (.type "BaseException")=FB) (l1:LA h bm "__getattribute__" (EQ (.builtin "BaseException.__getattribute__"))) (l2:LA h bm "__getattr__" Fa) {Q:EH->EM->Prop}
  (hC:h.get? C=EQ (HF nm q C N bs bm FB sn sub ab col dd k0 k1 k2 k3 k5 JD)) (hn:h.Ns N mN) (hng:mN "__getattribute__"=Fa) (hnh:mN "__getattr__"=Fa) (hna:mN name=Fa)
  (hB:LA h bm name Fa) (I:h.Inst x C mA) (hv:mA name=EQ v) (hh:handedOut v=pure v) (hq:Q v #[h,g,d,t+1,os]):
  Fl (model prog w) A (Sg (.ref x) name expr) Q E #[h,g,d,t,os]:=by
 obtain⟨o,hx,hc,_⟩:=id I;have f3:=wm.bind (.ref x);have hx0:(expr&&onTheHeap (Li "BaseException.__getattribute__"))=FM:=by cases expr<;>rfl
 have hx2:(Li "BaseException.__getattribute__" == Li "object.__getattribute__")=FM:=by decide+kernel
 have hx1:(onTheHeap (Fq C)&&Li "BaseException.__getattribute__" == Li "object.__getattribute__")=FM:=by rw[hx2];rfl
 have hx3:onTheHeap (Fq C)=FB:=rfl;unfold Sg getAttrBy
 repeat (any_goals (first|assumption|(with_reducible refine FW hx ?_;rw[hc])|(with_reducible refine gY hC hn (λ_=>l1) ?_;rw[hng])|(with_reducible refine gY hC hn (λ_=>l2) ?_;rw[hnh])|wp_step))
 exact OT wm.plain PySem.F.entry_bexc_ga (yT hcB hC hx hc (zh hC hn hna hB I hv (by show Fl _ _ (handedOut v) _ _ _;rw[hh];exact Fx hq)))
end
end OS
namespace OS
open PySem
section
open Builtin Builtin.ObjectAttr
variable {prog:Fz}{w:Ga}{A:Gk}{E:EH->EM->Prop}{h:Gn}{g:IQ Qu}{d:Drawn}{t:E1}{os:OsState}
variable {nm q:Fh}{C N x R:EJ}{bs bm:EA EH}{sn:EA Fh}{sub:EA EH}{ab:FR}{col:ET FR}{dd:ET EJ}{k0 k1 k2 k3 k5:ET EH}{JD:String}
 {mN mA:Fh->ET EH}{name:Fh}{v:EH}{o:Ih}{vs:IQ EH}{sa owner B:String}
theorem Ei {Q:Mo->EM->Prop}(SF:LP B bm sa owner) (hC:h.get? C=EQ (HF nm q C N bs (.ref R::bm) FB sn sub ab col dd k0 k1 k2 k3 k5 JD)) (hx:h.get? x=EQ o) (hc:o.cls= .ref C) (z:Q () #[h,g,d,t,os]):
  Fl M A (IY sa #[[.ref x,y,v],[]]) Q E #[h,g,d,t,os]:=by
 have u:(Fq C:: .ref R::bm).contains (.type owner)=FB:=by rw[FY,FY,SF.hasOwner,Pk,Pk]
 have ha:=SF.args (.ref x) y v;simp only[SF.split,SF.kind,IY];refine E3 ?_;unfold Yq
 repeat (first|(with_reducible refine wpAny_isSubtype_exc hC ?_;rw[u])|(with_reducible refine FW hx ?_;rw[hc])|wp_step)
 cases hs:Manifest.signature? sa with
 |none=>exact Fx z
 |some r=>
  simp only[argsOk,hs] at ha;show Fl M A (WX sa r #[[.ref x,y,v],[]]) Q E _;rw[show WX sa r #[[.ref x,y,v],[]]=pure () from ha];exact Fx z
theorem AF {Q:Vi->EM->Prop}(SF:LP B bm sa owner) (hC:h.get? C=EQ (HF nm q C N bs (.ref R::bm) FB sn sub ab col dd k0 k1 k2 k3 k5 JD)) (hn:h.Ns N mN) (hna:mN name=Fa)
  (hB:LA h (.ref R::bm) name Fa) (hx:h.get? x=EQ o) (hc:o.cls= .ref C) (hdn:o.dict=Fa) (hfd:o.data= .fields vs)
  (hq: ∀h' Ta,(∀b ob,b≠x->h.get? b=EQ ob->h'.get? b=EQ ob)->h'.get? x=EQ #[o.cls,EQ h.objs.size,o.data,o.slots]->h'.Ns1 h.objs.size (λy=>if y=name then EQ v else Fa)->
   Q (.done (.ret .none)) #[h',g,d,Ta,os]):
  Fl (model prog w) A (Builtin.«object.__setattr__» #[[.ref x, .str name tk,v],[]]) Q E #[h,g,d,t,os]:=by
 have VD:=SF.passes (.ref x);unfold Builtin.«object.__setattr__»
 repeat (first|rw[refuse_eq]|(rw[refuseLoop_ref,refuseLoop_ref,VD])|(with_reducible refine FW hx ?_;rw[hc])|with_reducible refine wpAny_mroOf_exc hC ?_|(with_reducible refine gY hC hn (λ_=>hB) ?_;rw[hna])|wp_step)
 rw[hdn,EI (by simp [typeHasDict])];split
 ·rename_i z
  cases z
 split
 ·rename_i c z
  rw[hfd] at z;cases z
 ·have x1:(h.push { cls:= .type "dict",data:= .dict [].toArray }).get? x=EQ o:=E2 _ hx
  have ne:x≠h.objs.size:=Gu (Fn hx);refine E3 (wpAny_alloc' ?_);refine E3 (wpAny_update' x1 ?_);refine Fx ?_
  have hgd:((h.push { cls:= .type "dict",data:= .dict [].toArray }).update x λo=> { cls:=o.cls,dict:=EQ h.objs.size,data:=o.data,slots:=o.slots }).get? h.objs.size
    =EQ { cls:= .type "dict",data:= .dict [].toArray } :=
   (T5 _ _ _ _ ne.symm).trans (Gn.get?_push_at rfl rfl)
  have CY:((h.push { cls:= .type "dict",data:= .dict [].toArray }).update x λo=> { cls:=o.cls,dict:=EQ h.objs.size,data:=o.data,slots:=o.slots }).Ns h.objs.size (λ_=>Fa):=
   #[_, [].toArray,_,hgd,FS,λe he=>E7 he (by simp),λ_=>rfl]
  show Fl _ _ (storeInDict h.objs.size (.str name tk) name v) _ _ _
  unfold storeInDict newKeyGuard;refine E3 (Fx (E3 (U3 (Og CY) λh' Xj hs=>?_)));obtain⟨oD,esD,epD,hoD,hdD,hcD⟩:=Xj.count (Yv name v Within.nil);refine E3 (QT hoD (by rw[hdD];exact QU (Fj hcD (by rw[EZ,JK,Ht];lia))) ?_)
  wp_walk
  refine hq h' _ (λb ob hb e=>?_) ?_ Xj
  ·exact(hs.2 b (Gu (Fn e))).trans ((T5 _ _ _ _ hb).trans (E2 _ e))
  ·refine(hs.2 x ne).trans (IU _ x1 ?_)
   have Rx:=(Gn.get?_some_iff.mp hx).2;obtain⟨oc,od,odt,VV⟩:=o;cases odt<;>first|rfl|exact Rx
theorem AZ {Q:Vi->EM->Prop}(SF:LP B bm sa owner) (hC:h.get? C=EQ (HF nm q C N bs (.ref R::bm) FB sn sub ab col dd k0 k1 k2 k3 k5 JD)) (hn:h.Ns N mN) (hna:mN name=Fa)
  (hB:LA h (.ref R::bm) name Fa) (hx:h.get? x=EQ o) (hc:o.cls= .ref C) (Ur:o.dict=EQ dx) (hd:h.Ns1 dx mA) (hw:Within mA ns) (hsz:ns.length<=1000)
  (hq: ∀h' Ta,(∀b ob,b≠dx->h.get? b=EQ ob->h'.get? b=EQ ob)->h'.Ns1 dx (λy=>if y=name then EQ v else mA y)->Q (.done (.ret .none)) #[h',g,d,Ta,os]):
  Fl (model prog w) A (Builtin.«object.__setattr__» #[[.ref x, .str name tk,v],[]]) Q E #[h,g,d,t,os]:=by
 have VD:=SF.passes (.ref x);unfold Builtin.«object.__setattr__»
 repeat (first|rw[refuse_eq]|(rw[refuseLoop_ref,refuseLoop_ref,VD])|(with_reducible refine FW hx ?_;rw[hc])|with_reducible refine wpAny_mroOf_exc hC ?_|(with_reducible refine gY hC hn (λ_=>hB) ?_;rw[hna])|wp_step)
 rw[Ur];refine Fx ?_;show Fl _ _ (storeInDict dx (.str name tk) name v) _ _ _;unfold storeInDict newKeyGuard;refine E3 (Fx (E3 (U3 hd λh' n' hs=>?_)));obtain⟨o1,es1,ep1,h1,d1,c1⟩:=n'.count (Yv name v hw);refine E3 (QT h1 (by rw[d1];exact QU (Fj c1 (by rw[EZ,Ht];lia))) ?_)
 wp_walk
 exact hq h' _ (λb ob hb e=>(hs.2 b hb).trans e) n'
theorem vM {Q:Mo->EM->Prop}(SF:LP B bm sa owner) (hC:h.get? C=EQ (HF nm q C N bs (.ref R::bm) FB sn sub ab col dd k0 k1 k2 k3 k5 JD)) (hn:h.Ns N mN) (hns:mN "__setattr__"=Fa) (l:LA h (.ref R::bm) "__setattr__" (EQ (.builtin sa))) (hx:h.get? x=EQ o) (hc:o.cls= .ref C)
  (hq: ∀tk t,Fl (model prog w) A.in1 (Builtin.«object.__setattr__» #[[.ref x, .str name tk,v],[]]) (λf s'=>f= .done (.ret .none)/\Q () s') (λ_ _=>False) #[h,g,d,t,os]):
  Fl (model prog w) A (Sh (.ref x) name v) Q E #[h,g,d,t,os]:=by
 have f3:=SF.slot.bind (.ref x);unfold Sh callSpecial? specialOf
 repeat (any_goals (first|assumption|(with_reducible refine FW hx ?_;rw[hc])|(with_reducible refine gY hC hn (λ_=>l) ?_;rw[hns])|wp_step))
 refine OT SF.slot.plain SF.entry (Ei SF hC hx hc (HP (hq _ _) (λf s' z=>?_) λ_ _ z=>z.elim));obtain⟨rfl,z⟩:=z
 repeat (any_goals (first|assumption|wp_step))
end
end OS
namespace OS
open PySem PySem.Spec L2
open PyProof.Rows hiding St
def CT (H:Hp) (ch:EA EJ):Hp:=λb=>if b∈ch then Fa else H b
theorem eY {H:Hp}(h:b∉ch):CT H ch b=H b:=EI h
theorem nM {H:Hp}(h:b∈ch):CT H ch b=Fa:=EL h
theorem BO {H:Hp}(h: ∀b∈ch,H b=Fa):CT H ch=H:=by
 funext b
 by_cases hb:b∈ch
 ·rw[nM hb,h b hb]
 ·exact eY hb
theorem DA {H:Hp}{a:EJ}(I:aE X pins σ H s) (hex:X.ex=[])
  (L:yG (rl X.stack) ch a oe s.heap h') (S7: ∀b∈ch,X.OZ.heap.objs.size<=b) (htr: ∀b∈ch,H b=Fa\/ ∃φ,H b=EQ (.ext φ)):
  Un X.fs [] X.H_0 (CT H ch) X.OZ.heap h'/\h9 X.prog X.w (CT H ch) h':=by
 have old: ∀b o,X.OZ.heap.get? b=EQ o->b∉ch:=λb o e hb=>E7 (Fv (Fn e) (S7 b hb)) (Hq _)
 have nex: ∀b,b∉X.ex:=λb hb=>by rw[hex] at hb;exact nomatch hb
 have nst: ∀b o,X.OZ.heap.get? b=EQ o->b∉X.fs->b∉rl X.stack:=λb o e hb hs=>by
  rcases EW.mp (I.Rk b hs) with z|z
  ·rw[z] at e
   exact E7 (Fv (Fn e) I.ok.above) (Hq _)
  ·exact hb z
 have CG: ∀b u,H b=EQ u->(∀φ,u≠ .ext φ)->b∉ch:=λb u e ne hb=>by
  rcases htr b hb with z|⟨φ,z⟩
  ·rw[e] at z;cases z
  ·rw[e] at z;exact ne φ (E5 z)
 have eN: ∀b,b∈X.fs->b∈rl X.stack:=λb hb=>by
  rcases I.ok.Xh with e|⟨e,hf⟩
  ·rw[e];exact hb
  ·rw[e];unfold rl;rw[Kb,hf];exact EN _ hb
 refine#[#[λb o e n hb _=>?_,λb o e n hb _=>?_,λb o e n _=>?_,λb o e _=>?_,λb xs e=>?_,λb o u e=>?_,λb ps e=>?_],λx u q=>?_]
 ·exact L.keep b o (nst b o e hb) (old b o e) (I.base.keep b o e n hb (nex b))
 ·obtain⟨sl,z⟩:=I.base.slot b o e n hb (nex b)
  obtain⟨sl',z'⟩:=L.slot b _ (eN b hb) (old b o e) z;exact#[sl',z']
 ·rw[eY (old b o e)]
  exact I.base.free b o e n (nex b)
 ·obtain⟨o',z⟩:=I.base.there b o e (nex b)
  exact L.there b o' z
 ·have z:=I.base.Qw b xs e
  rw[eY (CG b _ z λφ y=>nomatch y)]
  exact z
 ·have z:=I.base.P6 b o u e
  rw[eY (CG b _ z λφ y=>nomatch y)]
  exact z
 ·obtain⟨more,z⟩:=I.base.Qx b ps e
  exact#[more,by rw[eY (CG b _ z λφ y=>nomatch y)];exact z]
 ·have hx:x∉ch:=λz=>by rw[nM z] at q;cases q
  rw[eY hx] at q;refine(I.HH x u q).Rj (λb v hb e=>?_) (λb e=>?_) λb xs e=>?_
  ·refine L.keep b v (λz=>?_) (λz=>?_) e
   ·have y:=I.PZ b z
    rcases hb with rfl|hb
    ·rw[q] at y;cases y
    ·rw[hb] at y;cases y
   ·rcases hb with rfl|hb
    ·exact hx z
    ·exact CG b _ hb (λφ y=>nomatch y) z
  ·rw[eY (CG b _ e λφ y=>nomatch y)];exact e
  ·rw[eY (CG b _ e λφ y=>nomatch y)];exact e
def afc (C d a:EJ) (n:E1) (H:Hp) (h:Gn):Prop:= ∃oe vs T oT ts,h.get? a=EQ oe/\oe.cls= .ref C/\oe.dict=EQ d/\oe.data= .fields vs/\vs[1]?=EQ (.ref T)/\n<=T/\T≠a/\H T=Fa/\
 h.get? T=EQ oT/\oT.data= .fields ts/\ts[3]?=EQ .none
def fW (P:Fz) (w:Ga):pS:=λouter H s E e s'=> ∃(C a d:EJ) (H':Hp),e= .ref a/\s'.os=s.os/\Pg s'.gens/\Un (rl outer) [] H H' s.heap s'.heap/\h9 P w H' s'.heap/\
 s.heap.objs.size<=a/\H' a=Fa/\afc C d a s.heap.objs.size H' s'.heap/\E (.ref C) (EQ d) H'
section
variable {P:Fz}{w:Ga}{K:EF}{mg:Fh->ET EH}{base:Gn}{H0:Hp}{E:XK}{CX:pS}
theorem rJ {H:Hp}{a d:EJ}(I:aE (fi CX P w K mg base N Gz scope f cd A outer s0 H0 E) pins σ H s)
  (L:yG (rl (Jf Gz scope s0.heap.objs.size f cd::outer)) ch a oe s.heap h') (S7: ∀b∈ch,s0.heap.objs.size<=b) (htr: ∀b∈ch,H b=Fa\/ ∃φ,H b=EQ (.ext φ)) (ha:a∈ch)
  (hc:oe.cls= .ref C) (hd:oe.dict=EQ d) (hE:E (.ref C) (EQ d) (CT H ch)):fW P w outer H0 s0 E (.ref a) { s with heap:=h' } :=by
 obtain⟨u,k⟩:=DA I rfl L S7 htr;obtain⟨vs,T,oT,ts,x1,x2,x3,x4,x5,x6,x7⟩:=L.fly;refine#[C,a,d,CT H ch,FS,I.os,I.bare,u,k,S7 a ha,nM ha,#[_,vs,T,oT,ts,x1,hc,hd,FS,x2,Fj I.sz x3,x4,?_,x5,x6,x7],hE];have z:=I.HH.fresh x3;by_cases hT:T∈ch
 ·exact nM hT
 ·rw[eY hT];exact z
theorem aA:dg (fW P w) (fi (fW P w) P w K mg base N Gz scope f cd A outer s0 H0 E) E:=by
 intro pins σ H s e s' I h;obtain⟨C,a,d,H',rfl,os,bare,un,HH,za,ha,⟨oe,vs,T,oT,ts,x1,x2,x3,x4,x5,x6,x7,x8,x9,x10,x11⟩,hE⟩:=h;have J:=I.VA (ch:=[]) os un HH bare (λb z=>nomatch z)
 have sz:=I.sz
 have ck: ∀b∈[a,T],H' b=Fa:=λb hb=>by
  rcases EW.mp hb with z|z
  ·rw[z];exact ha
  ·rw[Fd.mp z];exact x8
 refine Cq (base:=base) J.ok.frames J.stack rfl x1 x4 x5 x7 x9 x10 x11 λh' L=>?_;refine rJ J L (λb hb=>?_) (λb hb=> .inl (ck b hb)) EO x2 x3 (by rw[BO ck];exact hE);rcases EW.mp hb with z|z
 ·rw[z];exact Fj sz za
 ·rw[Fd.mp z];exact Fj sz x6
end
theorem fP {P:Fz}{w:Ga}{K:EF}{mg:Fh->ET EH}{base:Gn}{x Gz:Fh}{st:Stmt}{f:EJ}{fd:FL}{N ps:EA Fh}{k:E1}{sp:Sp}(F:oF K x Gz st f fd)
  (S:az N ps (af st)) (len: ∀vs H Q E,sp vs H Q E->vs.length=ps.length)
  (Jc: ∀(Gp:EH) (A:Gk) (outer:EA Env) (s:EM) (H:Hp) (vs:EA V) (Q:VK) (E:XK),bW k (A.deeper (Jf Gz (af st) s.heap.objs.size f Gp))->sp vs H Q E->
   Bd (fi (fW P w) P w K mg base N Gz (af st) f Gp A outer s H E) (a8 st) { nx:=λ_ H'=>Q .HZ H',rt:=Q } (start N vs) H):bS P w K mg base (fW P w) (k+1) f fd ps sp:=by
 obtain⟨oc,od,kV,doc,pm,an,Gp,ct,VV,rfl,lk,RG⟩:=F.ex;exact Xp lk RG S len λA outer s H vs Q E hr SR=>Jc Gp A outer s H vs Q E hr SR
theorem afd {R C:EJ} :Up (.ref R::cW) (.ref C:: .ref R::cW) "Exception":=
 #[by rw[FY,FY];rfl,by rw[FY,FY];rfl,by rw[FY,FY];rfl]
theorem BN {R C:EJ} :(Fq C:: .ref R::cW).contains (.type "BaseException")=FB:=by rw[FY,FY];rfl
theorem pO {E:EH->EM->Prop}{Q:Flow->EM->Prop}(hh:A.handled=Fa)
  (H:Fl M A y (λv s1=> ∃e oe vs R C fI,v= .ref e/\XAt s1.heap R C fI/\s1.heap.get? e=EQ oe/\oe.cls= .ref C/\oe.data= .fields vs/\vs[1]?=EQ .none/\E (.ref e) s1) E s):
  Fl M A (raiseStmt env (EQ y) Fa) Q E s:=by
 unfold raiseStmt;refine E3 (HP H (λv s1 h1=>?_) λ_ _ x=>x);obtain⟨e,oe,vs,R,C,fI,rfl,⟨Nn,mN,oI,NR,mR,⟨nm,q,bs,sn,sub,ab,col,dd,k0,k1,k2,k3,k5,hC⟩,_⟩,he,hc,hd,h1,hE⟩:=h1;have hcB:=BN (R:=R) (C:=C);obtain⟨hp,g,d,tk,os⟩:=s1
 repeat (first|(with_reducible refine FW he ?_;rw[hc])|with_reducible refine FW hC ?_|(with_reducible refine wpAny_isSubtype_exc hC ?_;rw[hcB])|with_reducible refine wpAny_field he hd h1 ?_|wp_step)
 exact wpAny_raiseNew_none hh hE
def re (C p:EJ):HO:= .ext λh=> ∃T,h.get? p=EQ (df C T)
def jT (C d p:EJ):HO:= .ext λh=> ∃o vs,h.get? p=EQ o/\o.cls= .ref C/\o.dict=EQ d/\o.data= .fields vs/\vs[1]?=EQ .none
def cj (d:EJ) (fs:EA (Fh×V)):HO:= .ext λh=> ∃mA,h.Ns1 d mA/\(∀f,fR (fs.lookup f) (mA f))/\M5 mA (fs.map (·.1))
def dP (C:EJ) (g:EA V->EA (Fh×V)->Prop):Sp:=λvs H Q _=> ∃(p:EJ) (us:EA V) (fs:EA (Fh×V)),vs= .ref p::us/\g us fs/\H p=EQ (re C p)/\
 ∀d,H d=Fa->Q .HZ (aF (aF H d (cj d fs)) p (jT C d p))
def Cu (C:EJ) (g:EA V->EA (Fh×V)->Prop) (E:XK) (t:TA):TS:=λ_ σ H=>t σ H λvs H1=>vs.length<=9/\ ∃fs,g vs fs/\ ∀d,H1 d=Fa->E (.ref C) (EQ d) (aF H1 d (cj d fs))
def rg (X:Cx) (E:XK):Prop:= ∀(pins:EA (EJ×Ih)) (σ:St) (H:Hp) (s:EM) (C d a:EJ),aE X pins σ H s->H a=EQ (jT C d a)->X.OZ.heap.objs.size<=a->E (.ref C) (EQ d) (CT H [a])->X.xe (.ref a) s
theorem eD {P:Fz}{w:Ga}{K:EF}{mg:Fh->ET EH}{base:Gn}{H0:Hp}{E:XK} :rg (fi (fW P w) P w K mg base N Gz scope f cd A outer s0 H0 E) E:=by
 intro pins σ H s C d a I h z hE;obtain⟨⟨o,ws,x1,x2,x3,x4,x5⟩,_⟩:=I.HH _ _ h;refine xN (base:=base) I.ok.frames I.stack rfl x1 x4 x5 λh' L=>?_;refine rJ I L (λb hb=>?_) (λb hb=>?_) EO x2 x3 hE
 ·rw[Fd.mp hb]
  exact z
 ·rw[Fd.mp hb]
  exact .inr #[_,h]
section
variable {E:XK}{g:EA V->EA (Fh×V)->Prop}
theorem mU {H1:Hp}(XR:rg X E) (XC:dA X.K R C fI) (F:bS X.prog X.w X.K X.mg X.base wG k fI fdI ps (dP C g)) (hr:bW (k+1) X.A) (hb:gk X.K fdI ps [])
  (I1:aE X pins σ H1 s1) (r:aX vs us) (lv:vs.length<=9) (hg:g vs fs) (qE: ∀d,H1 d=Fa->E (.ref C) (EQ d) (aF H1 d (cj d fs))):
  Fl (model X.prog X.w) X.A (call (.ref C) us) (λv s1=> ∃e oe vs R C fI,v= .ref e/\XAt s1.heap R C fI/\s1.heap.get? e=EQ oe/\oe.cls= .ref C/\oe.data= .fields vs/\vs[1]?=EQ .none/\X.xe (.ref e) s1) X.xe s1:=by
 obtain⟨h1,g1,d1,t1,VE⟩:=s1;obtain⟨Nn,mN,oI,NR,mR,⟨nm,q,bs,sn,sub,ab,col,dd,k0,k1,k2,k3,k5,hC⟩,hn,WK,V2,hI,hIc,_⟩:=XC.at_ h1 I1.MI;have lu:us.length<=9:=by rw[<-r.length];exact lv
 have fr:H1 (h1.objs.size+1)=Fa:=I1.HH.fresh (KH _)
 have ge:((h1.push (eM us)).push (df C h1.objs.size)).get? (h1.objs.size+1)=EQ (df C h1.objs.size):=by heap_get
 have I2:aE X pins σ (aF H1 (h1.objs.size+1) (re C (h1.objs.size+1))) ⟨(h1.push (eM us)).push (df C h1.objs.size),g1,d1,t1,VE⟩:=
  I1.laid (t':=t1) (λb u z=>E2 _ (E2 _ z)) (KH _) #[#[_,ge],#[_,ge],λ_ _ ⟨T,z⟩ y=>#[T,y _ z]]
 have r2:aX (V.ref (h1.objs.size+1)::vs) (Fq (h1.objs.size+1)::us):= .cons rfl r
 have SR:dP C g (V.ref (h1.objs.size+1)::vs) (aF H1 (h1.objs.size+1) (re C (h1.objs.size+1)))
   (λv H'=>v= .HZ/\ ∃d,(aF H1 (h1.objs.size+1) (re C (h1.objs.size+1))) d=Fa/\H'=aF (aF (aF H1 (h1.objs.size+1) (re C (h1.objs.size+1))) d (cj d fs)) (h1.objs.size+1) (jT C d (h1.objs.size+1))) E0:=
  #[_,vs,fs,FS,hg,ae,λd hd=>#[FS,d,hd,FS]]
 have hl:(Fq (h1.objs.size+1)::us++[]).length=ps.length:=by
  have z:=r2.length;rw[F.len _ _ _ _ SR] at z;rw[Gw];exact z.symm
 have bb:=hb #[(h1.push (eM us)).push (df C h1.objs.size),g1,d1,t1,VE] (Fq (h1.objs.size+1)::us) I2.MI hl;rw[Gw] at bb;refine P2 (Ap Qn afd hC hn WK hI hIc (Mu (F.run _ X.stack _ _ #[Fq (h1.objs.size+1)::us,[]] (Fq (h1.objs.size+1)::us) _ _ E0 (hr.make C us []) (I2.ZT.make C us []) bb r2 SR) λr s' TR=>?_) (by rw[Ht];lia))
 cases r with
 |error e=>exact TR.elim
 |ok fl=>
  cases fl with
  |next=>exact TR.elim
  |brk=>exact TR.elim
  |cont=>exact TR.elim
  |ret u=>
   obtain⟨v,H',I3,rv,ev,d,hd,eH⟩:=I2.after TR;subst ev;have np:d≠h1.objs.size+1:=λz=>by rw[z,ae] at hd;cases hd
   rw[ac np] at hd;have at3:H' (h1.objs.size+1)=EQ (jT C d (h1.objs.size+1)):=by rw[eH];exact ae
   obtain⟨⟨o,ws,x1,x2,x3,x4,x5⟩,_⟩:=I3.HH _ _ at3;refine#[rv,_,o,ws,R,C,fI,FS,XC.at_ _ I3.MI,x1,x2,x4,x5,XR pins σ H' _ C d _ I3 at3 (Fj I1.sz (KH _)) ?_];have z:CT H' [h1.objs.size+1]=aF H1 d (cj d fs):=by
    funext b
    by_cases hb:b=h1.objs.size+1
    ·rw[nM (by rw[hb];exact EO),hb,ac np.symm,fr]
    ·rw[eY (by simpa using hb),eH,ac hb]
     by_cases hbd:b=d
     ·rw[hbd,ae,ae]
     ·rw[ac hbd,ac hbd,ac hb]
   rw[z];exact qE d hd
theorem sE (XR:rg X E) (XC:dA X.K R C fI) (F:bS X.prog X.w X.K X.mg X.base wG k fI fdI ps (dP C g)) (hr:bW (k+1) X.A) (hg:Gl X x) (hm:X.mg x=EQ (.ref C)) (hb:gk X.K fdI ps []) (ha:PA X (e::es) t)
  (Rl:(x == ("__debug__":Fh))=FM:=by decide) (he:Fb (e::es) X.env=(FM,eval e X.env)::Fb es X.env:=by rfl) (Ma:(Ie K5 (Fb es X.env)).any (·.1)=FM:=by rfl):
  PS X (.Raise (EQ (.Call (.Name x np) (e::es) [] K5)) Fa pos) (Cu C g E t):=by
 intro pins s σ H D I h;rw[arm_exec_Raise];refine E3 (Nb (pO hr.hd (E3 (b9 ?_ λv s1 hv=>E3 (Nb (Fx hv))))));refine Je (gi I hg hm ?_ Rl);refine Ki (h₀:=X.base) I.ok.mod.UQ XC.kp (b9 (ha K5 pins s σ H _ I h) λus s1 z=>?_) he Ma;obtain⟨vs,H1,I1,r,lv,fs,hgv,qE⟩:=z;exact#[I1.MI,mU XR XC F hr hb I1 r lv hgv qE]
theorem eS (XR:rg X E) (XC:dA X.K R C fI) (F:bS X.prog X.w X.K X.mg X.base wG k fI fdI ps (dP C g)) (hr:bW (k+1) X.A) (hg:Gl X x) (hm:X.mg x=EQ (.ref C)) (hb:gk X.K fdI ps [])
  (Rl:(x == ("__debug__":Fh))=FM:=by decide):PS X (.Raise (EQ (.Call (.Name x np) [] [] K5)) Fa pos) (Cu C g E A7):=by
 intro pins s σ H D I h;obtain⟨lv,fs,hgv,qE⟩:=h;rw[arm_exec_Raise];refine E3 (Nb (pO hr.hd (E3 (b9 ?_ λv s1 hv=>E3 (Nb (Fx hv))))));refine Je (gi I hg hm ?_ Rl);exact NF (I.MI) XC.kp (mU XR XC F hr hb I .nil lv hgv qE)
end
end OS
namespace OS
open Vbemac
def bR (c:Io):FR:=letter c||digit c
def eP (c:Io):FR:=c !=10
def aW (p:Io->FR) (bs:FJ) (i:E1):E1:=i+((bs.drop i).takeWhile p).length
theorem e6 {bs:FJ}{i:E1}{c:Io}(h:bs[i]?=EQ c):bs.drop i=c::bs.drop (i+1):=by
 obtain⟨hi,e⟩:=FF.mp h;rw[GO hi,e]
theorem jP {p:Io->FR}{bs:FJ}{i:E1}{c:Io}(h:bs[i]?=EQ c) (hp:p c=FB):aW p bs i=aW p bs (i+1):=by
 unfold aW;rw[e6 h,Jp,EL hp,EZ];lia
theorem m7 {p:Io->FR}{bs:FJ}{i:E1}{c:Io}(h:bs[i]?=EQ c) (hp:p c=FM):aW p bs i=i:=by
 unfold aW;rw[e6 h,Jp,EI (by rw[hp];exact EE)]
 rfl
theorem kR {p:Io->FR}{bs:FJ}{i:E1}(h:bs.length<=i):aW p bs i=i:=by
 unfold aW;rw[R9 h]
 rfl
theorem mS {p:Io->FR}{bs:FJ}{i:E1}(h:i<=bs.length):aW p bs i<=bs.length:=by
 unfold aW;have:=(EA.takeWhile_sublist p (l:=bs.drop i)).length_le;rw[Lg] at this;lia
def part (bs:FJ) (i j:E1):FJ:=(bs.drop i).take (j-i)
theorem wV {p:Io->FR} : ∀l:FJ,l.takeWhile p=l.take (l.takeWhile p).length
 |[]=>rfl
 |a::l=>by
  rw[Jp];split
  ·rw[EZ,EA.take_succ_cons,<-wV l]
  ·rfl
theorem jV (p:Io->FR) (bs:FJ) (i:E1):(bs.drop i).takeWhile p=part bs i (aW p bs i):=by
 unfold part aW;rw[Hk];exact wV _
theorem mP (p:Io->FR) (bs:FJ) (i:E1):(bs.drop i).drop ((bs.drop i).takeWhile p).length=bs.drop (aW p bs i):=by
 rw[NO]
 rfl
theorem iD: ∀(w:FJ) (p:Pos),(∀c∈w,c≠10)->moved p w=(p.1,p.2+w.length)
 |[],p,_=>rfl
 |c::w,p,h=>by
  show moved (advance p c) w=_
  rw[iD w _ λd hd=>h d (EN _ hd)];unfold advance;rw[EI (h c EO),EZ];show(p.1,p.2+1+w.length)=_;rw[RD,J7 1]
theorem qP {p:Io->FR} : ∀(l:FJ),∀c∈l.takeWhile p,p c=FB
 |[],c,h=>nomatch h
 |a::l,c,h=>by
  rw[Jp] at h;split at h
  ·rename_i q
   rcases EW.mp h with e|h
   ·rw[e];exact q
   ·exact qP l c h
  ·exact nomatch h
theorem mO {p:Io->FR}(hp:p 10=FM) (bs:FJ) (i:E1) (q:Pos):moved q ((bs.drop i).takeWhile p)=(q.1,q.2+(aW p bs i-i)):=by
 rw[iD _ _ λc hc e=>by
  have:=qP _ c hc;rw[e,hp] at this;cases this]
 unfold aW;rw[Hk]
section
variable {bs:FJ}{i k:E1}{c:Io}{q:Pos}
theorem lq (h:bs[i]?=EQ c) (hb:blank c=FB):lex (k+1) q (bs.drop i)=lex k (advance q c) (bs.drop (i+1)):=by
 rw[e6 h,lex,EL hb]
theorem iI (h:bs[i]?=EQ c) (hb:blank c=FM) (OR:c=35):
  lex (k+1) q (bs.drop i)=lex k (q.1,q.2+(aW eP bs i-i)) (bs.drop (aW eP bs i)):=by
 have e:=e6 h
 have m:=mO (p:=eP) rfl bs i q
 have d:=mP eP bs i;rw[e] at m d;rw[e,lex,EI (by rw[hb];exact EE),EL OR]
 show lex k (moved q ((c::bs.drop (i+1)).takeWhile eP)) ((c::bs.drop (i+1)).drop ((c::bs.drop (i+1)).takeWhile eP).length)=_
 rw[m,d]
theorem jN (h:bs[i]?=EQ c) (hb:blank c=FM) (OR: ¬c=35) (hl:letter c=FB):
  lex (k+1) q (bs.drop i)=if 24<aW bR bs i-i then [(.bad,q)] else(.word (part bs i (aW bR bs i)),q)::lex k (q.1,q.2+(aW bR bs i-i)) (bs.drop (aW bR bs i)):=by
 have e:=e6 h
 have m:=mO (p:=bR) [01] bs i q
 have d:=mP bR bs i
 have t:=jV bR bs i
 have n:((bs.drop i).takeWhile bR).length=aW bR bs i-i:=by unfold aW;rw[Hk]
 rw[e] at m d t n;rw[e,lex,EI (by rw[hb];exact EE),EI OR,EL hl];show(if 24<((c::bs.drop (i+1)).takeWhile bR).length then _ else(Tok.word ((c::bs.drop (i+1)).takeWhile bR),q)::lex k (moved q ((c::bs.drop (i+1)).takeWhile bR)) ((c::bs.drop (i+1)).drop ((c::bs.drop (i+1)).takeWhile bR).length))=_
 rw[m,d,n,t]
def pI (bs:FJ) (j:E1):FR:=(bs[j]?).any letter
theorem xG (bs:FJ) (j:E1):(bs.drop j).head?=bs[j]?:=EA.head?_drop
theorem mn (h:bs[i]?=EQ c) (hb:blank c=FM) (OR: ¬c=35) (hl:letter c=FM) (hd:digit c=FB):
  lex (k+1) q (bs.drop i)=if 18<aW digit bs i-i\/pI bs (aW digit bs i)=FB then [(.bad,q)] else(.num (valueOf (part bs i (aW digit bs i))),q)::lex k (q.1,q.2+(aW digit bs i-i)) (bs.drop (aW digit bs i)):=by
 have e:=e6 h
 have m:=mO (p:=digit) [01] bs i q
 have d:=mP digit bs i
 have t:=jV digit bs i
 have n:((bs.drop i).takeWhile digit).length=aW digit bs i-i:=by unfold aW;rw[Hk]
 rw[e] at m d t n;rw[e,lex,EI (by rw[hb];exact EE),EI OR,EI (by rw[hl];exact EE),EL hd];show(if 18<((c::bs.drop (i+1)).takeWhile digit).length\/((((c::bs.drop (i+1)).drop ((c::bs.drop (i+1)).takeWhile digit).length).head?).any letter)=FB then _
  else(Tok.num (valueOf ((c::bs.drop (i+1)).takeWhile digit)),q)::lex k (moved q ((c::bs.drop (i+1)).takeWhile digit)) ((c::bs.drop (i+1)).drop ((c::bs.drop (i+1)).takeWhile digit).length))=_
 rw[m,d,n,t,xG]
 rfl
theorem mB {n:E1}{x:FJ} : ∀(L:EA FJ),(∀s∈L,s.length=n)->L.find? (λs=>x.take s.length == s)=if x.take n∈L then EQ (x.take n) else Fa
 |[],_=>by simp
 |a::L,h=>by
  have ha:=h a EO
  have ih:=mB (n:=n) (x:=x) L λs hs=>h s (EN _ hs)
  rw[GF,ha];by_cases e:x.take n=a
  ·rw[show(x.take n == a)=FB from by rw[e];exact Gr a,EL (by rw[e];exact EO),e]
  ·rw[show(x.take n == a)=FM from beq_eq_false_iff_ne.mpr e]
   show L.find? _=_
   rw[ih];by_cases m:x.take n∈L
   ·rw[EL m,EL (EN _ m)]
   ·rw[EI m,EI (λz=>(EW.mp z).elim e m)]
def yw:EA FJ:=SIGNS.take 7
def AU:EA FJ:=SIGNS.drop 7
theorem gc:SIGNS=yw++AU:=(SA 7 SIGNS).symm
theorem iB: ∀s∈yw,s.length=2:=by decide
theorem nF: ∀s∈AU,s.length=1:=by decide
theorem vd: ∀s∈SIGNS,∀d∈s,d≠10:=by decide
def bo (bs:FJ) (i:E1):E1:=if part bs i (i+2)∈SIGNS then i+(part bs i (i+2)).length else i+1
theorem gN (x:FJ):x∈SIGNS ↔ x∈yw\/x∈AU:=by rw[gc];exact Fp
theorem yO (h:bs[i]?=EQ c):(SIGNS.find? λs=>(bs.drop i).take s.length == s)=if part bs i (bo bs i)∈SIGNS then EQ (part bs i (bo bs i)) else Fa:=by
 have e2:(bs.drop i).take 2=part bs i (i+2):=by unfold part;rw[Hk]
 have e1:(bs.drop i).take 1=part bs i (i+1):=by unfold part;rw[Hk]
 have l1:(part bs i (i+1)).length=1:=by rw[<-e1,e6 h];rfl
 rw[gc,U5,mB yw iB,mB AU nF,e2,e1];by_cases m2:part bs i (i+2)∈yw
 ·have n2:=iB _ m2
  have s2:part bs i (i+2)∈SIGNS:=(gN _).mpr (.inl m2)
  have se:bo bs i=i+2:=by unfold bo;rw[EL s2,n2]
  rw[EL m2,se,<-gc,EL s2]
  rfl
 ·have se:bo bs i=i+1:=by
   unfold bo;by_cases s2:part bs i (i+2)∈SIGNS
   ·rw[EL s2,nF _ (((gN _).mp s2).resolve_left m2)]
   ·rw[EI s2]
  have n1: ¬part bs i (i+1)∈yw:=λz=>by
   have:=iB _ z;lia
  rw[EI m2,se,<-gc,ET.none_or];by_cases m1:part bs i (i+1)∈AU
  ·rw[EL m1,EL ((gN _).mpr (.inr m1))]
  ·rw[EI m1,EI λz=>((gN _).mp z).elim n1 m1]
theorem oS (h:bs[i]?=EQ c) (m:part bs i (bo bs i)∈SIGNS):(part bs i (bo bs i)).length=bo bs i-i:=by
 have e1:(part bs i (i+1)).length=1:=by unfold part;rw[Hk,e6 h];rfl
 unfold bo at m ⊢;split
 ·rename_i s2
  rw[EL s2] at m;rcases(gN _).mp s2 with z|z
  ·rw[iB _ z,iB _ z];lia
  ·rw[nF _ z,e1];lia
 ·rw[e1];lia
theorem kg (h:bs[i]?=EQ c) (hb:blank c=FM) (OR: ¬c=35) (hl:letter c=FM) (hd:digit c=FM):
  lex (k+1) q (bs.drop i)=if part bs i (bo bs i)∈SIGNS then(.sign (part bs i (bo bs i)),q)::lex k (q.1,q.2+(bo bs i-i)) (bs.drop (bo bs i)) else [(.bad,q)]:=by
 have f:=yO h
 have e:=e6 h
 have hle:i<=bo bs i:=by unfold bo;split<;>lia
 have dd: ∀n,(bs.drop i).drop n=bs.drop (i+n):=λn=>NO
 rw[e] at f;rw[e,lex,EI (by rw[hb];exact EE),EI OR,EI (by rw[hl];exact EE),EI (by rw[hd];exact EE),f];by_cases m:part bs i (bo bs i)∈SIGNS
 ·rw[EL m,EL m]
  show _::lex k (moved q (part bs i (bo bs i))) ((c::bs.drop (i+1)).drop (part bs i (bo bs i)).length)=_
  rw[iD _ _ (vd _ m),oS h m,<-e,dd,show i+(bo bs i-i)=bo bs i by lia]
 ·rw[EI m,EI m]
theorem Dm (h:bs.length<=i):lex (k+1) q (bs.drop i)=[(.eof,q)]:=by
 rw[R9 h,lex]
end
end OS
namespace OS
open Vbemac
open PySem (Str)
def f7:Tok->Prop
 | .word w=>w≠[]/\ ∀c∈w,bR c=FB
 | .sign s=>s∈SIGNS
 |_=>True
def Mid (x:Tok×Pos):Prop:=x.1≠ .eof/\x.1≠ .bad/\f7 x.1
def js (x:Tok×Pos):Prop:=x.1= .eof\/x.1= .bad
def fV (t:L9):Prop:= ∃WL x,t=WL++[x]/\js x/\ ∀y∈WL,Mid y
theorem fV.one (h:js x):fV [x]:=#[[],x,FS,h,λ_ z=>nomatch z]
theorem fV.cons (h:Mid x) (w:fV t):fV (x::t):=by
 obtain⟨WL,y,rfl,f,a⟩:=w;refine#[x::WL,y,FS,f,λz hz=>?_];rcases EW.mp hz with e|hz
 ·rw[e];exact h
 ·exact a z hz
theorem fV.tail (w:fV (x::t)) (h: ¬js x):Mid x/\fV t:=by
 obtain⟨WL,y,e,f,a⟩:=w;cases WL with
 |nil=>
  injection e with e1 e2;exact E7 (e1▸f) h
 |cons z WL=>
  injection e with e1 e2;exact#[e1▸a z EO,WL,y,e2,f,λv hv=>a v (EN _ hv)]
theorem fV.ne (w:fV t):t≠[]:=by
 obtain⟨WL,y,rfl,_⟩:=w;simp
theorem fJ: ∀(k:E1) (q:Pos) (b:FJ),fV (lex k q b)
 |0,q,b=>by rw[lex];exact .one (.inl rfl)
 |k+1,q,[]=>by rw[lex];exact .one (.inl rfl)
 |k+1,q,c::r=>by
  have z:(c::r)[0]?=EQ c:=rfl
  have d0:(c::r).drop 0=c::r:=rfl;rw[<-d0];by_cases hb:blank c=FB
  ·rw[lq z hb];exact fJ k _ _
  ·have hb:blank c=FM:=by simpa using hb
   by_cases OR:c=35
   ·rw[iI z hb OR];exact fJ k _ _
   ·by_cases hl:letter c=FB
    ·rw[jN z hb OR hl]
     split
     ·exact .one (.inr rfl)
     ·refine .cons #[by simp,by simp,?_,?_] (fJ k _ _)
      ·rw[<-jV,d0,Jp,EL (by unfold bR;rw[hl];rfl)]
       simp
      ·rw[<-jV];exact qP _
    ·have hl:letter c=FM:=by simpa using hl
     by_cases hd:digit c=FB
     ·rw[mn z hb OR hl hd]
      split
      ·exact .one (.inr rfl)
      ·exact .cons #[by simp,by simp,GH] (fJ k _ _)
     ·have hd:digit c=FM:=by simpa using hd
      rw[kg z hb OR hl hd];split
      ·rename_i m
       exact .cons #[by simp,by simp,m] (fJ k _ _)
      ·exact .one (.inr rfl)
theorem dW: ∀(k:E1) (q:Pos) (b:FJ),(lex k q b).length<=k+1
 |0,q,b=>by rw[lex];simp
 |k+1,q,[]=>by rw[lex];simp
 |k+1,q,c::r=>by
  have z:(c::r)[0]?=EQ c:=rfl
  have d0:(c::r).drop 0=c::r:=rfl;rw[<-d0];by_cases hb:blank c=FB
  ·rw[lq z hb];exact Fj (dW k _ _) (by lia)
  ·have hb:blank c=FM:=by simpa using hb
   by_cases OR:c=35
   ·rw[iI z hb OR];exact Fj (dW k _ _) (by lia)
   ·by_cases hl:letter c=FB
    ·rw[jN z hb OR hl]
     split
     ·simp
     ·rw[EZ];exact G7 (dW k _ _)
    ·have hl:letter c=FM:=by simpa using hl
     by_cases hd:digit c=FB
     ·rw[mn z hb OR hl hd]
      split
      ·simp
      ·rw[EZ];exact G7 (dW k _ _)
     ·have hd:digit c=FM:=by simpa using hd
      rw[kg z hb OR hl hd];split
      ·rw[EZ];exact G7 (dW k _ _)
      ·simp
theorem eE {a b:FJ}(h:sb a=sb b):a=b:=by
 have e:(a.map Mt).toArray=(b.map Mt).toArray:=FN Fh.cps h
 have e:a.map Mt=b.map Mt:=by simpa using e
 exact UA (λx y q=>P4.mp q) |>.mp e
theorem wB: ∀a∈SIGNS,∀b∈SIGNS,dI a=dI b->a=b:=by decide+kernel
theorem zi: ∀a∈SIGNS,∀c,(dI a).cps[0]?=EQ c-> ∀d:E1,d<256->d=c->bR (NI d)=FM:=by
 have h: ∀a∈SIGNS,∀d:E1,d<256->(dI a).cps[0]?=EQ d->bR (NI d)=FM:=by decide+kernel
 intro a ha c hc d hd e;subst e;exact h a ha d hd hc
theorem tX {w s:FJ}(h0:w≠[]) (hw: ∀c∈w,bR c=FB) (hs:s∈SIGNS):sb w≠dI s:=λe=>by
 obtain⟨c,r,rfl⟩: ∃c r,w=c::r:=by cases w with|nil=>exact E7 rfl h0|cons c r=>exact#[c,r,FS]
 have f:=zi s hs c.toNat (by rw[<-e];rfl) c.toNat (Wa c) rfl;rw[UC,hw c EO] at f;cases f
def vq:Tok->ET Fh
 | .word w=>EQ (sb w)
 | .sign s=>EQ (dI s)
 | .num _=>Fa
 | .eof=>EQ (sb [])
 | .bad=>EQ (sb [])
def cU (x:Fh) (w:FJ):Prop:=x=sb w/\w≠[]/\ ∀c∈w,bR c=FB
def d7 (x:Fh) (s:FJ):Prop:=x=dI s/\s∈SIGNS
theorem Av: ∀s∈SIGNS,dI s≠sb []:=by decide+kernel
theorem AT (ok:f7 k) {w:FJ}(h:cU x w):vq k=EQ x ↔ k= .word w:=by
 obtain⟨rfl,h0,h1⟩:=h;constructor
 ·intro e
  cases k with
  |word v=>exact FN Tok.word (eE (E5 e))
  |sign s=>exact E7 (E5 e).symm (tX h0 h1 ok)
  |num n=>cases e
  |eof=>exact E7 (eE (E5 e)).symm h0
  |bad=>exact E7 (eE (E5 e)).symm h0
 ·intro e;subst e;rfl
theorem rD (ok:f7 k) (h:d7 x s):vq k=EQ x ↔ k= .sign s:=by
 obtain⟨rfl,hs⟩:=h;constructor
 ·intro e
  cases k with
  |word v=>exact E7 (E5 e) (tX ok.1 ok.2 hs)
  |sign r=>exact FN Tok.sign (wB r ok s hs (E5 e))
  |num n=>cases e
  |eof=>exact E7 (E5 e).symm (Av s hs)
  |bad=>exact E7 (E5 e).symm (Av s hs)
 ·intro e;subst e;rfl
end OS
namespace OS
abbrev ig (p q:PySem.Pos):Prop:=(p.endLine == q.line)=FB
open PySem PySem.Spec L2
open PyProof.Rows hiding St
theorem aR {X:Cx}{i:Int}{pos:Pos}(hg:Gl X x) (hm: ∃t,X.mg x=EQ (.int i t)) (hd:(x == ("__debug__":Fh))=FM:=by decide):PE X (.Name x pos) (tC (.int i)):=by
 obtain⟨t,hm⟩:=hm;exact qx hg hm #[t,FS] hd
theorem afe {X:Cx}{i:Fh}{pos:Pos}(hg:Gl X x) (hm: ∃t,X.mg x=EQ (.str i t)) (hd:(x == ("__debug__":Fh))=FM:=by decide):PE X (.Name x pos) (tC (.str i)):=by
 obtain⟨t,hm⟩:=hm;exact qx hg hm #[t,FS] hd
theorem o4.sq {K:EF}{a:EJ}{H:Hp}(h:o4 K a xs):rh K H a xs:= .inr h
theorem wM (r:Paired (λ(p:EA a0×V) (q:EA a0×EJ×EH)=>p.1=q.1/\bh p.2 q.2.2) aC xs) (k:EA a0):fR (bN aC k) ((Qv xs k).map (·.2)):=by
 induction r with
 |nil=>exact GH
 | @cons p q ps qs hq t ih=>
  unfold bN Qv at*;rw[GF,GF];by_cases e:q.1=k
  ·rw[show decide (p.1=k)=FB from Gb (hq.1.trans e),show decide (q.1=k)=FB from Gb e]
   exact hq.2
  ·rw[show decide (p.1=k)=FM from FA (λz=>e (hq.1.symm.trans z)),show decide (q.1=k)=FM from FA e]
   exact ih
section
variable {td ty:TE}
def aff (P:Fz) (w:Ga) (K:EF) (ty td:TE):TE:=λσ H Q=>ty σ H λy H1=>td σ H1 λx H2=> ∃a b k aC,x= .ref a/\zr P w K a aC/\y= .ref b/\H2 b=EQ (.tup (k.map kV))/\Q (.bl (bN aC k).isSome) H2
def aad (P:Fz) (w:Ga) (K:EF) (td ty:TE):TE:=λσ H Q=>td σ H λx H1=>ty σ H1 λy H2=> ∃a b k aC v,x= .ref a/\zr P w K a aC/\y= .ref b/\H2 b=EQ (.tup (k.map kV))/\bN aC k=EQ v/\Q v H2
theorem vR (hu:X.A.units+1<OX) (hi:PE X i ty) (ho:PE X o td):PC X .In i o (aff X.prog X.w X.K ty td):=by
 intro pins s σ H Q I h;refine bin hi ho I h λv u s2 x y H2 I2 rx ry q=>?_;obtain⟨a,b,k,aC,ey,kd,ex,eb,q⟩:=q;subst ex;subst ey;cases rx;cases ry;obtain⟨xs,dd,rel⟩:=kd.at_;refine wpAny_in_heap (JN hu) (jr I2.HH eb) kd.no (dd _ I2.MI) ?_;have z:=(wM rel k).LN;rw[Hv] at z;rw[<-z];exact#[.bl _,H2,I2.tok _,FS,q]
theorem B9 (hu:X.A.units+1<OX) (ho:PE X o td) (hi:PE X i ty) (hs:Ej i):PE X (.Subscript o i pos) (aad X.prog X.w X.K td ty):=by
 intro pins s σ H Q I h;refine wK Qm.lookup hs (b9 (ho pins s σ H _ I h) λu s1 ⟨x,H1,I1,rx,q1⟩=>b9 (hi pins s1 σ H1 _ I1 q1) λiv s2 ⟨y,H2,I2,ry,a,b,k,aC,v',ex,kd,ey,eb,l,q⟩=>?_);subst ex;subst ey;obtain rfl:u=Fq a:=rx;obtain rfl:iv=Fq b:=ry;obtain⟨xs,dd,rel⟩:=kd.at_;have z:=wM rel k;rw[l] at z;obtain⟨w',hw,S9⟩:=fR.some_of z;obtain⟨p,hp,hp2⟩:=FG.mp hw;have D:=dd _ I2.MI;refine#[D.typeIs,Yk (JN hu) (jr I2.HH eb) D hp ?_];rw[hp2];exact#[v',H2,I2.tok _,S9,q]
end
section
variable {X:Cx}{st:Stmt}{t:TS}
def afg (t:TS):TS:=λD σ H=> ∃J:L2.St->Hp->Prop,t { D with nx:=J } σ H/\ ∀σ' H',J σ' H'->D.nx σ' H'
theorem DP (h:PS X st t):PS X st (afg t):=by
 intro pins s σ H D I h0;obtain⟨J,h1,h2⟩:=h0;refine b9 (h pins s σ H { D with nx:=J } I h1) λf s1 q=>?_;cases f with
 |next=>
  obtain⟨σ',H',I',q⟩:=q;exact#[σ',H',I',h2 _ _ q]
 |brk=>exact q
 |cont=>exact q
 |ret u=>exact q
end
theorem pw:gF X (.builtin "isinstance") (λxs H Q=> ∃(x:V) (C:EJ) (t:EH) (b:FR),xs=[x, .ref C]/\jz X.K H x t/\Hy X.K t (.ref C)=EQ b/\Q (.bl b) H):=by
 intro pins s σ H xs us Q I r h;obtain⟨x,C,t,b,rfl,ty,e,q⟩:=h;obtain⟨u1,u2,rfl,r1,r2⟩:=vals2 r;cases r2;exact yU I r1 ty e λtk=>#[.bl b,H,I.tok _,FS,q]
theorem Ak.of {K:EF}{H:Hp}(t:Ak K C) (e:H p=EQ (.ins C dx fs)):jz K H (.ref p) (.ref C):= .ins e t.cl t.ha t.hn t.htk t.hm
theorem bL {α β:Type}{F:α->β->Prop} : ∀ {l:EA α}{m:EA β},Paired F l m->l.length=m.length
 |_,_, .nil=>rfl
 |_,_, .cons r t=>FN (· +1) (bL t)
def aae (N P:EA Fh) (sc:Scope):Prop:=sc.kind= .function/\sc.isCoroutine=FM/\sc.isGenerator=FM/\N.Nodup/\N.take P.length=P/\(∀x∈P,sc.names.lookup x=EQ .local\/sc.names.lookup x=EQ .cell)/\ ∀y∈sc.names,y.2≠ .free
instance (N P:EA Fh) (sc:Scope):Decidable (aae N P sc):=by unfold aae;infer_instance
theorem aw {N P:EA Fh}(h:aae N P sc):az N P sc:=#[h.1,h.2.1,h.2.2.1,h.2.2.2.1,h.2.2.2.2.1,h.2.2.2.2.2.1,h.2.2.2.2.2.2]
end OS
namespace OS
open PySem PySem.Spec L2
open PyProof.Rows hiding St
def _root_.L2.eJ.to (D:eJ) (X:Cx) (ss:EA Stmt):eJ:= { D with nx:=λσ H=>Bd X ss D σ H }
theorem eB {x m:Fh}{p1 p2 p4:Pos}(hp:ig p2 p4) (hf:methodCallForm (args.length+0) (Ie p4 (Fb args env)) (Kj p4 (IE [] env))=FB):
  eval (.Call (.Attribute (.Name x p1) m p2) args [] p4) env=(do
   let ov<-eval (.Name x p1) env
   standAt p2.atName
   let (f,first)<-holding [ov] (Ku ov m (do return (<-OV (.Name x p1) env).getD FB))
   MR p4 f first (Ie p4 (Fb args env)) (Kj p4 (IE [] env))):=by
 show(do
   let ov<-eval (.Name x p1) env
   standAt p2.atName
   methodCall (.Name x p1) m p2 p4 env ov (args.length+0) (Ie p4 (Fb args env)) (Kj p4 (IE [] env)))=_
 unfold methodCall calleeOf methodCallPos;rw[hf,hp]
 rfl
section
variable {H:Hp}{t:TS}
theorem ij:tY X ss (λD σ H=>Bd X ss D σ H):=λpins s σ H D I h=>by
 obtain⟨t,h,q⟩:=h;exact h pins s σ H D I q
theorem aQ (h:PS X s t) (q:t (D.to X ss) σ H):Bd X (s::ss) D σ H:=#[_,ax h ij,q]
theorem eA (h:PS X s t) (q:t D σ H):Bd X [s] D σ H:=#[_,ah h,q]
theorem cc (q:D.nx σ H):Bd X [] D σ H:=#[_,br,q]
end
inductive Pe (X:Cx) (e:G8) (σ:L2.St) (H:Hp) (Q:VK):Prop
 |mk (t:TE) (_:PE X e t) (_:t σ H Q):Pe X e σ H Q
inductive Pt (X:Cx) (e:G8) (σ:L2.St) (H:Hp) (Q:FR->Hp->Prop):Prop
 |mk (t:TT) (_:PT X e t) (_:t σ H Q):Pt X e σ H Q
inductive Pa (X:Cx) (e:EA G8) (σ:L2.St) (H:Hp) (Q:EA V->Hp->Prop):Prop
 |mk (t:TA) (_:PA X e t) (_:t σ H Q):Pa X e σ H Q
section
variable {H:Hp}{t:TS}{Q:VK}{R:FR->Hp->Prop}
theorem dj:PE X e (λσ H Q=>Pe X e σ H Q):=λpins s σ H Q I h=>by
 obtain⟨t,h,q⟩:=h;exact h pins s σ H Q I q
theorem jh:PT X e (λσ H Q=>Pt X e σ H Q):=λpins s σ H Q I h=>by
 obtain⟨t,h,q⟩:=h;exact h pins s σ H Q I q
theorem sN:PA X es (λσ H Q=>Pa X es σ H Q):=λpos pins s σ H Q I h=>by
 obtain⟨t,h,q⟩:=h;exact h pos pins s σ H Q I q
structure Sl (X:Cx) (i:E1) (y:Fh):Prop where
 hi:X.N[i]?=EQ y
 hx:Loc X.env.scope y
 hf:X.fn y=FB
theorem aN (i:E1) (nd:X.N.Nodup) (q:Pe X e σ H λv H'=>Bd X ss D (σ.set i (EQ v)) H') (h:Sl X i y:=by exact#[FS,Gx rfl,FS]) (hs:K7 e (EQ (.Name y p0)) p5.line X.env=pure FM:=by rfl):Bd X (.Assign [.Name y p0] e p5::ss) D σ H:=
 aQ (cH nd h.hi h.hx dj hs (.inl h.hf)) q
theorem bA (q:Pe X e σ H λ_ H'=>Bd X ss D σ H') (hs:K7 e Fa p5.line X.env=pure FM:=by rfl):Bd X (.Expr e p5::ss) D σ H:=aQ (bi dj hs) q
theorem aJ (q:Pe X e σ H D.rt):Bd X (.Return (EQ e) p5::ss) D σ H:=aQ (aK dj) q
theorem bE (q:Pt X e σ H λb H'=>if b=FB then Bd X A (D.to X ss) σ H' else Bd X ss D σ H'):Bd X (.If e A [] p5::ss) D σ H:=aQ (cy jh ij br) q
theorem gh (N:L2.St->Hp->Prop) (rest: ∀σ H,N σ H->Bd X ss D σ H) (q:Pt X e σ H λb H'=>if b=FB then Bd X A { D with nx:=N } σ H' else N σ H'):Bd X (.If e A [] p5::ss) D σ H:=aQ (DP (cy jh ij br)) #[N,q,rest]
theorem vv (q:Bd X ss D σ H):Bd X [] (D.to X ss) σ H:=cc q
theorem dv (q:Pe X e σ H (uj R)) (he: ∀whole,isTrue e X.env whole=(do let v<-whole;standAt e.pos;holding [v] (truthy v)):=by intro _;rfl):Pt X e σ H R:=#[_,di dj he,q]
theorem jm (q:Pt X e σ H λb H'=>R (!b) H'):Pt X (.UnaryOp .Not e p1) σ H R:=#[_,kY jh,q]
theorem CL {f:G8}(q:Pt X e σ H λb H'=>if b=FB then Pt X f σ H' R else R FM H'):Pt X (.BoolOp .And [e,f] p1) σ H R:=#[_,(qj jh (lW jh)).pt,q]
theorem afh {f:G8}(q:Pt X e σ H λb H'=>if b=FB then R FB H' else Pt X f σ H' R):Pt X (.BoolOp .Or [e,f] p1) σ H R:=#[_,(v9 jh (qB jh)).pt,q]
theorem Xu {x:Fh}(q:Q (.str x) H):Pe X (.Constant (.str x) j p1) σ H Q:=#[_,dG,q]
theorem cM {x:Int}(q:Q (.int x) H):Pe X (.Constant (.int x) j p1) σ H Q:=#[_,aj,q]
theorem oB (q:Q .HZ H):Pe X (.Constant .none j p1) σ H Q:=#[_,ZJ,q]
theorem cC {Q:EA V->Hp->Prop}(q:Q [] H):Pa X [] σ H Q:=#[_,ag,q]
theorem aO {Q:EA V->Hp->Prop}(q:Pe X e σ H λv H1=>Pa X es σ H1 λvs H2=>Q (v::vs) H2) (hs:Fb (e::es) X.env=(FM,eval e X.env)::Fb es X.env:=by rfl):Pa X (e::es) σ H Q:=#[_,aa dj sN hs,q]
theorem bv (i:E1) {x:Fh}(q:lj i σ H Q) (hN:X.N[i]?=EQ x:=by rfl) (hv:oH X.env.scope x:=by exact Gx rfl) (hd:(x == ("__debug__":Fh))=FM:=by decide) (RG:(x == ("__classdict__":Fh))=FM:=by decide):Pe X (.Name x p1) σ H Q:=#[_,dX hN hv hd RG,q]
end
theorem Pt.mono {X:Cx}{e:G8}{σ:L2.St}{H:Hp}{Q Q':FR->Hp->Prop}(h:Pt X e σ H Q) (im: ∀b H,Q b H->Q' b H):Pt X e σ H Q':=by
 obtain⟨t,ht,q⟩:=h;refine#[λσ H Q'=> ∃Q:FR->Hp->Prop,(∀b H,Q b H->Q' b H)/\t σ H Q,λpins s σ H Q' I h=>?_,Q,im,q];obtain⟨Q,im,q⟩:=h;exact b9 (ht pins s σ H Q I q) λc s' ⟨H',I',q⟩=>#[H',I',im _ _ q]
theorem Pe.mono {X:Cx}{e:G8}{σ:L2.St}{H:Hp}{Q Q':VK}(h:Pe X e σ H Q) (im: ∀b H,Q b H->Q' b H):Pe X e σ H Q':=by
 obtain⟨t,ht,q⟩:=h;refine#[λσ H Q'=> ∃Q:VK,(∀b H,Q b H->Q' b H)/\t σ H Q,λpins s σ H Q' I h=>?_,Q,im,q];obtain⟨Q,im,q⟩:=h;exact b9 (ht pins s σ H Q I q) λc s' ⟨v,H',I',r,q⟩=>#[v,H',I',r,im _ _ q]
inductive aaf (I:E1->L2.St->Hp->Prop) (m:E1) (σ:L2.St) (H:Hp):Prop
 |mk (k:E1) (_:k<m) (_:I k σ H):aaf I m σ H
def _root_.L2.eJ.lp (D:eJ) (X:Cx) (ss:EA Stmt) (N:L2.St->Hp->Prop):eJ:= { D.to X ss with nx:=N,ct:=N,bk:=(D.to X ss).nx }
inductive isApp (L:EJ) (R:Hp->Prop) (v:V) (H:Hp):Prop
 |mk (xs:EA V) (_:H L=EQ (.lst xs)) (_:xs.length<FE) (_:R (aF H L (.lst (xs++[v])))):isApp L R v H
section
variable {X:Cx}{ss A:EA Stmt}{D:eJ}{σ:L2.St}{H:Hp}{e f c:G8}{es:EA G8}{Q:VK}{R:FR->Hp->Prop}{N:L2.St->Hp->Prop}{x y:Fh}{p0 p1 p2 p3 p4 p5:Pos}{i:E1}{L:EJ}{xs:EA V}{te:TE}
theorem fU (hp:Pc (model X.prog X.w) X.A X.env X.xe) (I:E1->L2.St->Hp->Prop) (m:E1) (h0:I m σ H) (hs: ∀m σ H,I m σ H->Pt X c σ H λb H1=>if b=FB then Bd X A (D.lp X ss (aaf I m)) σ H1 else Bd X ss D σ H1):Bd X (.While c A [] p5::ss) D σ H:=by
 refine aQ (iN hp jh ij) #[I,#[m,h0],λm σ H h=>(hs m σ H h).mono λb H1 z=>?_];cases b with
 |true=>exact#[aaf I m,λσ' H' ⟨k,h1,h2⟩=>#[k,h1,h2],z]
 |false=>exact z
theorem fY (q:N σ H):Bd X [] (D.lp X ss N) σ H:=cc q
theorem zC (q:D.bk σ H):Bd X (.Break p5::A) D σ H:=aQ BZ q
theorem jH (i:E1) (hp:Pc (model X.prog X.w) X.A X.env X.xe) (nd:X.N.Nodup) (he:PE X e te) (hv: ∀R:VK,R (.ref L) H->te σ H R) (I:E1->L2.St->Hp->Prop) (h0:I 0 σ H) (hL: ∀j σ H,j<=xs.length->I j σ H->H L=EQ (.lst xs))
  (hs: ∀j x σ H,xs[j]?=EQ x->I j σ H->Bd X A (D.lp X ss (I (j+1))) (σ.set i (EQ x)) H) (hd: ∀σ H,I xs.length σ H->Bd X ss D σ H) (hc:X.calm=FB:=by rfl) (h:Sl X i y:=by exact#[FS,Gx rfl,FS]) (hf: ∀x,Lk e X.env x=pure x:=by intro _;rfl):Bd X (.For (.Name y p0) e A [] p5::ss) D σ H:=
 aQ (uX hp hc (mf he) (jR nd h.hi h.hx (.inl h.hf)) ij hf) (hv _ #[L,FS,#[_,cO.of (hL 0 σ H (Fs _) h0)],sy I h0 (λj σ H hj h=>cO.of (hL j σ H hj h)) hs hd])
theorem uc (q:Pa X es σ H (BW Q)):Pe X (.List es p1) σ H Q:=#[_,iG sN,q]
theorem mq (q: ∀L,H L=Fa->Q (.ref L) (aF H L (.lst []))):Pe X (.List [] p1) σ H Q:=uc (cC #[Fs _,q])
theorem iP (hl:X.mg "len"=Fa) (hL:H L=EQ (.lst xs)) (he:PE X e te) (hv: ∀Q:VK,Q (.ref L) H->te σ H Q) (q:Q (.int xs.length) H) (hg:Gl X "len":=by rfl) (JS:Fb [e] X.env=[(FM,eval e X.env)]:=by rfl):Pe X (.Call (.Name "len" p1) [e] [] p2) σ H Q:=
 #[_,bF bM hg hl Hl (aa he ag JS) [01] [01] JS rfl,hv _ #[L,xs,FS, .inl (cO.of hL),q]]
theorem cP {r:R2}(ho:kW X (HL op) r) (q:Pe X e σ H λx H1=>Pe X f σ H1 λy H2=>r x y H2 (uj R)) (hm:behindInMarks op f=FM:=by exact aM _):Pt X (.Compare e [op] [f] p1) σ H R:=#[_,a7 ho dj dj hm,q]
theorem A8 {r:R2}(ho:kW X (OW op) r) (q:Pe X e σ H λx H1=>Pe X f σ H1 λy H2=>r x y H2 Q):Pe X (.BinOp e op f p1) σ H Q:=#[_,ca ho dj dj,q]
theorem ik (he:PE X e te) (hv: ∀R:VK,R (.ref L) H->te σ H R) (hL:H L=EQ (.lst xs)) (q:Pe X f σ H (isApp L λH'=>Bd X ss D σ H')) (hb:HM e "append" X.env (eval e X.env)=eval e X.env:=by rfl) (JS:Fb [f] X.env=[(FM,eval f X.env)]:=by rfl) (hp:ig p2 p4:=by rfl):
  Bd X (.Expr (.Call (.Attribute e "append" p2) [f] [] p4) p5::ss) D σ H:=by
 refine bA #[_,wj Iw J4 J5 iR he (aa dj ag JS) hb (by rw[JS];rfl) hp JS rfl,hv _ #[.inl #[FS,_,cO.of hL],q.mono λv H1 z=>?_]];obtain⟨xs',h1,h2,h3⟩:=z;exact#[L,xs',v,FS,FS,h1,h2,h3]
end
theorem okL {P:Fz}{w:Ga}{K:EF}{mg:Fh->ET EH}{base:Gn}{x Gz:Fh}{st:Stmt}{f:EJ}{fd:FL}{N ps:EA Fh}{k:E1}{sp:Sp}(F:oF K x Gz st f fd)
  (S:az N ps (af st)) (len: ∀vs H Q E,sp vs H Q E->vs.length=ps.length)
  (Jc: ∀(Gp:EH) (A:Gk) (outer:EA Env) (s:EM) (H:Hp) (vs:EA V) (Q:VK) (E:XK),bW k (A.deeper (Jf Gz (af st) s.heap.objs.size f Gp))->sp vs H Q E->
   let X:=fi (fW P w) P w K mg base N Gz (af st) f Gp A outer s H E
   let D:eJ:= { nx:=λ_ H'=>Q .HZ H',rt:=Q }
   Bd X (a8 st) D (start N vs) H):bS P w K mg base (fW P w) (k+1) f fd ps sp:=fP F S len Jc
section
variable {H:Hp}{Q:VK}{R:FR->Hp->Prop}{sp:Sp}{CX:pS}{E:XK}
theorem cv (q:Pt X e σ H λb H'=>if b=FB then Bd X A D σ H' else Bd X B D σ H'):Bd X [.If e A B p5] D σ H:=eA (cy jh ij ij) q
theorem aag {Z:Prop}(Tb:Z->Bd X B D σ H) (q:(Z->Bd X B D σ H)->Pt X e σ H λb H'=>if b=FB then Bd X A D σ H' else Bd X B D σ H'):Bd X [.If e A B p5] D σ H:=cv (q Tb)
theorem fj (q:Pe X e σ H λ_ H'=>D.nx σ H') (hs:K7 e Fa p5.line X.env=pure FM):Bd X [.Expr e p5] D σ H:=eA (bi dj hs) q
theorem ci (q:Pe X e σ H (dL X.K y Q)) (hb:HM e y X.env (eval e X.env)=eval e X.env):Pe X (.Attribute e y p1) σ H Q:=#[_,ao dj hb,q]
theorem lr (q:Pe X e σ H λv H1=>Pe X f σ H1 λu H2=>AW X.K v u H2 Q) (hs:qV f):Pe X (.Subscript e f p1) σ H Q:=#[_,cK bB dj dj hs,q]
theorem bI (q:Pa X (e::es) σ H λvs H1=>sp (vs++[]) H1 Q E) (G:bS X.prog X.w X.K X.mg X.base CX k fa fd ps sp) (hr:bW k X.A) (d:CD X.K X.mg x fa fd ps) (up:dg CX X E) (hg:Gl X x:=by rfl) (hx:(x == ("__debug__":Fh))=FM:=by decide) (he:Fb (e::es) X.env=(FM,eval e X.env)::Fb es X.env:=by rfl) (Ma:(Ie p4 (Fb es X.env)).any (·.1)=FM:=by rfl):
  Pe X (.Call (.Name x p1) (e::es) [] p4) σ H Q:=#[_,aL G hr hg d up sN hx he Ma,q]
theorem jg (q:Pe X e σ H λv H1=>Pe X f σ H1 λu H2=> ∃i j,v= .int i/\u= .int j/\R (decide (i=j)) H2):Pt X (.Compare e [.Eq] [f] p1) σ H R:=cP b7 (q.mono λv H1 q=>q.mono λu H2 ⟨i,j,h1,h2,q'⟩=>by
 subst h1 h2;exact#[FS,_,FS,by rw[show decide (V.int i=V.int j)=decide (i=j) from decide_eq_decide.mpr #[λy=>V.int.inj y,λy=>by rw[y]]];exact q']) (aM _)
end
theorem dz {c:Prop} [Decidable c] {A B:Prop}(h1:c->A) (h2: ¬c->B):if decide c=FB then A else B:=by
 by_cases h:c
 ·rw[EL (Gb h)];exact h1 h
 ·rw[EI (by rw[FA h];exact EE)];exact h2 h
abbrev k8:=EJ×HO
structure Ow (B:Hp) (L:EA k8) (H:Hp):Prop where
 same:a9 B H
 at_: ∀x∈L,H x.1=EQ x.2/\B x.1=Fa
 nd:(L.map λx:k8=>x.1).Nodup
section
variable {B H H':Hp}
theorem Ow.get (O:Ow B L H) (i:E1) {x:k8}(h:L[i]?=EQ x):H x.1=EQ x.2:=(O.at_ x (Gs h)).1
theorem Ow.grow (O:Ow B L H) (k:a9 H H'):Ow B L H':=#[λb o e=>k b o (O.same b o e),λx h=>#[k _ _ (O.at_ x h).1,(O.at_ x h).2],O.nd]
theorem Ow.sub (O:Ow B L H) (h:L'.Sublist L):Ow B L' H:=#[O.same,λx z=>O.at_ x (h.subset z),O.nd.sublist (h.map _)]
theorem Ow.perm (O:Ow B L H) (h:L.Perm L'):Ow B L' H:=#[O.same,λx z=>O.at_ x (h.mem_iff.mpr z),(h.map _).nodup_iff.mp O.nd]
theorem Ow.set (O:Ow B (L1++(p,o)::L2) H) (e:H' p=EQ o') (k: ∀b u,H b=EQ u->b≠p->H' b=EQ u):Ow B (L1++(p,o')::L2) H':=by
 have nd:=O.nd;rw[GG,Fe] at nd
 have z:=KO.mp nd
 have bp:=(O.at_ (p,o) (GI _ EO)).2;refine#[λb u h=>k b u (O.same b u h) λz=>(by rw[z,bp] at h;cases h),λx h=>?_,by rw[GG,Fe];exact nd]
 rcases Fp.mp h with h|h
 ·have h1:=O.at_ x (Lu _ h)
  exact#[k _ _ h1.1 λy=>z.2.2 x.1 (Kc h) p EO y,h1.2]
 ·rcases EW.mp h with h|h
  ·rw[h];exact#[e,bp]
  ·have h1:=O.at_ x (GI _ (EN _ h))
   exact#[k _ _ h1.1 λy=>(FI.mp z.2.1).1 (by have h3:=Kc (f:=λx:k8=>x.1) h;rw[y] at h3;exact h3),h1.2]
theorem nj: ∀b u,H b=EQ u->b≠p->aF H p o b=EQ u:=λb u e n=>by rw[ac n];exact e
theorem Ow.put (O:Ow B (L1++(p,o)::L2) H):Ow B (L1++(p,o')::L2) (aF H p o'):=O.set ae nj
theorem Ow.adds (O:Ow B L H) (k:a9 H H') (h: ∀x∈N,H x.1=Fa/\H' x.1=EQ x.2) (nd:(N.map λx:k8=>x.1).Nodup):Ow B (N++L) H':=by
 have hB: ∀ {b:EJ},H b=Fa->B b=Fa:=λ{b} e=>by
  cases z:B b with
  |none=>rfl
  |some o=>rw[O.same b o z] at e;cases e
 refine#[λb o e=>k b o (O.same b o e),λx z=>?_,?_]
 ·rcases Fp.mp z with z|z
  ·exact#[(h x z).2,hB (h x z).1]
  ·exact#[k _ _ (O.at_ x z).1,(O.at_ x z).2]
 ·rw[GG]
  refine KO.mpr #[nd,O.nd,λa ha b hb z=>?_];obtain⟨x,hx,rfl⟩:=KQ.mp ha;obtain⟨y,hy,rfl⟩:=KQ.mp hb;have:=(O.at_ y hy).1;rw[<-z,(h x hx).1] at this;cases this
end
abbrev cJ.O {K:EF}{mg:Fh->ET EH}{n:Fh}{st:Stmt}{ps:EA Fh}{f:EJ}{fd:FL}(_:cJ K mg n st ps f fd) (P:Fz) (w:Ga) (base:Gn) (k:E1) (sp:Sp):Prop:=bS P w K mg base (fW P w) k f fd ps sp
abbrev cJ.U {K:EF}{mg:Fh->ET EH}{n:Fh}{st:Stmt}{ps:EA Fh}{f:EJ}{fd:FL}(_:cJ K mg n st ps f fd) (P:Fz) (w:Ga) (base:Gn) (k:E1) (sp:Sp):Prop:=bS P w K mg base wG k f fd ps sp
abbrev eF.O {K:EF}{C:EJ}{n q:Fh}{st:Stmt}{ps:EA Fh}{f:EJ}{fd:FL}(_:eF K C n q st ps f fd) (P:Fz) (w:Ga) (mg:Fh->ET EH) (base:Gn) (k:E1) (sp:Sp):Prop:=bS P w K mg base (fW P w) k f fd ps sp
abbrev eF.U {K:EF}{C:EJ}{n q:Fh}{st:Stmt}{ps:EA Fh}{f:EJ}{fd:FL}(_:eF K C n q st ps f fd) (P:Fz) (w:Ga) (mg:Fh->ET EH) (base:Gn) (k:E1) (sp:Sp):Prop:=bS P w K mg base wG k f fd ps sp
abbrev cA (s:Stmt) (l:EA Fh):Prop:=az l l (af s)
theorem afi:cA abc ["self","worth"]:=aw [00]
theorem afj:cA abd ["self","name"]:=aw [00]
theorem afk:cA abe ["self","name","arguments"]:=aw [00]
theorem afl:cA abf ["self","sign","operand"]:=aw [00]
theorem afm:cA abg ["self","strength","operands","signs"]:=aw [00]
theorem afn:cA abh ["self","condition","chosen","otherwise"]:=aw [00]
theorem afo:cA abi ["self","name","first","last","body"]:=aw [00]
theorem afp:cA abj ["self","name","exp"]:=aw [00]
theorem afq:cA abk ["self","name","first","last","statements"]:=aw [00]
theorem afr:cA abl ["self","condition","statements","else_statements"]:=aw [00]
theorem afs:cA abm ["self","side","zone","quarter","price","to_price","amount"]:=aw [00]
theorem aft:cA abn ["self","name","exp"]:=aw [00]
theorem afu:cA abo ["self","name","side","zone","price","amounts","under","group"]:=aw [00]
theorem afv:cA abp ["self","name","exp"]:=aw [00]
theorem afw:cA abq ["self","name","parameters","exp"]:=aw [00]
theorem afx:cA abr ["self","name","statements"]:=aw [00]
theorem afy:cA abt ["self","desk","zone","quarter","side","low","high","amount"]:=aw [00]
theorem afz:cA abu ["self","desk","zone","side","price","group","parent","amounts"]:=aw [00]
theorem aka:cA s_K ["word"]:=aw [00]
theorem akb:cA s_o ["self","number"]:=aw [00]
theorem afA:cA abv ["self"]:=aw [00]
theorem akc:cA s_1 ["self","kind","line","column"]:=aw [00]
theorem akd:cA s_L ["self"]:=aw [00]
theorem ake:cA s_M ["self"]:=aw [00]
theorem afB:cA abw ["self"]:=aw [00]
theorem afC:cA abx ["self"]:=aw [00]
theorem afD:cA aby ["self"]:=aw [00]
theorem afE:cA abz ["self"]:=aw [00]
theorem akf:cA s_N ["sign","right"]:=aw [00]
theorem akg:cA s_O ["sign","left","right"]:=aw [00]
theorem akh:cA s_P ["sign","left","right"]:=aw [00]
theorem afF:cA abA ["sign","number"]:=aw [00]
theorem afG:cA abB ["name","numbers"]:=aw [00]
theorem afH:cA abC ["strength","number"]:=aw [00]
theorem aki:cA s_Q ["strength"]:=aw [00]
theorem afI:cA abD ["self","exp"]:=aw [00]
theorem afJ:cA abE ["self"]:=aw [00]
theorem afK:cA abF ["self"]:=aw [00]
theorem afL:cA abG ["self","name","value"]:=aw [00]
theorem afM:cA abH ["self","name"]:=aw [00]
theorem afN:cA abI ["self","exp"]:=aw [00]
theorem afO:cA abJ ["self","value"]:=aw [00]
theorem afP:cA abK ["self","exp"]:=aw [00]
theorem akj:cA s_2 ["worker","exp","parts"]:=aw [00]
theorem akk:az ["worker","call","parts","wanted","function"] ["worker","call","parts"] (af s_3):=aw [00]
theorem akl:cA s_4 ["worker","unary","parts"]:=aw [00]
theorem akm:cA s_5 ["worker","chain","parts"]:=aw [00]
theorem akn:cA s_6 ["worker","chain","parts"]:=aw [00]
theorem ako:az ["worker","chain","parts","right"] ["worker","chain","parts"] (af s_7):=aw [00]
theorem afQ:cA abL ["sign","left","right"]:=aw [00]
theorem akp:cA s_w ["value"]:=aw [00]
theorem akq:cA s_8 ["worker","choice","parts"]:=aw [00]
theorem akr:cA s_9 ["worker","summed","parts"]:=aw [00]
theorem afR:az ["worker","summed","parts","turns","added"] ["worker","summed","parts"] (af abM):=aw [00]
theorem afS:cA abN ["self","zones","quarters","low","high"]:=aw [00]
theorem afT:cA abO ["self","market"]:=aw [00]
theorem aah:az ["market","tops","expansion","top"] ["market","tops"] (af s_R):=aw [00]
theorem afU:cA abP ["expansion","top"]:=aw [00]
theorem aks:cA s_x ["worker","given"]:=aw [00]
theorem afV:az ["expansion","statements","statement"] ["expansion","statements"] (af s_k):=aw [00]
theorem akt:cA s_S ["expansion","statement"]:=aw [00]
theorem aai:az ["expansion","loop","worker","turn","last"] ["expansion","loop"] (af s_y):=aw [00]
theorem afW:cA s_B ["expansion","condition"]:=aw [00]
theorem afX:cA abQ ["number","least","most"]:=aw [00]
theorem Xv:az ["expansion","step","worker","zone","quarter","low","high","amount","market","side"] ["expansion","step"] (af abR):=aw [00]
theorem aku:cA s_T ["expansion","order"]:=aw [00]
theorem Xw:az ["expansion","block","worker","zone","price","amounts","group","amount","parent","side"] ["expansion","block"] (af abS):=aw [00]
theorem afY:az ["expansion","amounts","found","quarter"] ["expansion","amounts"] (af s_C):=aw [00]
theorem afZ:cA abT ["expansion","block"]:=aw [00]
theorem af0:cA abU ["expansion","name","order"]:=aw [00]
theorem akv:cA s_D ["self","kind","value","line","column"]:=aw [00]
theorem akw:cA s_e ["byte"]:=aw [00]
theorem akx:cA s_h ["byte"]:=aw [00]
theorem af1:cA s_E ["text","at"]:=aw [00]
theorem af2:cA s_F ["text","at"]:=aw [00]
theorem af3:cA s_G ["text","at"]:=aw [00]
theorem af4:az ["text","at","pair"] ["text","at"] (af s_H):=aw [00]
theorem af5:az ["text","at","end","glued"] ["text","at","end"] (af s_I):=aw [00]
theorem Dt:az ["part","worth","byte"] ["part"] (af s_r):=aw [00]
theorem aaj:az ["kind","part","byte"] ["kind","part"] (af s_s):=aw [00]
theorem lQ:az ["text","found","line","line_start","at","end","kind"] ["text"] (af s_i):=aw [00]
theorem af6:cA abV ["self","tokens"]:=aw [00]
theorem af7:az ["self","token"] ["self"] (af s_a):=aw [00]
theorem af8:az ["self","kind","token"] ["self","kind"] (af s_b):=aw [00]
theorem aky:cA s_p ["self","value"]:=aw [00]
theorem af9:cA abW ["self"]:=aw [00]
theorem aga:cA abX ["self"]:=aw [00]
theorem agb:az ["self","token"] ["self"] (af s_U):=aw [00]
theorem agc:cA abY ["self"]:=aw [00]
theorem agd:az ["self","token"] ["self"] (af s_t):=aw [00]
theorem age:cA abZ ["self","value"]:=aw [00]
theorem agf:cA ab0 ["self","value"]:=aw [00]
theorem akz:cA s_z ["self"]:=aw [00]
theorem Xx:az ["self","name"] ["self"] (af ab1):=aw [00]
theorem agg:cA ab2 ["self","given"]:=aw [00]
theorem agh:cA ab3 ["self","name"]:=aw [00]
theorem agi:cA ab4 ["self","name"]:=aw [00]
theorem akA:cA s_f ["reader","depth"]:=aw [00]
theorem agj:cA s_c ["reader","depth"]:=aw [00]
theorem agk:az ["reader","depth","inner","condition","chosen"] ["reader","depth"] (af ab5):=aw [00]
theorem agl:az ["reader","depth","strength","operands","signs"] ["reader","depth","strength"] (af s_u):=aw [00]
theorem aak:az ["reader","depth","inner","sign"] ["reader","depth"] (af s_l):=aw [00]
theorem agm:az ["reader","depth","name"] ["reader","depth"] (af ab6):=aw [00]
theorem agn:az ["reader","depth","inner","exp"] ["reader","depth"] (af ab7):=aw [00]
theorem ago:az ["reader","depth","inner","name","first","last","body"] ["reader","depth"] (af ab8):=aw [00]
theorem akB:az ["reader","depth","inner","name","wanted","arguments"] ["reader","depth"] (af s_V):=aw [00]
theorem agp:cA ab9 ["reader","sign"]:=aw [00]
theorem aal:az ["text","reader","tops"] ["text"] (af s_j):=aw [00]
theorem agq:cA aca ["reader"]:=aw [00]
theorem agr:az ["reader","name","exp"] ["reader"] (af acb):=aw [00]
theorem akC:az ["reader","exp"] ["reader"] (af s_q):=aw [00]
theorem ags:az ["reader","name","parameters","exp","parameter"] ["reader"] (af acd):=aw [00]
theorem agt:az ["reader","function","parameters"] ["reader","function"] (af ace):=aw [00]
theorem agu:az ["reader","function","name"] ["reader","function"] (af acf):=aw [00]
theorem agv:az ["reader","name"] ["reader"] (af acg):=aw [00]
theorem agw:az ["reader","depth","statements","statement"] ["reader","depth"] (af s_m):=aw [00]
theorem agx:cA ach ["reader","depth"]:=aw [00]
theorem akD:az ["reader","name","exp"] ["reader"] (af s_W):=aw [00]
theorem agy:cA aci ["reader","depth"]:=aw [00]
theorem agz:az ["reader","depth","inner","name","first","last","statements"] ["reader","depth"] (af acj):=aw [00]
theorem agA:az ["reader","depth","inner","condition","statements","else_statements"] ["reader","depth"] (af ack):=aw [00]
theorem agB:cA acm ["reader"]:=aw [00]
theorem akE:cA s_n ["reader","word"]:=aw [00]
theorem akF:cA s_A ["reader","word"]:=aw [00]
theorem akG:az ["reader","side","zone","quarter","price","to_price","amount"] ["reader"] (af s_X):=aw [00]
theorem akH:az ["reader","name","side","zone","price","amounts","under","group"] ["reader"] (af s_Y):=aw [00]
theorem agC:az ["reader","name","exp"] ["reader"] (af acn):=aw [00]
theorem agD:cA aco ["reader"]:=aw [00]
theorem aam:az ["text","byte"] ["text"] (af s_J):=aw [00]
theorem akI:cA s_Z ["price"]:=aw [00]
theorem Xy:az ["zones","quarters","low","high","counts"] ["zones","quarters","low","high"] (af acp):=aw [00]
theorem akJ:cA s_g ["as_told"]:=aw [00]
theorem agE:cA acq ["zones","quarters","low","high","text"]:=aw [00]
theorem aan:az ["zones","quarters","low","high","text","expansion","refusal"] ["zones","quarters","low","high","text"] (af s_d):=aw [00]
variable {P:Fz}{w:Ga}{K:EF}{mg:Fh->ET EH}{base:Gn}{a:be}
def jG (bs:EC):EA V:=bs.map λc=>V.int (nb c)
theorem fG (bs:EC):(jG bs).length=bs.length:=by unfold jG;rw[EY]
theorem fB {bs:EC}{i:E1}{c:Io}(h:bs[i]?=EQ c):(jG bs)[i]?=EQ (V.int (nb c)):=by unfold jG;rw[FQ,h];rfl
theorem nY {p:Io->Prop}(h: ∀n:E1,n<256->p (NI n)) (c:Io):p c:=by
 have:=h c.toNat (Wa c)
 rwa [UC] at this
theorem tV (c:Io):Ha c=(decide ((48:Int)<=nb c)&&decide (nb c<=57)):=nY (p:=λc=>Ha c=(decide ((48:Int)<=nb c)&&decide (nb c<=57))) [00] c
theorem yV (c:Io):JH c=((decide ((65:Int)<=nb c)&&decide (nb c<=90))||((decide ((97:Int)<=nb c)&&decide (nb c<=122))||decide (nb c=95))):=
 nY (p:=λc=>JH c=((decide ((65:Int)<=nb c)&&decide (nb c<=90))||((decide ((97:Int)<=nb c)&&decide (nb c<=122))||decide (nb c=95)))) [00] c
inductive vi (p:Io->FR) (vs:EA V) (H:Hp) (Q:VK) (_E:XK):Prop
 |mk (c:Io) (_:vs=[.int (nb c)]) (_:Q (.bl (p c)) H):vi p vs H Q _E
inductive vS (K:EF) (p:Io->FR) (vs:EA V) (H:Hp) (Q:VK) (_E:XK):Prop
 |mk (l:EJ) (bs:EC) (i:E1) (_:vs=[.ref l, .int i]) (_:cO K H l (jG bs)) (_:i<=bs.length) (_:Q (.int (aW p bs i:E1)) H):vS K p vs H Q _E
theorem BM (c:Io):eP c=!decide (V.int (nb c)=V.int 10):=nY (p:=λc=>eP c=!decide (V.int (nb c)=V.int 10)) [00] c
theorem jq {i:E1}{lo hi n:Int}{σ:St}{H:Hp}{Q:VK}(hv:σ[i]?=EQ (EQ (.int n))) (q:Q (.bl (decide (lo<=n)&&decide (n<=hi))) H):
  vz (yk λi j=> .bl (decide (i<=j))) (yk λi j=> .bl (decide (i<=j))) (tC (.int lo)) (lj i) (tC (.int hi)) σ H Q:=by
 refine oA #[_,_,FS,FS,_,FS,?_] hv;by_cases h1:lo<=n
 ·rw[EL (Gb h1)]
  rw[Gb h1,IK] at q;exact#[_,_,FS,FS,q]
 ·rw[EI (by rw[FA h1];exact EE)]
  rw[FA h1,Iy] at q;exact q
theorem cn:decide (V.int i=V.int j)=decide (i=j):=decide_eq_decide.mpr #[λy=>V.int.inj y,λy=>by rw[y]]
theorem aP {A B:Prop}(h1:b=FB->A) (h2:b=FM->B):if b=FB then A else B:=by
 cases b with
 |true=>exact cg (h1 rfl)
 |false=>exact bK (h2 rfl)
theorem Ez (T:aU K mg a):T.d_e.U P w base 1 (vi Ha):=by
 refine T.d_e.F.ok akw [03] [02];obtain⟨c,rfl,q⟩:=h;refine#[_,(ah (aK (iz eO eO aj (pv 0) aj))),?_];rw[tV] at q;exact jq rfl q
theorem aao (T:aU K mg a):T.d_h.U P w base 1 (vi JH):=by
 refine T.d_h.F.ok akx [03] [02];obtain⟨c,rfl,q⟩:=h;refine#[_,(ah (aK (Ba (iz eO eO aj (pv 0) aj) (Ba (iz eO eO aj (pv 0) aj) (jo (b8 b7 (pv 0) aj (aM _))))))),?_];rw[yV] at q;refine jq rfl #[_,FS,aP (λe=>?_) λe=>?_]
 ·rw[e,Sq] at q
  exact q
 ·rw[e,Rr] at q
  refine jq rfl #[_,FS,aP (λe=>?_) λe=>?_]
  ·rw[e,Sq] at q
   exact q
  ·rw[e,Rr] at q
   refine#[FS,?_];rw[cn];exact q
theorem akK (T:aU K mg a):T.d_E.U P w base 1 (vS K eP):=by
 refine T.d_E.F.ok af1 [03] [02];obtain⟨l,bs,i,rfl,hS,hi,q⟩:=h;refine#[_,(ax (iN K9 (qj (a7 jK (pv 1) (bF bM (by rfl) T.JP Hl (aa (pv 0) ag)) (aM _)) (lW (a7 pK (cK bB (pv 0) (pv 1) (λ_ _=>rfl)) (aR (by rfl) T.PD) (aM _)))).pt (ah (kL (i:=1) af1.nd rfl (Gx rfl) aj lf)))
   (ah (aK (pv 1)))),?_]
 refine#[λm σ H'=> ∃j:E1,m=bs.length-j/\σ=[EQ (.ref l),EQ (.int (j:E1))]/\H'=H/\j<=bs.length/\aW eP bs j=aW eP bs i,#[_,i,FS,FS,FS,hi,FS],?_];rintro m σ H' ⟨j,rfl,rfl,rfl,hj,ej⟩;refine#[_,_,FS, .inl hS,_,_,FS,FS,_,FS,?_];rw[fG];refine aP (λe=>?_) λe=>?_
 ·have lt:j<bs.length:=by have:=Ft e;lia
  obtain⟨c,hc⟩: ∃c,bs[j]?=EQ c:=#[_,GU lt];refine#[_,_,_,_,FS,FS,hS,bj (fB hc),FS,_,FS,?_];have st:eP c=!decide (V.int (nb c)=V.int 10):=BM c;refine aP (λe2=>?_) λe2=>?_
  ·refine#[λσ' Ry=>σ'=[EQ (.ref l),EQ (.int ((j+1:E1)))]/\Ry=H',?_,_,FS,_,_,FS,FS,FS,FS]
   rintro σ' Ry ⟨rfl,rfl⟩;exact#[_,by lia,j+1,FS,FS,FS,lt,by rw[<-ej,jP hc (st.trans e2)]]
  ·refine ?_
   rw[<-ej,m7 hc (st.trans e2)] at q;exact q
 ·have ge:bs.length<=j:=by have:=Fw e;lia
  refine bK ?_;rw[<-ej,kR ge] at q;exact q
theorem akL (T:aU K mg a):T.d_F.U P w base 2 (vS K bR):=by
 have G_h:=aao (P:=P) (w:=w) (base:=base) T
 have G_e:=Ez (P:=P) (w:=w) (base:=base) T;refine T.d_F.F.ok af2 [03] [02];obtain⟨l,bs,i,rfl,hS,hi,q⟩:=h;refine#[_,(ax (iN K9 (qj (a7 jK (pv 1) (bF bM (by rfl) T.JP Hl (aa (pv 0) ag)) (aM _)) (lW (v9 (di (aL G_h hr (by rfl) T.d_h.c aY (aa (cK bB (pv 0) (pv 1) (λ_ _=>rfl)) ag))) (qB (di (aL G_e hr (by rfl) T.d_e.c aY (aa (cK bB (pv 0) (pv 1) (λ_ _=>rfl)) ag))))).pt)).pt (ah (kL (i:=1) af2.nd rfl (Gx rfl) aj lf)))
   (ah (aK (pv 1)))),?_]
 refine#[λm σ H'=> ∃j:E1,m=bs.length-j/\σ=[EQ (.ref l),EQ (.int (j:E1))]/\H'=H/\j<=bs.length/\aW bR bs j=aW bR bs i,#[_,i,FS,FS,FS,hi,FS],?_];rintro m σ H' ⟨j,rfl,rfl,rfl,hj,ej⟩;refine#[_,_,FS, .inl hS,_,_,FS,FS,_,FS,?_];rw[fG];refine aP (λe=>?_) λe=>?_
 ·have lt:j<bs.length:=by have:=Ft e;lia
  obtain⟨c,hc⟩: ∃c,bs[j]?=EQ c:=#[_,GU lt];have go:bR c=FB-> ∃N:St->Hp->Prop,(∀σ' Ry,N σ' Ry-> ∃m',m'<bs.length-j/\ ∃j1:E1,m'=bs.length-j1/\σ'=[EQ (.ref l),EQ (.int (j1:E1))]/\Ry=H'/\j1<=bs.length/\aW bR bs j1=aW bR bs i)/\
    N [EQ (.ref l),EQ (.int ((j+1:E1)))] H':=λy=>by
   refine#[λσ' Ry=>σ'=[EQ (.ref l),EQ (.int ((j+1:E1)))]/\Ry=H',?_,FS,FS];rintro σ' Ry ⟨rfl,rfl⟩;exact#[_,by lia,j+1,FS,FS,FS,lt,by rw[<-ej,jP hc y]]
  refine#[_,_,_,_,FS,FS,hS,bj (fB hc),c,FS,_,FS,aP (λe2=>?_) λe2=>?_]
  ·obtain⟨N,n1,n2⟩:=go (by unfold bR;rw[e2];rfl)
   exact cg #[N,n1,_,FS,_,_,FS,FS,n2]
  ·refine#[_,_,_,_,FS,FS,hS,bj (fB hc),c,FS,_,FS,aP (λe3=>?_) λe3=>?_]
   ·obtain⟨N,n1,n2⟩:=go (by unfold bR;rw[e3,Pk])
    exact#[N,n1,_,FS,_,_,FS,FS,n2]
   ·refine ?_
    rw[<-ej,m7 hc (by unfold bR;rw[e2,e3];rfl)] at q;exact q
 ·have ge:bs.length<=j:=by have:=Fw e;lia
  refine bK ?_;rw[<-ej,kR ge] at q;exact q
theorem akM (T:aU K mg a):T.d_G.U P w base 2 (vS K Ha):=by
 have G_e:=Ez (P:=P) (w:=w) (base:=base) T;refine T.d_G.F.ok af3 [03] [02];obtain⟨l,bs,i,rfl,hS,hi,q⟩:=h;refine#[_,(ax (iN K9 (qj (a7 jK (pv 1) (bF bM (by rfl) T.JP Hl (aa (pv 0) ag)) (aM _)) (lW (di (aL G_e hr (by rfl) T.d_e.c aY (aa (cK bB (pv 0) (pv 1) (λ_ _=>rfl)) ag))))).pt (ah (kL (i:=1) af3.nd rfl (Gx rfl) aj lf)))
   (ah (aK (pv 1)))),?_]
 refine#[λm σ H'=> ∃j:E1,m=bs.length-j/\σ=[EQ (.ref l),EQ (.int (j:E1))]/\H'=H/\j<=bs.length/\aW Ha bs j=aW Ha bs i,#[_,i,FS,FS,FS,hi,FS],?_];rintro m σ H' ⟨j,rfl,rfl,rfl,hj,ej⟩;refine#[_,_,FS, .inl hS,_,_,FS,FS,_,FS,?_];rw[fG];refine aP (λe=>?_) λe=>?_
 ·have lt:j<bs.length:=by have:=Ft e;lia
  obtain⟨c,hc⟩: ∃c,bs[j]?=EQ c:=#[_,GU lt];refine#[_,_,_,_,FS,FS,hS,bj (fB hc),c,FS,_,FS,aP (λe2=>?_) λe2=>?_]
  ·refine#[λσ' Ry=>σ'=[EQ (.ref l),EQ (.int ((j+1:E1)))]/\Ry=H',?_,_,FS,_,_,FS,FS,FS,FS]
   rintro σ' Ry ⟨rfl,rfl⟩;exact#[_,by lia,j+1,FS,FS,FS,lt,by rw[<-ej,jP hc e2]]
  ·refine ?_
   rw[<-ej,m7 hc e2] at q;exact q
 ·have ge:bs.length<=j:=by have:=Fw e;lia
  refine bK ?_;rw[<-ej,kR ge] at q;exact q
theorem iQ (hg:Gl X x) (hm:X.mg x=EQ (.ref p)) (hd:(x == ("__debug__":Fh))=FM:=by decide):PE X (.Name x pos) (tC (.ref p)):=qx hg hm rfl hd
theorem oi {bs:EC}{i j:E1} :uQ (jG bs) (EQ (i:Int)) (EQ (j:Int))=jG (part bs i j):=by
 unfold uQ part;rw[HT.TU,HT.TU,fG];unfold jG;rw[<-EA.map_drop,<-EA.map_take]
 congr 1
 by_cases hi:i<=bs.length
 ·rw[WW hi]
  by_cases hj:j<=bs.length
  ·rw[WW hj]
  ·rw[V5 (show bs.length<=j by lia),II (by rw[Lg];lia),II (by rw[Lg];lia)]
 ·rw[V5 (show bs.length<=i by lia),JE (E6 _),JE (show bs.length<=i by lia)]
  simp
theorem aap (h:kb x=kb y):x=y:=P4.mp (UP (W7 h))
theorem Dp {x y:EC}(h:x.map kb=y.map kb):x=y:=(UA λ_ _ z=>aap z).mp h
theorem aaq (w:EC):(w.map kb).map kV=jG w:=by unfold jG;rw[Jg];rfl
theorem wb (w:EC): ∀L:EA EC,bN (L.map λs=>(s.map kb,V.str (dI s))) (w.map kb)=if w∈L then EQ (V.str (dI w)) else Fa
 |[]=>by simp [bN]
 |s::L=>by
  rw[Fe];by_cases e:s=w
  ·subst e
   rw[cf rfl,EL EO]
  ·rw[bX (λz=>e (Dp z)),wb w L]
   by_cases m:w∈L
   ·rw[EL m,EL (EN _ m)]
   ·rw[EI m,EI λz=>(EW.mp z).elim (λy=>e y.symm) m]
theorem rH (w:EC):bN dO (w.map kb)=if w∈F6 then EQ (V.str (dI w)) else Fa:=wb w F6
theorem i5 (w:EC):(bN dO (w.map kb)).isSome=decide (w∈F6):=by
 rw[rH];by_cases m:w∈F6
 ·rw[EL m,Gb m];rfl
 ·rw[EI m,FA m];rfl
def eX (bs:EC) (i:E1) (c:Io):E1:=if JH c=FB then aW bR bs i else if Ha c=FB then aW Ha bs i else bo bs i
inductive sI (K:EF) (vs:EA V) (H:Hp) (Q:VK) (_E:XK):Prop
 |mk (l:EJ) (bs:EC) (i:E1) (c:Io) (_:vs=[.ref l, .int i]) (_:cO K H l (jG bs)) (_:bs[i]?=EQ c) (_: ∀H',a9 H H'->Q (.int (eX bs i c:E1)) H'):sI K vs H Q _E
theorem b3 {H:Hp}(h:H p=Ss):a9 H (aF H p o):=λb u e=>by rw[ac (ai e h)];exact e
theorem akN (T:aU K mg a) (kS:zr P w K a.Jy dO):T.d_H.U P w base 3 (sI K):=by
 have G_h:=aao (P:=P) (w:=w) (base:=base) T
 have G_e:=Ez (P:=P) (w:=w) (base:=base) T
 have G_F:=akL (P:=P) (w:=w) (base:=base) T
 have G_G:=akM (P:=P) (w:=w) (base:=base) T;refine T.d_H.F.ok af4 [03] [02];obtain⟨l,bs,i,c,rfl,hS,hc,q⟩:=h
 have hi:i<=bs.length:=J6 (FF.mp hc).1;refine#[_,(ax (cy (di (aL G_h (hr.mono [01]) (by rfl) T.d_h.c aY (aa (cK bB (pv 0) (pv 1) (λ_ _=>rfl)) ag))) (ah (aK (aL G_F (hr.mono [01]) (by rfl) T.d_F.c aY (aa (pv 0) (aa (pv 1) ag))))) br)
   (ax (cy (di (aL G_e (hr.mono [01]) (by rfl) T.d_e.c aY (aa (cK bB (pv 0) (pv 1) (λ_ _=>rfl)) ag))) (ah (aK (aL G_G (hr.mono [01]) (by rfl) T.d_G.c aY (aa (pv 0) (aa (pv 1) ag))))) br)
   (ax (cH (i:=2) af4.nd rfl (Gx rfl) (iX gn (by rfl) T.Ri LY (aa (og qv (pv 0) (i6 (pv 1)) (i6 (ca dU (pv 1) aj))) ag)))
   (ah (aK (dD (fC (vR (dq hr) (pv 2) (iQ (by rfl) T.Rg))) (ca dU (pv 1) (bF bM (by rfl) T.JP Hl (aa (pv 2) ag))) (ca dU (pv 1) aj))))))),?_]
 refine#[_,_,_,_,FS,FS,hS,bj (fB hc),c,FS,_,FS,aP (λe=>?_) λe=>?_]
 ·refine#[l,bs,i,FS,hS,hi,?_]
  have z:=q H (a9.refl H);unfold eX at z;rw[EL e] at z;exact z
 ·refine#[_,_,_,_,FS,FS,hS,bj (fB hc),c,FS,_,FS,aP (λe2=>?_) λe2=>?_]
  ·refine#[l,bs,i,FS,hS,hi,?_]
   have z:=q H (a9.refl H);unfold eX at z;rw[EI (by rw[e];exact EE),EL e2] at z;exact z
  ·refine#[_,FS,_,_,FS,FS,_,FS,_,_,FS,hS,λp hp=>?_]
   refine#[p,_,FS, .inl #[cO.of ae,λt ht=>?_]];have cut:uQ (jG bs) (EQ (i:Int)) (EQ ((i:Int)+2))=jG (part bs i (i+2)):=oi (j:=i+2);rw[cut] at ht ⊢;have sm:a9 H (aF (aF H p (.lst (jG (part bs i (i+2))))) t (.tup (jG (part bs i (i+2))))):=(b3 hp).trans (b3 ht);have z:=q _ sm;unfold eX at z;rw[EI (by rw[e];exact EE),EI (by rw[e2];exact EE)] at z;unfold bo at z;refine#[a.Jy,t,(part bs i (i+2)).map kb,dO,FS,kS,FS,by rw[ae,aaq],_,FS,aP (λe3=>?_) λe3=>?_]
   ·rw[i5] at e3
    rw[EL (Ft e3)] at z;refine#[_,_,FS, .inr (rh.of ae),_,_,FS,FS,?_];rw[fG];exact z
   ·rw[i5] at e3
    rw[EI (Fw e3)] at z;exact#[_,_,FS,FS,z]
def i8 (bs:EC) (i e:E1) (c:Io):Int:=if JH c=FB then(if e-i<=24 then 0 else 4) else if Ha c=FB then(if 18<e-i\/pI bs e=FB then 4 else 1) else if part bs i e∈F6 then 2 else 4
inductive pF (K:EF) (vs:EA V) (H:Hp) (Q:VK) (_E:XK):Prop
 |mk (l:EJ) (bs:EC) (i e:E1) (c:Io) (_:vs=[.ref l, .int i, .int e]) (_:cO K H l (jG bs)) (_:bs[i]?=EQ c) (_:i<=e) (_:e<=bs.length) (_: ∀H',a9 H H'->Q (.int (i8 bs i e c)) H'):pF K vs H Q _E
theorem akO (T:aU K mg a) (kS:zr P w K a.Jy dO):T.d_I.U P w base 2 (pF K):=by
 have G_h:=aao (P:=P) (w:=w) (base:=base) T
 have G_e:=Ez (P:=P) (w:=w) (base:=base) T;refine T.d_I.F.ok af5 [03] [02];obtain⟨l,bs,i,e,c,rfl,hS,hc,hie,he,q⟩:=h;refine#[_,(ax (cy (di (aL G_h (hr.mono [01]) (by rfl) T.d_h.c aY (aa (cK bB (pv 0) (pv 1) (λ_ _=>rfl)) ag))) (ah (aK (dD (a7 eO (ca cZ (pv 2) (pv 1)) (aR (by rfl) T.Qc) (aM _)) (aR (by rfl) T.SY) (aR (by rfl) T.OJ)))) br)
   (ax (cy (di (aL G_e (hr.mono [01]) (by rfl) T.d_e.c aY (aa (cK bB (pv 0) (pv 1) (λ_ _=>rfl)) ag))) (ax (cH (i:=3) af5.nd rfl (Gx rfl) (nh (b8 jK (pv 2) (bF bM (by rfl) T.JP Hl (aa (pv 0) ag)) (aM _)) (jo (aL G_h (hr.mono [01]) (by rfl) T.d_h.c aY (aa (cK bB (pv 0) (pv 2) (λ_ _=>rfl)) ag)))))
   (ah (aK (dD (v9 (di (pv 3)) (qB (a7 gj (ca cZ (pv 2) (pv 1)) (aR (by rfl) T.O6) (aM _)))).pt (aR (by rfl) T.OJ) (aR (by rfl) T.OI))))) br)
   (ah (aK (dD (fC (vR (dq hr) (iX gn (by rfl) T.Ri LY (aa (og qv (pv 0) (i6 (pv 1)) (i6 (pv 2))) ag)) (iQ (by rfl) T.Rg))) (aR (by rfl) T.Vw) (aR (by rfl) T.OJ)))))),?_]
 refine#[_,_,_,_,FS,FS,hS,bj (fB hc),c,FS,_,FS,aP (λe1=>?_) λe1=>?_]
 ·refine#[_,_,FS,FS,_,_,FS,FS,_,FS,?_]
  have z:=q H (a9.refl H);unfold i8 at z;rw[EL e1] at z;refine aP (λe2=>?_) λe2=>?_
  ·have:=Ft e2
   rw[EL (by lia)] at z;exact z
  ·have:=Fw e2
   rw[EI (by lia)] at z;exact z
 ·refine#[_,_,_,_,FS,FS,hS,bj (fB hc),c,FS,_,FS,aP (λe2=>?_) λe2=>?_]
  ·have z:=q H (a9.refl H)
   unfold i8 at z;rw[EI (by rw[e1];exact EE),EL e2] at z;have rest: ∀b:FR,pI bs e=b->aeN (tIf (tOr (tB (lj 3)) (BA (tOp (yk λi j=> .bl (decide (j<i))) (tOp (yk λi j=> .int (i-j)) (lj 2) (lj 1)) (tC (.int 18))))) (tC (.int 4)) (tC (.int 1))) { nx:=λ_ H'=>Q .HZ H',rt:=Q } [EQ (.ref l),EQ (.int i),EQ (.int e),EQ (.bl b)] H:=λb hb=>by
    refine#[_,FS,aP (λe3=>?_) λe3=>?_]
    ·rw[EL (.inr (hb.trans e3))] at z
     exact cg z
    ·refine#[_,_,FS,FS,_,_,FS,FS,_,FS,aP (λe4=>?_) λe4=>?_]
     ·have:=Ft e4
      rw[EL (.inl (by lia))] at z;exact z
     ·have:=Fw e4
      rw[EI (λy=>y.elim (λy=>by lia) λy=>by rw[hb,e3] at y;cases y)] at z;exact z
   refine#[_,_,FS, .inl hS,_,_,FS,FS,_,FS,?_];rw[fG];refine aP (λe3=>?_) λe3=>?_
   ·have lt:e<bs.length:=by have:=Ft e3;lia
    obtain⟨g,hg⟩: ∃g,bs[e]?=EQ g:=#[_,GU lt];refine#[_,_,_,_,FS,FS,hS,bj (fB hg),g,FS,?_];exact rest (JH g) (by unfold pI;rw[hg];rfl)
   ·have ge:bs.length<=e:=by have:=Fw e3;lia
    exact rest FM (by unfold pI;rw[Ig ge];rfl)
  ·refine#[_,FS,_,FS,_,_,FS,hS,λp hp=>?_]
   refine#[p,_,FS, .inl #[cO.of ae,λt ht=>?_]];rw[oi] at ht ⊢;have sm:a9 H (aF (aF H p (.lst (jG (part bs i e)))) t (.tup (jG (part bs i e)))):=(b3 hp).trans (b3 ht);have z:=q _ sm;unfold i8 at z;rw[EI (by rw[e1];exact EE),EI (by rw[e2];exact EE)] at z;refine#[a.Jy,t,(part bs i e).map kb,dO,FS,kS,FS,by rw[ae,aaq],_,FS,aP (λe3=>?_) λe3=>?_]
   ·rw[i5] at e3
    rw[EL (Ft e3)] at z;exact z
   ·rw[i5] at e3
    rw[EI (Fw e3)] at z;exact z
section
open Vbemac (valueOf)
theorem qL (l:EC) (c:Io):valueOf (l++[c])=10*valueOf l+(c.toNat-48):=by unfold valueOf;rw[EA.foldl_append];rfl
theorem BG (h:Ha c=FB):48<=nb c:=by
 rw[tV,Gh] at h;exact Ft h.1
inductive wo (K:EF) (vs:EA V) (H:Hp) (Q:VK) (_E:XK):Prop
 |mk (l:EJ) (u:EC) (_:vs=[.ref l]) (_:cO K H l (jG u)) (_:(∀c∈u,Ha c=FB)) (_:Q (.int (valueOf u:E1)) H):wo K vs H Q _E
def one (c:Io):Fh:=#[[c.toNat].toArray]
theorem pf: ∀w:EC,TL.RZ [] (w.map λc=>[c.toNat])=w.map Mt
 |[]=>rfl
 |[c]=>rfl
 |c::d::r=>by
  show [c.toNat]++([]++TL.RZ [] ((d::r).map λc=>[c.toNat]))=_
  rw[pf (d::r)]
  rfl
theorem zK (w:EC):Ud ("":Fh) (w.map one)=sb w:=by
 rw[TL.join_eq];refine TL.aab ?_;rw[TL.TV,Jg];exact pf w
def zy:Fh:="0123456789:;<=>?@ABCDEFGHIJKLMNOPQRSTUVWXYZ[\\]^_`abcdefghijklmnopqrstuvwxyz"
theorem yS:zy.length<=FE:=by decide+kernel
theorem AX (h:bR c=FB):zq zy.cps.toList (nb c-48)=EQ c.toNat:=by
 revert h;exact nY (p:=λc=>bR c=FB->zq zy.cps.toList (nb c-48)=EQ c.toNat) [00] c
inductive As (K:EF) (vs:EA V) (H:Hp) (Q:VK) (_E:XK):Prop
 |mk (k:Int) (l:EJ) (u:EC) (_:vs=[.int k, .ref l]) (_:cO K H l (jG u)) (_:u.length<=3000) (_:((k=0/\(∀c∈u,bR c=FB)/\ ∀H',a9 H H'->Q (.str (sb u)) H')\/(k=1/\(∀c∈u,Ha c=FB)/\ ∀H',a9 H H'->Q (.int (valueOf u:E1)) H')\/
   (k=2/\u∈F6/\ ∀H',a9 H H'->Q (.str (dI u)) H')\/(k=4/\ ∀H',a9 H H'->Q (.str (sb [])) H'))):As K vs H Q _E
theorem akP (T:aU K mg a):T.d_r.U P w base 1 (wo K):=by
 refine T.d_r.F.ok Dt [03] [02];obtain⟨l,u,rfl,hS,hd,q⟩:=h;refine#[_,(ax (cH (i:=1) Dt.nd rfl (Gx rfl) aj)
   (ax (uX K9 rfl (mf (pv 0)) (jR (i:=2) Dt.nd rfl (Gx rfl)) (ah (cH (i:=1) Dt.nd rfl (Gx rfl) (ca cZ (ca dU (ca Af (pv 1) aj) (pv 2)) aj))))
   (ah (aK (pv 1))))),?_]
 refine#[l,FS,#[_,hS],sy (K:=K) (a:=l) (xs:=jG u) (λi σ H'=> ∃v:ET V,σ=[EQ (.ref l),EQ (.int (valueOf (u.take i):E1)),v]/\H'=H) #[Fa,FS,FS] (λi σ H' _ ⟨_,_,e⟩=>by rw[e];exact hS) ?_ ?_]
 ·rintro i y σ H' hi ⟨v,rfl,rfl⟩
  obtain⟨c,hc,rfl⟩: ∃c,u[i]?=EQ c/\y=V.int (nb c):=by
   unfold jG at hi;rw[FQ] at hi;cases e:u[i]? with
   |none=>rw[e] at hi;cases hi
   |some c=>rw[e] at hi;exact#[c,FS,(E5 hi).symm]
  refine#[_,_,FS,FS, .inr #[by decide,by decide],_,_,FS,FS,_,_,FS,FS,EQ (.int (nb c)),?_,FS];have g:=BG (hd c (Gs hc));have e:((valueOf (u.take (i+1)):E1):Int)=(valueOf (u.take i):E1)*10+nb c-48:=by
   rw[Mw,hc];show((valueOf (u.take i++[c]):E1):Int)=_;rw[qL];have g':48<=c.toNat:=Int.ofNat_le.mp g;show((10*valueOf (u.take i)+(c.toNat-48):E1):Int)=(valueOf (u.take i):E1)*10+(c.toNat:Int)-48;lia
  rw[e]
  rfl
 ·rintro σ H' ⟨v,rfl,rfl⟩
  rw[fG,MX];exact q
theorem akQ (T:aU K mg a) (kS:zr P w K a.Jy dO):T.d_s.U P w base 2 (As K):=by
 have G_r:=akP (P:=P) (w:=w) (base:=base) T;refine T.d_s.F.ok aaj [03] [02];obtain⟨k,l,u,rfl,hS,MJ,h⟩:=h;refine#[_,(ax (cy (a7 b7 (pv 0) (aR (by rfl) T.SY) (aM _)) (ah (aK (C9 dG (Xr rfl aaj.nd (mf (pv 1)) (own:=[("byte",2)]) (sO (by show Eu ["kind","part","byte"] (af s_s) _ [("byte",2)]=FB;decide+kernel)) (λ_ _ _ _ _=>jR (i:=2) aaj.nd rfl (Gx rfl)) (λ_ _ _ _ _=>w6) (λ_ _ _ _ _=>(cK ZW (afe (by rfl) T.S6) (ca cZ (pv 2) aj) (λ_ _=>rfl))))))) br)
   (ax (cy (a7 b7 (pv 0) (aR (by rfl) T.OI) (aM _)) (ah (aK (aL G_r (hr.mono [01]) (by rfl) T.d_r.c aY (aa (pv 1) ag)))) br)
   (ax (cy (a7 b7 (pv 0) (aR (by rfl) T.Vw) (aM _)) (ah (aK (B9 (dq hr) (iQ (by rfl) T.Rg) (iX gn (by rfl) T.Ri LY (aa (pv 1) ag)) (λ_ _=>rfl)))) br)
   (ah (aK dG))))),?_]
 refine#[FS,_,FS,?_];rw[cn];rcases h with⟨rfl,hw,q⟩|⟨rfl,hd,q⟩|⟨rfl,hs,q⟩|⟨rfl,q⟩
 ·refine cg ?_
  refine#[#[_,FS],l,FS,#[_,hS],λD hD=>?_];have sm:a9 H (aF H D (.lst [])):=b3 hD;refine vP (K:=K) (a:=l) (xs:=jG u) (λi H'=>a9 H H'/\H' D=EQ (.lst (((u.take i).map one).map V.str))) #[sm,ae] (λi H' _ z=>z.1.seq hS) ?_ ?_
  ·rintro i y H' hi ⟨s1,UT⟩
   obtain⟨c,hc,rfl⟩: ∃c,u[i]?=EQ c/\y=V.int (nb c):=by
    unfold jG at hi;rw[FQ] at hi;cases e:u[i]? with
    |none=>rw[e] at hi;cases hi
    |some c=>rw[e] at hi;exact#[c,FS,(E5 hi).symm]
   refine#[FS,?_];unfold Z6;dsimp only;rw[EL rfl];refine#[_,_,FS,FS,_,_,_,FS,FS,yS,AX (hw c (Gs hc)),_,UT,?_,?_,?_]
   ·have z:=(EA.length_take_le i u)
    rw[EY,EY];refine FP (Ti i u) ?_;exact FP MJ [01]
   ·exact λb o e=>by rw[ac (ai e hD)];exact s1 b o e
   ·rw[ae,Mw,hc]
    show EQ (HO.lst (((u.take i).map one).map V.str++[V.str #[[c.toNat].toArray]]))=EQ (HO.lst (((u.take i++[c]).map one).map V.str))
    rw[GG,GG]
    rfl
  ·rintro H' ⟨s1,UT⟩
   rw[fG,MX] at UT;refine#[_,D,u.map one,FS,FS, .inl (cO.of UT),?_,?_]
   ·have e:((u.map one).map (·.length)).sum=u.length:=by
     rw[Jg];clear hS MJ hw q UT s1 sm
     induction u with
     |nil=>rfl
     |cons c r ih=>rw[Fe,Yr,ih,EZ];show 1+r.length=_;lia
    rw[e];show u.length+(u.map one).length*0<=16777216;lia
   ·rw[zK]
    exact q H' s1
 ·refine bK #[FS,_,FS,?_]
  rw[cn];exact cg #[l,u,FS,hS,hd,q H (a9.refl H)]
 ·refine bK #[FS,_,FS,?_]
  rw[cn];refine bK #[FS,_,FS,?_];rw[cn];refine cg #[l,_,FS, .inl #[hS,λt ht=>?_]];refine#[a.Jy,t,u.map kb,dO,_,FS,kS,FS,by rw[ae,aaq],(by rw[rH,EL hs]),q _ (b3 ht)]
 ·refine bK #[FS,_,FS,?_]
  rw[cn];refine bK #[FS,_,FS,?_];rw[cn];exact bK (q H (a9.refl H))
end
section
open Vbemac (valueOf)
def BK (k v l c:V):EA (Fh×V):=Hs "column" c (Hs "line" l (Hs "value" v (Hs "kind" k [])))
def hZ:F5->Int
 | .word _=>0
 | .num _=>1
 | .sign _=>2
 | .eof=>3
 | .bad=>4
def ie:F5->V
 | .word u=> .str (sb u)
 | .num n=> .int (n:E1)
 | .sign u=> .str (dI u)
 | .eof=> .str (sb [])
 | .bad=> .str (sb [])
inductive fS (C:EJ) (H:Hp) (p:EJ) (x:F5×FT):Prop
 |mk (dx:EJ) (_:H p=EQ (.ins C dx (BK (.int (hZ x.1)) (ie x.1) (.int (x.2.1:E1)) (.int (x.2.2:E1))))):fS C H p x
inductive Xz (C:EJ) (vs:EA V) (H:Hp) (Q:VK) (_E:XK):Prop
 |mk (p dx:EJ) (k v l c:V) (_:vs=[.ref p,k,v,l,c]) (_:H p=EQ (.ins C dx [])) (_: ∀H':Hp,H' p=EQ (.ins C dx (BK k v l c))->(∀b o,H b=EQ o->b≠p->H' b=EQ o)->Q .HZ H'):Xz C vs H Q _E
theorem Cy (c:Io):tZ (.int (nb c)) [.int 9, .int 10, .int 13, .int 32]=Rw c:=nY (p:=λc=>tZ (.int (nb c)) [.int 9, .int 10, .int 13, .int 32]=Rw c) [00] c
inductive AS (K:EF) (C:EJ) (vs:EA V) (H:Hp) (Q:VK) (_E:XK):Prop
 |mk (l:EJ) (bs:EC) (_:vs=[.ref l]) (_:cO K H l (jG bs)) (_:bs.length<=3000) (_: ∀(H':Hp) (q:EJ) (as:EA EJ),a9 H H'->H q=Ss->H' q=EQ (.lst (as.map V.ref))->Paired (fS C H') as (Gq bs)->Q (.ref q) H'):AS K C vs H Q _E
theorem fS.keep {H H':Hp}(h:fS C H p x) (k: ∀b o,H b=EQ o->(∀xs,o≠ .lst xs)->H' b=EQ o):fS C H' p x:=by
 obtain⟨dx,e⟩:=h;exact#[dx,k _ _ e λxs z=>nomatch z]
theorem iK {α β:Type}{F:α->β->Prop} : ∀ {l:EA α}{m:EA β}{x:α}{y:β},Paired F l m->F x y->Paired F (l++[x]) (m++[y])
 |_,_,_,_, .nil,h=> .cons h .nil
 |_,_,_,_, .cons r t,h=> .cons r (iK t h)
def XB (k:Int) (u:EC) (v:V):Prop:=(k=0/\(∀c∈u,bR c=FB)/\v= .str (sb u))\/(k=1/\(∀c∈u,Ha c=FB)/\v= .int (valueOf u:E1))\/(k=2/\u∈F6/\v= .str (dI u))\/(k=4/\v= .str (sb []))
theorem qM (h:JH c=FB):bR c=FB:=by unfold bR;rw[h];rfl
theorem Ai {p:Io->FR} :i<=aW p bs i:=by unfold aW;lia
theorem mQ {p:Io->FR}(h:bs[i]?=EQ c) (hp:p c=FB):i<aW p bs i:=by
 rw[jP h hp];exact Ai
theorem rZ {p:Io->FR} : ∀c∈part bs i (aW p bs i),p c=FB:=by
 rw[<-jV];exact qP _
theorem lE:(part bs i j).length<=bs.length-i:=by
 unfold part;rw[PR,Lg];lia
theorem n6 (h:bs[i]?=EQ c):i<bo bs i/\bo bs i<=bs.length:=by
 obtain⟨hi,_⟩:=FF.mp h;have l1:0<(part bs i (i+2)).length:=by unfold part;rw[Hk,e6 h];exact E1.succ_pos _
 have l2:=lE (bs:=bs) (i:=i) (j:=i+2);unfold bo;split<;>lia
theorem Bm (h:bs[i]?=EQ c) (hb:Rw c=FM) (OR: ¬c=35):i<eX bs i c/\eX bs i c<=bs.length/\ ∃y:F5,i8 bs i (eX bs i c) c=hZ y/\XB (hZ y) (part bs i (eX bs i c)) (ie y)/\
  ∀k q,Oi (k+1) q (bs.drop i)=if hZ y=4 then [(y,q)] else(y,q)::Oi k (q.1,q.2+(eX bs i c-i)) (bs.drop (eX bs i c)):=by
 obtain⟨hi,_⟩:=FF.mp h;unfold eX i8;cases hl:JH c with
 |true=>
  rw[EL rfl,EL rfl];refine#[mQ h (qM hl),mS (J6 hi),?_];by_cases g:aW bR bs i-i<=24
  ·refine#[.word (part bs i (aW bR bs i)),EL g, .inl #[FS,rZ,FS],λk q=>?_]
   rw[jN h hb OR hl,EI (by lia)];exact(EI (by show¬(0:Int)=4;decide)).symm
  ·refine#[.bad,EI g, .inr (.inr (.inr #[FS,FS])),λk q=>?_]
   rw[jN h hb OR hl,EL (by lia)];exact(EL rfl).symm
 |false=>
  rw[EI EE,EI EE];cases hd:Ha c with
  |true=>
   rw[EL rfl,EL rfl];refine#[mQ h hd,mS (J6 hi),?_];by_cases g:18<aW Ha bs i-i\/pI bs (aW Ha bs i)=FB
   ·refine#[.bad,EL g, .inr (.inr (.inr #[FS,FS])),λk q=>?_]
    rw[mn h hb OR hl hd,EL g];exact(EL rfl).symm
   ·refine#[.num (valueOf (part bs i (aW Ha bs i))),EI g, .inr (.inl #[FS,rZ,FS]),λk q=>?_]
    rw[mn h hb OR hl hd,EI g];exact(EI (by show¬(1:Int)=4;decide)).symm
  |false=>
   rw[EI EE,EI EE];refine#[(n6 h).1,(n6 h).2,?_];by_cases g:part bs i (bo bs i)∈F6
   ·refine#[.sign (part bs i (bo bs i)),EL g, .inr (.inr (.inl #[FS,g,FS])),λk q=>?_]
    rw[kg h hb OR hl hd,EL g];exact(EI (by show¬(2:Int)=4;decide)).symm
   ·refine#[.bad,EI g, .inr (.inr (.inr #[FS,FS])),λk q=>?_]
    rw[kg h hb OR hl hd,EI g];exact(EL rfl).symm
theorem XD (h:nb c=nb d):c=d:=P4.mp (UP h)
theorem ro:(as++[x]).map V.ref=as.map V.ref++[V.ref x]:=by rw[GG];rfl
theorem zV {K:EF}{H:Hp}{Q:VK}{E:XK}(ok:XB k u v) (hS:cO K H l (jG u)) (hl:u.length<=3000) (q: ∀H',a9 H H'->Q v H'):As K [.int k, .ref l] H Q E:=by
 refine#[k,l,u,FS,hS,hl,?_];rcases ok with⟨h,g,rfl⟩|⟨h,g,rfl⟩|⟨h,g,rfl⟩|⟨h,rfl⟩
 ·exact .inl #[h,g,q]
 ·exact .inr (.inl #[h,g,q])
 ·exact .inr (.inr (.inl #[h,g,q]))
 ·exact .inr (.inr (.inr #[h,q]))
theorem oW (T:aU K mg a):T.d_D.U P w mg base 1 (Xz a.IA):=by
 refine T.d_D.F.ok akv [03] [02];obtain⟨p,dx,k,v,l,c,rfl,hp,q⟩:=h;refine#[_,(ax (b5 (pv 0) (pv 1) rfl)
   (ax (b5 (pv 0) (pv 2) rfl)
   (ax (b5 (pv 0) (pv 3) rfl)
   (ah (b5 (pv 0) (pv 4) rfl))))),?_]
 have l1:(Hs "kind" k []).length<1000:=FP (cS "kind" k []) [01]
 have l2:(Hs "value" v (Hs "kind" k [])).length<1000:=FP (Fj (cS "value" v _) (G7 (cS "kind" k []))) [01]
 have l3:(Hs "line" l (Hs "value" v (Hs "kind" k []))).length<1000:=FP (Fj (cS "line" l _) (G7 (Fj (cS "value" v _) (G7 (cS "kind" k []))))) [01];refine#[p,_,dx,_,FS,hp,T.HU,T.JF,(by show 0<1000;decide),?_];refine#[p,_,dx,_,FS,ae,T.HU,T.IP,l1,?_];refine#[p,_,dx,_,FS,ae,T.HU,T.Ms,l2,?_];refine#[p,_,dx,_,FS,ae,T.HU,T.Ln,l3,?_];refine q _ ae λb o e hb=>?_
 rw[ac hb,ac hb,ac hb,ac hb];exact e
structure agF (C:EJ) (bs:EC) (q:EJ) (H H':Hp) (i ln ls:E1) (as:EA EJ):Prop where
 sm:a9 H H'
 lst:H' q=EQ (.lst (as.map V.ref))
 agG:i<=bs.length
 agH:ls<=i
 rest: ∃(ts:EG) (k:E1),Paired (fS C H') as ts/\bs.length<i+k/\Gq bs=ts++Oi k (ln,i-ls+1) (bs.drop i)/\as.length<=i
theorem wp {H5 H6:Hp}(hx:H6 x=EQ (.ins C dx (BK (.int (hZ y.1)) (ie y.1) (.int (y.2.1:E1)) (.int (y.2.2:E1)))))
  (k: ∀b o,H5 b=EQ o->H6 b=EQ o) (p:Paired (fS C H5) as ts) (nq:x≠q) (hq:H6 q=EQ (.lst (as.map V.ref))):
  Paired (fS C (aF H6 q (.lst ((as++[x]).map V.ref)))) (as++[x]) (ts++[y]):=by
 refine iK (Paired.M7 p λb z h=>?_) #[dx,by rw[ac nq];exact hx];refine fS.keep h λb' o e no=>?_;have ne:b'≠q:=λz=>by
  have w1:=k _ _ e;rw[z,hq] at w1;exact no _ (E5 w1).symm
 rw[ac ne];exact k _ _ e
theorem akR (T:aU K mg a) (kS:zr P w K a.Jy dO):T.d_i.U P w base 4 (AS K a.IA):=by
 have G_E:=akK (P:=P) (w:=w) (base:=base) T
 have G_H:=akN (P:=P) (w:=w) (base:=base) T kS
 have G_I:=akO (P:=P) (w:=w) (base:=base) T kS
 have G_s:=akQ (P:=P) (w:=w) (base:=base) T kS
 have G_D:=oW (P:=P) (w:=w) (base:=base) T;refine T.d_i.F.ok lQ [03] [02];obtain⟨l,bs,rfl,hS,MJ,hQ⟩:=h;refine#[_,(ax (cH (i:=1) lQ.nd rfl (Gx rfl) (iG ag))
   (ax (cH (i:=2) lQ.nd rfl (Gx rfl) aj)
   (ax (cH (i:=3) lQ.nd rfl (Gx rfl) aj)
   (ax (cH (i:=4) lQ.nd rfl (Gx rfl) aj)
   (ax (iN K9 (a7 jK (pv 4) (bF bM (by rfl) T.JP Hl (aa (pv 0) ag)) (aM _)) (ah (cy (a7 kT (cK bB (pv 0) (pv 4) (λ_ _=>rfl)) (iQ (by rfl) T.Vx) rfl) (ax (kL (i:=4) lQ.nd rfl (Gx rfl) aj lf)
   (ah (cy (a7 b7 (cK bB (pv 0) (ca cZ (pv 4) aj) (λ_ _=>rfl)) (aR (by rfl) T.PD) (aM _)) (ax (kL (i:=2) lQ.nd rfl (Gx rfl) aj lf)
   (ah (cH (i:=3) lQ.nd rfl (Gx rfl) (pv 4)))) br))) (ah (cy (a7 b7 (cK bB (pv 0) (pv 4) (λ_ _=>rfl)) (aR (by rfl) T.Uq) (aM _)) (ah (cH (i:=4) lQ.nd rfl (Gx rfl) (aL G_E (hr.mono [01]) (by rfl) T.d_E.c aY (aa (pv 0) (aa (pv 4) ag))))) (ax (cH (i:=5) lQ.nd rfl (Gx rfl) (aL G_H (hr.mono [01]) (by rfl) T.d_H.c aY (aa (pv 0) (aa (pv 4) ag))))
   (ax (cH (i:=6) lQ.nd rfl (Gx rfl) (aL G_I (hr.mono [01]) (by rfl) T.d_I.c aY (aa (pv 0) (aa (pv 4) (aa (pv 5) ag)))))
   (ax (bi (wj Iw J4 J5 iR (pv 1) (aa (gX T.RO G_D (hr.mono [01]) (by rfl) T.RL T.d_D.c.b .nil aY (aa (pv 6) (aa (aL G_s (hr.mono [01]) (by rfl) T.d_s.c aY (aa (pv 6) (aa (og qv (pv 0) (i6 (pv 4)) (i6 (pv 5))) ag))) (aa (pv 2) (aa (ca dU (ca cZ (pv 4) (pv 3)) aj) ag))))) ag)))
   (ax (cy (a7 b7 (pv 6) (aR (by rfl) T.OJ) (aM _)) (ah (aK (pv 1))) br)
   (ah (cH (i:=4) lQ.nd rfl (Gx rfl) (pv 5))))))))))))
   (ax (bi (wj Iw J4 J5 iR (pv 1) (aa (gX T.RO G_D (hr.mono [01]) (by rfl) T.RL T.d_D.c.b .nil aY (aa (aR (by rfl) T.Xd) (aa dG (aa (pv 2) (aa (ca dU (ca cZ (pv 4) (pv 3)) aj) ag))))) ag)))
   (ah (aK (pv 1))))))))),?_]
 refine#[Fs _,λq hq=>#[λm σ H'=> ∃(i ln ls:E1) (as:EA EJ) (v5 v6:ET V),m=bs.length-i/\σ=[EQ (.ref l),EQ (.ref q),EQ (.int ln),EQ (.int ls),EQ (.int i),v5,v6]/\agF a.IA bs q H H' i ln ls as,#[_,0,1,0,[],Fa,Fa,FS,FS,#[b3 hq,ae,Fs _,E6 _,[],bs.length+1, .nil,by lia,FS,E6 _]],?_]];rintro m σ H1 ⟨i,ln,ls,as,v5,v6,rfl,rfl,M⟩;have XE:=M.sm.seq hS;obtain⟨ts,k,pr,hk,tk,asl⟩:=M.rest;have ile:=M.agG;have akS:=M.agH;obtain⟨k,rfl⟩: ∃k',k=k'+1:=#[k-1,by lia];have ec:(i:Int)-(ls:Int)+1=((i-ls+1:E1):Int):=by lia
 refine#[_,_,FS, .inl XE,_,_,FS,FS,_,FS,?_];rw[fG];refine aP (λe=>?_) λe=>?_
 ·have lt:i<bs.length:=by have:=Ft e;lia
  obtain⟨c,hc⟩: ∃c,bs[i]?=EQ c:=#[_,GU lt];refine#[λσ' Ry=> ∃(i' ln' ls':E1) (as':EA EJ) (v5' v6':ET V),i<i'/\σ'=[EQ (.ref l),EQ (.ref q),EQ (.int ln'),EQ (.int ls'),EQ (.int i'),v5',v6']/\agF a.IA bs q H Ry i' ln' ls' as',?_,?_]
  ·rintro σ' Ry ⟨i',ln',ls',as',v5',v6',lt',rfl,M'⟩
   have:=M'.agG;exact#[_,by lia,i',ln',ls',as',v5',v6',FS,FS,M']
  refine#[_,_,_,_,FS,FS,XE,bj (fB hc),_,_,FS, .inr T.Vy.sq,FS,FS,_,FS,?_];show if tZ (.int (nb c)) [.int 9, .int 10, .int 13, .int 32]=FB then _ else _
  rw[Cy];refine aP (λhb=>?_) λhb=>?_
  ·refine#[_,FS,_,_,FS,FS,?_]
   refine#[_,_,FS,FS,_,_,_,V.int (nb c),FS,FS,XE,(by rw[Int.add_sub_cancel];exact bj (fB hc)),FS,_,FS,?_];rw[cn];have lx:=lq (k:=k) (q:=(ln,i-ls+1)) hc hb;refine aP (λh10=>?_) λh10=>?_
   ·have c10:c=10:=XD (Ft h10)
    refine#[_,FS,_,_,FS,FS,i+1,ln+1,i+1,as,v5,v6,G6 i,FS,#[M.sm,M.lst,lt,E6 _,ts,k,pr,by lia,?_,by lia]];rw[tk,lx,c10,PK]
    rfl
   ·have c10: ¬c=10:=λz=>E7 (by rw[z];rfl) (Fw h10)
    refine#[i+1,ln,ls,as,v5,v6,G6 i,FS,#[M.sm,M.lst,lt,ML akS,ts,k,pr,by lia,?_,by lia]];rw[tk,lx,show i+1-ls+1=i-ls+1+1 by lia];unfold Vbemac.advance;rw[EI c10]
  ·refine#[_,_,_,_,FS,FS,XE,bj (fB hc),FS,_,FS,?_]
   rw[cn];refine aP (λOR=>?_) λOR=>?_
   ·have c35:c=35:=XD (Ft OR)
    have g:i<aW eP bs i:=mQ hc (by rw[c35];rfl)
    have g2:aW eP bs i<=bs.length:=mS ile;refine#[l,bs,i,FS,XE,ile,aW eP bs i,ln,ls,as,v5,v6,g,FS,#[M.sm,M.lst,g2,by lia,ts,k,pr,by lia,?_,by lia]];rw[tk,iI hc hb c35]
    show ts++Oi k (ln,i-ls+1+(aW eP bs i-i)) _=_
    rw[show i-ls+1+(aW eP bs i-i)=aW eP bs i-ls+1 by lia]
   ·have c35: ¬c=35:=λz=>E7 (by rw[z];rfl) (Fw OR)
    obtain⟨g,g2,y,ky,vy,lx⟩:=Bm hc hb c35;have lx:=lx k (ln,i-ls+1);refine#[l,bs,i,c,FS,XE,hc,λH2 s2=>?_];refine#[l,bs,i,eX bs i c,c,FS,s2.seq XE,hc,J6 g,g2,λH3 s3=>?_];rw[ky];generalize eX bs i c=en at g g2 vy lx ky ⊢;have s13:a9 H1 H3:=s2.trans s3;have hS3:=s13.seq XE;refine#[.inl #[FS,_,cO.of (s13 _ _ M.lst)],?_];refine#[_,FS,_,FS,_,_,FS,hS3,λp hp=>?_];rw[oi];refine zV vy (cO.of ae) ?_ λH4 s4=>?_
    ·have:=lE (bs:=bs) (i:=i) (j:=en)
     lia
    have s14:a9 H1 H4:=s13.trans ((b3 hp).trans s4);refine#[_,_,FS,FS,_,_,FS,FS,λx dx hx Ur ne=>#[x,dx,_,_,_,_,FS,ae,λH5 h5 k5=>#[FS,?_]]]
    have h5:H5 x=EQ (.ins a.IA dx (BK (.int (hZ y)) (ie y) (.int (ln:E1)) (.int ((i-ls+1:E1):Int)))):=by rw[<-ec];exact h5
    have s15:a9 H1 H5:=λb o e=>k5 b o (by rw[ac (ai (s14 b o e) hx),ac (ai (s14 b o e) Ur)];exact s14 b o e) (ai (s14 b o e) hx)
    have nq:x≠q:=(ai (s14 _ _ M.lst) hx).symm
    have q5:=s15 _ _ M.lst
    have pn:=wp (y:=(y,ln,i-ls+1)) h5 s15 pr nq q5
    have sm5:a9 H (aF H5 q (.lst ((as++[x]).map V.ref))):=λb o e=>by rw[ac (ai e hq)];exact s15 b o (M.sm b o e)
    refine#[q,_,_,FS,FS,q5,by rw[EY];exact FP (Fj asl (Fj ile MJ)) [01],?_];rw[<-ro];refine#[FS,_,FS,?_];rw[cn];refine aP (λk4=>?_) λk4=>?_
    ·rw[EL (Ft k4)] at lx
     refine(hQ _ q (as++[x]) sm5 hq ae ?_);rw[tk,lx];exact pn
    ·rw[EI (Fw k4)] at lx
     refine#[en,ln,ls,as++[x],_,_,g,FS,#[sm5,ae,g2,by lia,ts++[(y,ln,i-ls+1)],k,pn,by lia,?_,by rw[Fc,IT];lia]];rw[tk,lx,F4];show ts++(y,ln,i-ls+1)::Oi k (ln,i-ls+1+(en-i)) _=_;rw[show i-ls+1+(en-i)=en-ls+1 by lia]
     rfl
 ·have lx:=Dm (k:=k) (q:=(ln,i-ls+1)) (bs:=bs) (i:=i) (by have:=Fw e;lia)
  refine#[.inl #[FS,_,cO.of M.lst],?_];refine#[_,_,FS,FS,_,_,FS,FS,λx dx hx Ur ne=>#[x,dx,_,_,_,_,FS,ae,λH5 h5 k5=>#[FS,?_]]];have h5:H5 x=EQ (.ins a.IA dx (BK (.int (hZ .eof)) (ie .eof) (.int (ln:E1)) (.int ((i-ls+1:E1):Int)))):=by rw[<-ec];exact h5
  have s15:a9 H1 H5:=λb o e=>k5 b o (by rw[ac (ai e hx),ac (ai e Ur)];exact e) (ai e hx)
  have nq:x≠q:=(ai M.lst hx).symm
  have q5:=s15 _ _ M.lst
  have pn:=wp (y:=(.eof,ln,i-ls+1)) h5 s15 pr nq q5
  have sm5:a9 H (aF H5 q (.lst ((as++[x]).map V.ref))):=λb o e=>by rw[ac (ai e hq)];exact s15 b o (M.sm b o e)
  refine#[q,_,_,FS,FS,q5,by rw[EY];exact FP (Fj asl (Fj ile MJ)) [01],?_];rw[<-ro];refine(hQ _ q (as++[x]) sm5 hq ae ?_);rw[tk,lx];exact pn
end
theorem Du (K:EF):UL K (.type "Exception") (.type "type") "__init__"=EQ (.val (.builtin "Exception.__init__")):=by kernel_rfl
theorem aar:typeOf (.type "Exception")=pure (.type "type"):=by kernel_rfl
theorem CF:Manifest.isStub "Exception"=FM:=by decide+kernel
theorem Bv:Kr "Exception"=EQ (.type "Exception"):=by decide+kernel
theorem aas {H:Hp}{a:EJ}(h:H a=EQ o):aF H a o=H:=by
 funext b
 by_cases e:b=a
 ·rw[e,ae,h]
 ·exact ac e
def AB (C:EJ) (i:E1):TS:=λD σ H=> ∃p,σ[i]?=EQ (EQ (.ref p))/\H p=EQ (re C p)/\D.nx σ H
theorem uB (XC:dA X.K R C fI) (hg:Gl X "Exception") (hm:X.mg "Exception"=Fa) (hx:PE X (.Name x p2) (lj i))
  (JS:Fb [.Name x p2] X.env=[(FM,eval (.Name x p2) X.env)]:=by rfl) (hs:K7 (.Call (.Attribute (.Name "Exception" p1) "__init__" Kx) [.Name x p2] [] K5) Fa pos.line X.env=pure FM:=by rfl)
  {pl:Sem FR}(ht:eval (.Call (.Attribute (.Name "Exception" p1) "__init__" Kx) [.Name x p2] [] K5) X.env=(do
   let ov<-eval (.Name "Exception" p1) X.env
   standAt Kx.atName
   let (f,first)<-holding [ov] (Ku ov "__init__" pl)
   MR K5 f first (Ie K5 (Fb [.Name x p2] X.env)) (Kj K5 (IE [] X.env))):=by rfl):
  PS X (.Expr (.Call (.Attribute (.Name "Exception" p1) "__init__" Kx) [.Name x p2] [] K5) pos) (AB C i):=by
 intro pins s σ H D I h;obtain⟨p,hp,hH,hD⟩:=h;refine wpAny_Expr_any ?_ I.quiet hs;refine KN (pl:=pl) (kX I hg hm Bv ?_) ht;obtain⟨m,Fr⟩:=I.fr;refine PySem.W.method_type Fr I.mod.UQ aar CF (Du X.K) rfl ?_;have I0:aE X pins σ H { s with toks:=s.toks+1 } :=I.tok _;refine NM (e:= .Name x p2) (rest:=[]) ?_ (by rw[JS];rfl) rfl;rw[JS];refine Ks (b9 (hx pins _ σ H (λv H'=>v= .ref p/\H'=H) I0 (oA #[FS,FS] hp)) λu s1 z=>?_);obtain⟨v,H',I1,rv,e1,e2⟩:=z;subst e1 e2;cases rv;refine KL ?_;obtain⟨h1,g1,d1,t1,VE⟩:=s1;obtain⟨⟨T,hT⟩,_⟩:=I1.HH _ _ hH;obtain⟨Nn,mN,oI,NR,mR,⟨nm,q,bs,sn,sub,ab,col,dd,k0,k1,k2,k3,k5,hC⟩,_⟩:=XC.at_ h1 I1.MI;refine P2 (yo Qn afd hC hT ?_);have gx:((h1.push (eM [])).update p (HD (·.setIfInBounds 0 (.ref h1.objs.size)))).get? p=EQ (df C h1.objs.size):=
  IU _ (E2 _ hT) rfl
 have J:aE X pins σ (aF H' p (re C p)) ⟨(h1.push (eM [])).update p (HD (·.setIfInBounds 0 (.ref h1.objs.size))),g1,d1,t1,VE⟩:=
  I1.write (x:=p) (e:=p) (t':=t1) (by rw[hH];exact GH) (.inl rfl) (λb u hb z=>by rw[GA _ _ (HS hb)];exact E2 _ z) #[_,gx]
   #[#[_,gx],#[_,gx],λ_ _ ⟨T,z⟩ y=>#[T,y _ z]]
 rw[aas hH] at J;exact#[σ,H',J,hD]
section
variable {CX:pS}{sp:Sp}{E:XK}
theorem fg (hg:Gl X x) (hm:X.mg x=EQ (.ref R)) (c:BJ X.K R m f) (F:bS X.prog X.w X.K X.mg X.base CX k f fd ps sp) (hr:bW k X.A) (hb:gk X.K fd ps ds) (hd:aX QL ds) (hx:dg CX X E) (ha:PA X (e::es) t)
  (Rl:(x == ("__debug__":Fh))=FM:=by decide) (JS:Fb (e::es) X.env=(FM,eval e X.env)::Fb es X.env:=by rfl) (Ma:(Ie pos (Fb es X.env)).any (·.1)=FM:=by rfl)
  (ht:eval (.Call (.Attribute (.Name x p1) m Kx) (e::es) [] pos) X.env=(do
   let ov<-eval (.Name x p1) X.env
   standAt Kx.atName
   let (f,first)<-holding [ov] (Ku ov m pl)
   MR pos f first (Ie pos (Fb (e::es) X.env)) (Kj pos (IE [] X.env))):=by rfl):
  PE X (.Call (.Attribute (.Name x p1) m Kx) (e::es) [] pos) (Al sp QL E t):=by
 intro pins s σ H Q I h;refine KN (pl:=pl) (gi I hg hm ?_ Rl) ht;obtain⟨mm,Fr⟩:=I.fr;refine PySem.W.method_of_cls Fr I.mod.UQ c.sp (PySem.W.cls_val Fr I.mod.UQ c.ty c.rd c.fc rfl ?_);have I0:aE X pins σ H { s with toks:=s.toks+1 } :=I.tok _;refine Ki (first:=[]) (h₀:=X.base) I.ok.mod.UQ c.kp (b9 (ha pos pins _ σ H _ I0 h) λus s1 ⟨vs,H1,I1,r,q⟩=>#[I1.MI,?_]) JS Ma
 exact qD F hr hb hd hx I1 r q
end
theorem iY:("__setattr__":Fh)∈cV:=by decide+kernel
theorem o8:("__getattribute__":Fh)∈cV:=by decide+kernel
theorem mT:("__getattr__":Fh)∈cV:=by decide+kernel
theorem XAt.la {R C fI:EJ}{B:String}{y:ET EH}(X:XAt h R C fI) (m:mroOf (.type B)=pure cW) (q:n∈cV) (l:Hg (.type B) n=pure y):LA h (.ref R::cW) n y:=by
 obtain⟨_,_,_,_,_,_,_,_,_,_,_,⟨_,_,_,_,_,_,_,_,_,_,_,_,_,hR⟩,nR,qR⟩:=X;exact LA.own hR nR (qR n q) (LA.of m l)
section
variable {X:Cx}{pins:EA (EJ×Ih)}{σ:St}{H:Hp}{s:EM}{R C fI p d:EJ}{f:Fh}{y:V}{u:EH}{A:Gk}{E:EH->EM->Prop}{Q:Mo->EM->Prop}{fs:EA (Fh×V)}{sa owner B:String}
theorem lg {mA:Fh->ET EH}(n:h.Ns1 d mA) (r: ∀g,fR (fs.lookup g) (mA g)) (wi:M5 mA (fs.map (·.1))):cw X.prog X.w H h d (cj d fs):=by
 obtain⟨o,es,ep,e,z⟩:=id n;exact#[#[mA,n,r,wi],#[o,e],λh1 h2 ⟨m,n1,q1⟩ k=>#[m,n1.at k,q1]]
theorem Cb (XC:dA X.K R C fI) (SF:LP B cW sa owner) (hf:f∈cV) (hB:Hg (.type B) f=pure Fa) (I:aE X pins σ H s) (e:H p=EQ (re C p)) (ry:bh y u)
  (h: ∀d s',H d=Fa->aE X pins σ (aF (aF H d (cj d [(f,y)])) p (jT C d p)) s'->Q () s'):Fl (model X.prog X.w) A (Sh (.ref p) f u) Q E s:=by
 have XA:=XC.at_ _ I.MI;obtain⟨⟨T,hT⟩,_⟩:=I.HH _ _ e;obtain⟨h1,g1,d1,t1,VE⟩:=s;obtain⟨Nn,mN,oI,NR,mR,⟨nm,q,bs,sn,sub,ab,col,dd,k0,k1,k2,k3,k5,hC⟩,UR,WK,V2,_⟩:=id XA;refine vM SF hC UR (V2 _ iY) (XA.la SF.mro iY SF.slot.lookup) hT rfl λtk t=>AF SF hC UR (V2 _ hf) (XA.la SF.mro hf hB) hT rfl rfl rfl λh' Ta k kx kn=>#[FS,?_]
 have fr:H h1.objs.size=Fa:=I.HH.fresh (E6 _)
 have np:h1.objs.size≠p:=λz=>by rw[z,e] at fr;cases fr
 refine h h1.objs.size _ fr ?_;have gd:(h1.push { cls:= .type "dict",data:= .dict [].toArray }).get? h1.objs.size=EQ { cls:= .type "dict",data:= .dict [].toArray } :=Gy _ rfl;have n0:(h1.push { cls:= .type "dict",data:= .dict [].toArray }).Ns h1.objs.size (λ_=>Fa):=#[_, [].toArray,_,gd,FS,(λe he=>E7 he (by simp)),λ_=>rfl]
 have I1:aE X pins σ (aF H h1.objs.size (cj h1.objs.size [])) ⟨h1.push { cls:= .type "dict",data:= .dict [].toArray },g1,d1,Ta,VE⟩:=
  I.laid (t':=Ta) (λb u z=>E2 _ z) (E6 _) (lg (Og n0) (λ_=>GH) λg hg=>E7 rfl hg)
 have VF:(h1.push { cls:= .type "dict",data:= .dict [].toArray }).get? p=EQ (df C T):=E2 _ hT
 have gp:((h1.push { cls:= .type "dict",data:= .dict [].toArray }).update p λo=> { o with dict:=EQ h1.objs.size }).get? p=EQ { df C T with dict:=EQ h1.objs.size } :=IU _ VF rfl
 have I2:aE X pins σ (aF (aF H h1.objs.size (cj h1.objs.size [])) p (jT C h1.objs.size p)) ⟨(h1.push { cls:= .type "dict",data:= .dict [].toArray }).update p λo=> { o with dict:=EQ h1.objs.size },g1,d1,Ta,VE⟩:=
  I1.write (x:=p) (e:=p) (t':=Ta) (by rw[ac np.symm,e];exact GH) (.inl rfl) (λb u hb z=>by rw[GA _ _ (HS hb)];exact z) #[_,gp]
   #[#[_,_,gp,FS,FS,FS,FS],#[_,gp],λ_ _ ⟨o,vs,z,r⟩ k=>#[o,vs,k _ z,r]]
 obtain⟨od,_,_,hod,_⟩:=id kn;have I3:aE X pins σ (aF (aF (aF H h1.objs.size (cj h1.objs.size [])) p (jT C h1.objs.size p)) h1.objs.size (cj h1.objs.size [(f,y)])) ⟨h',g1,d1,Ta,VE⟩:=by
  refine I2.write (x:=h1.objs.size) (e:=h1.objs.size) (t':=Ta) (by rw[ac np,ae];exact GH) (.inl rfl) (λb v hb z=>?_) #[_,hod] (lg kn (λg=>?_) λg hg=>?_)
  ·by_cases bp:b=p
   ·rw[bp] at z ⊢
    rw[gp] at z;rw[kx,<-z]
   ·rw[GA _ _ (HS bp)] at z
    refine k b v bp ?_;rcases Gn.get?_push_cases z with⟨z1,_⟩|z1
    ·exact E7 z1 hb
    ·exact z1
  ·show fR (IM g [(f,y)]) (if g=f then EQ u else Fa)
   by_cases gf:g=f
   ·rw[gf,EL rfl]
    simp only[IM,Gr];exact ry
   ·rw[EI gf,IM,show(g == f)=FM from beq_eq_false_iff_ne.mpr gf]
    exact GH
  ·by_cases gf:g=f
   ·rw[gf];exact EO
   ·exact E7 (EI gf) hg
 have eH:aF (aF (aF H h1.objs.size (cj h1.objs.size [])) p (jT C h1.objs.size p)) h1.objs.size (cj h1.objs.size [(f,y)])=aF (aF H h1.objs.size (cj h1.objs.size [(f,y)])) p (jT C h1.objs.size p):=by
  funext b
  by_cases b1:b=h1.objs.size
  ·rw[b1,ae,ac np,ae]
  ·by_cases b2:b=p
   ·rw[b2,ac np.symm,ae,ae]
   ·rw[ac b1,ac b2,ac b1,ac b2,ac b1]
 rw[eH] at I3;exact I3
theorem Cn (XC:dA X.K R C fI) (SF:LP B cW sa owner) (hf:f∈cV) (hB:Hg (.type B) f=pure Fa) (I:aE X pins σ H s) (e:H p=EQ (jT C d p)) (ed:H d=EQ (cj d fs)) (hl:fs.length<1000) (ry:bh y u)
  (h: ∀s',aE X pins σ (aF H d (cj d (Hs f y fs))) s'->Q () s'):Fl (model X.prog X.w) A (Sh (.ref p) f u) Q E s:=by
 have XA:=XC.at_ _ I.MI;obtain⟨⟨o,vs,x1,x2,x3,x4,x5⟩,_⟩:=I.HH _ _ e;obtain⟨⟨mA,n,r,wi⟩,_⟩:=I.HH _ _ ed;obtain⟨h1,g1,d1,t1,VE⟩:=s;obtain⟨Nn,mN,oI,NR,mR,⟨nm,q,bs,sn,sub,ab,col,dd,k0,k1,k2,k3,k5,hC⟩,UR,WK,V2,_⟩:=id XA
 have dp:d≠p:=λz=>by
  obtain⟨o',es,ep,z1,z2,_⟩:=n;rw[z,x1] at z1;have y:=E5 z1;rw[<-y,x4] at z2;cases z2
 have hz:(fs.map (·.1)).length<=1000:=by rw[EY];lia
 refine vM SF hC UR (V2 _ iY) (XA.la SF.mro iY SF.slot.lookup) x1 x2 λtk t=>AZ SF hC UR (V2 _ hf) (XA.la SF.mro hf hB) x1 x2 x3 n wi hz λh' Ta k kn=>#[FS,?_];obtain⟨od,_,_,hod,_⟩:=id kn;refine h _ (I.write (x:=d) (e:=d) (t':=Ta) (by rw[ed];exact GH) (.inl rfl) k #[_,hod] (lg kn (λg=>?_) λg hg=>?_))
 ·rw[ii]
  by_cases gf:g=f
  ·rw[EL gf,EL gf];exact ry
  ·rw[EI gf,EI gf];exact r g
 ·by_cases gf:g=f
  ·rw[gf];exact(gJ f y fs).1
  ·refine(gJ f y fs).2 g (wi g λz=>hg ?_)
   show(if g=f then EQ u else mA g)=Fa
   rw[EI gf];exact z
theorem Es {Q:EH->EM->Prop}{φ:Gn->Prop}(XC:dA X.K R C fI) (hf:f∈cV) (hB:Hg (.type "Exception") f=pure Fa) (I:aE X pins σ H s)
  (e: ∃o vs,s.heap.get? p=EQ o/\o.cls= .ref C/\o.dict=EQ d/\o.data= .fields vs) (ed:H d=EQ (cj d fs)) (l:fs.lookup f=EQ v)
  (h: ∀u s',aE X pins σ H s'->bh v u->Q u s'):Fl (model X.prog X.w) A (Sg (.ref p) f b) Q E s:=by
 have XA:=XC.at_ _ I.MI;obtain⟨o,vs,x1,x2,x3,x4⟩:=e;obtain⟨⟨mA,n,r,wi⟩,_⟩:=I.HH _ _ ed;obtain⟨h1,g1,d1,t1,VE⟩:=s;obtain⟨Nn,mN,oI,NR,mR,⟨nm,q,bs,sn,sub,ab,col,dd,k0,k1,k2,k3,k5,hC⟩,UR,WK,V2,_⟩:=id XA
 have dp:d≠p:=λz=>by
  obtain⟨o',es,ep,z1,z2,_⟩:=n;rw[z,x1] at z1;have y:=E5 z1;rw[<-y,x4] at z2;cases z2
 have nc: ∀c,o.data≠ .cls c:=λc z=>by rw[x4] at z;cases z
 have I0:h1.Inst p C mA:=#[o,x1,x2,nc, .inr #[d,x3,dp,n]];obtain⟨u,hu,ru⟩:=fR.some_of (v:=v) (o:=mA f) (by rw[<-l];exact r f);exact DG BN (XA.la HG.mro o8 afa) (XA.la HG.mro mT afb) (hC) UR (V2 _ o8) (V2 _ mT) (V2 _ hf) (XA.la HG.mro hf hB) I0 hu (PySem.W.handedOut_of (pk ru)) (h u _ (I.tok _) ru)
end
section
variable {ta tv:TE}
def sX0 (C:EJ) (ta tv:TE) (f:Fh):TS:=λD σ H=>tv σ H λy H1=>ta σ H1 λx H2=> ∃p,x= .ref p/\H2 p=EQ (re C p)/\ ∀d,H2 d=Fa->D.nx σ (aF (aF H2 d (cj d [(f,y)])) p (jT C d p))
def sX1 (C:EJ) (ta tv:TE) (f:Fh):TS:=λD σ H=>tv σ H λy H1=>ta σ H1 λx H2=> ∃p d fs,x= .ref p/\H2 p=EQ (jT C d p)/\H2 d=EQ (cj d fs)/\fs.length<1000/\D.nx σ (aF H2 d (cj d (Hs f y fs)))
theorem agI (XC:dA X.K R C fI) (SF:LP "Exception" cW sa owner) (hf:f∈cV) (hB:Hg (.type "Exception") f=pure Fa) (ha:PE X o ta) (hv:PE X JM tv)
  (hs:K7 JM (EQ (.Attribute o f MK)) pos.line X.env=pure FM):PS X (.Assign [.Attribute o f MK] JM pos) (sX0 C ta tv f):=by
 intro pins s σ H D I h;refine LH (b9 (hv pins s σ H _ I h) λu s1 ⟨y,H1,I1,ry,q⟩=>b9 (ha pins s1 σ H1 _ I1 q) λov s2 ⟨x,H2,I2,rx,p,ex,ea,q2⟩=>?_) hs;subst ex;obtain rfl:ov=Fq p:=rx;exact Cb XC SF hf hB I2 ea ry λd s3 hd I3=>#[σ,_,I3,q2 d hd]
theorem AN (XC:dA X.K R C fI) (SF:LP "Exception" cW sa owner) (hf:f∈cV) (hB:Hg (.type "Exception") f=pure Fa) (ha:PE X o ta) (hv:PE X JM tv)
  (hs:K7 JM (EQ (.Attribute o f MK)) pos.line X.env=pure FM):PS X (.Assign [.Attribute o f MK] JM pos) (sX1 C ta tv f):=by
 intro pins s σ H D I h;refine LH (b9 (hv pins s σ H _ I h) λu s1 ⟨y,H1,I1,ry,q⟩=>b9 (ha pins s1 σ H1 _ I1 q) λov s2 ⟨x,H2,I2,rx,p,d,fs,ex,ea,ed,l,q2⟩=>?_) hs;subst ex;obtain rfl:ov=Fq p:=rx;exact Cn XC SF hf hB I2 ea ed l ry λs3 I3=>#[σ,_,I3,q2]
end
abbrev zn (X:Cx) (pins:EA (EJ×Ih)) (Ew:EH->EM->Prop):Cx:= { X with pn:=X.pn++pins,xe:=Ew }
abbrev CY (X:Cx) (a:EJ):Cx:= { X with A:=X.A.mark (EQ (.ref a)),calm:=FM,xe:=λ_ _=>False }
section
variable {H:Hp}{Ew:EH->EM->Prop}{a:EJ}
theorem Cg (I:aE X pins σ H s):aE (zn X pins Ew) [] σ H s:=
 #[#[I.ok.mod,I.ok.kind,I.ok.glob,I.ok.blt,I.ok.above,I.ok.inj,I.ok.has,I.ok.Xg,I.ok.hd,I.ok.frames,I.ok.Xh,I.ok.ZH,I.ok.bs,I.ok.Ue,I.ok.RV,I.ok.RW,I.ok.funs,I.ok.VU],I.os,I.bare,I.base,I.loc,I.cell,I.free,I.LG,
  λp hp=>I.pin p (by rw[Gw] at hp;exact hp),I.HH,I.len]
theorem eV (I:aE (zn X pins Ew) TK σ H s):aE X pins σ H s:=
 #[#[I.ok.mod,I.ok.kind,I.ok.glob,I.ok.blt,I.ok.above,I.ok.inj,I.ok.has,I.ok.Xg,I.ok.hd,I.ok.frames,I.ok.Xh,I.ok.ZH,I.ok.bs,I.ok.Ue,I.ok.RV,I.ok.RW,I.ok.funs,I.ok.VU],I.os,I.bare,I.base,I.loc,I.cell,I.free,I.LG,
  λp hp=>I.pin p (Lu _ hp),I.HH,I.len]
theorem we (I:aE X pins σ H s):aE (CY X a) pins σ H s:=
 #[#[I.ok.mod,I.ok.kind,I.ok.glob,I.ok.blt,I.ok.above,I.ok.inj,I.ok.has,I.ok.Xg,λz=>GP z,I.ok.frames,I.ok.Xh,I.ok.ZH,I.ok.bs,I.ok.Ue,I.ok.RV,I.ok.RW,I.ok.funs,I.ok.VU],I.os,I.bare,I.base,I.loc,I.cell,I.free,I.LG,
  I.pin,I.HH,I.len]
theorem zj (ok:X.Ok) (I:aE (CY X a) pins σ H s):aE X pins σ H s:=#[ok,I.os,I.bare,I.base,I.loc,I.cell,I.free,I.LG,I.pin,I.HH,I.len]
theorem jU (h:SP (zn X pins Ew) TK D f s'):SP X pins D f s':=by
 cases f with
 |next=>obtain⟨σ',H',I,q⟩:=h;exact#[σ',H',eV I,q]
 |brk=>obtain⟨σ',H',I,q⟩:=h;exact#[σ',H',eV I,q]
 |cont=>obtain⟨σ',H',I,q⟩:=h;exact#[σ',H',eV I,q]
 |ret u=>obtain⟨v,σ',H',I,r,q⟩:=h;exact#[v,σ',H',eV I,r,q]
theorem xU (I:aE X pins σ H s) (hn:H a=Fa) (z:X.OZ.heap.objs.size<=a) (nl:a≠X.env.locals) (nc: ∀x c,X.env.cells.lookup x=EQ c->c≠a) (np: ∀p∈X.pn++pins,p.1≠a)
  (new:cw X.prog X.w (aF H a o) s.heap a o):aE X pins σ (aF H a o) s:=by
 have ne: ∀b u,H b=EQ u->b≠a:=λb u e y=>by rw[y,hn] at e;cases e
 refine I.step (h':=s.heap) (g':=s.gens) (t':=s.toks) (d':=s.drawn) (ch:=[a]) (λb hb=>?_) (λb o _ _ _ e _=>e) (λb o _ _ _ e _=>#[o.slots,e]) (λb o hb e y=>?_) (λb o _ e=>#[o,e]) (λb xs e=>?_) (λb o u e=>?_) (λb ps e=>#[[].toArray,?_]) (λm y=>y) (λb u e=>?_) I.bare
 ·rw[Fd.mp hb];exact#[.inr z,nl,nc,np]
 ·rw[ac (λy=>hb (by rw[y];exact EO))];exact y
 ·rw[ac (ne b _ e)];exact e
 ·rw[ac (ne b _ e)];exact e
 ·rw[ac (ne b _ e),e];simp
 ·by_cases hb:b=a
  ·rw[hb,ae] at e
   rw[hb,<-E5 e];exact new
  ·rw[ac hb] at e
   exact(I.HH b u e).Rj (λc v _ q=>q) (λc q=>by rw[ac (ne c _ q)];exact q) λc xs q=>by rw[ac (ne c _ q)];exact q
theorem zB {m:Fh->ET EH}(I:aE X pins σ H s) (hn:h'.Ns X.env.locals m) (hs:LZ X.env.locals s.heap h'):aE X pins (Iz X.N.length Fa) H { s with heap:=h',toks:=t } :=by
 have W:aE X pins (Iz X.N.length Fa) H s:=I.weak (by rw[Ny];exact I.len.symm) λi v e=>by
  rw[Kz] at e;split at e<;>cases e
 have nL: ∀b u,H b=EQ u->b≠X.env.locals:=λb u e y=>by rw[y,I.free] at e;cases e
 obtain⟨ol,_,_,hol,_⟩:=id hn;refine#[W.ok,W.os,W.bare,#[λb o e n hb hx=>?_,λb o e n hb hx=>?_,W.base.free,λb o e hx=>?_,W.base.Qw,W.base.P6,W.base.Qx],#[m,hn,λi x v _ e _=>?_],λx c e=>?_,W.free,W.LG,λp hp=>?_,λb u e=>?_,W.len]
 ·exact(hs.2 b (Gu (Fv (Fn e) I.ok.above))).trans (W.base.keep b o e n hb hx)
 ·obtain⟨sl,y⟩:=W.base.slot b o e n hb hx
  exact#[sl,(hs.2 b (Gu (Fv (Fn e) I.ok.above))).trans y]
 ·obtain⟨o',y⟩:=W.base.there b o e hx
  exact#[o',(hs.2 b (Gu (Fv (Fn e) I.ok.above))).trans y]
 ·rw[Kz] at e
  split at e<;>cases e
 ·obtain⟨v,o,y,yd⟩:=I.cell x c e
  exact#[v,o,(hs.2 c (I.Xi x c e)).trans y,yd]
 ·obtain⟨e1,e2,e3,e4⟩:=I.pin p hp
  exact#[(hs.2 p.1 e3).trans e1,e2,e3,e4]
 ·refine(I.HH b u e).Rj (λc v hc q=>(hs.2 c ?_).trans q) [05] λ_ _ q=>q
  rcases hc with y|y
  ·rw[y];exact nL b u e
  ·exact nL c _ y
end
structure Own (X:Cx) (pins:EA (EJ×Ih)) (b:EJ):Prop where
 z:X.OZ.heap.objs.size<=b
 nl:b≠X.env.locals
 nc: ∀x c,X.env.cells.lookup x=EQ c->c≠b
 np: ∀p∈X.pn++pins,p.1≠b
theorem ve {X:Cx}{pins:EA (EJ×Ih)}{σ:St}{H:Hp}{s:EM}(I:aE X pins σ H s) (hb:s.heap.objs.size<=b):Own X pins b:=by
 refine#[Fj I.sz hb,KU (Fv I.lt hb),λx c e z=>?_,λp hp z=>?_]
 ·obtain⟨v,q⟩:=I.cell x c e
  exact E7 (Fv q.lt (by rw[z];exact hb)) (Hq _)
 ·exact E7 (Fv (Fn (I.pin p hp).1) (by rw[z];exact hb)) (Hq _)
def kC (C d a:EJ):HO:= .ext λh=> ∃o vs,h.get? a=EQ o/\o.cls= .ref C/\o.dict=EQ d/\o.data= .fields vs
structure DZ (X:Cx) (pins:EA (EJ×Ih)) (H:Hp) (h:Gn) (C d a:EJ):Prop where
 own:Own X pins a
 no:H a=Fa
 ex: ∃oe vs T oT ts,h.get? a=EQ oe/\oe.cls= .ref C/\oe.dict=EQ d/\oe.data= .fields vs/\vs[1]?=EQ (.ref T)/\T≠a/\H T=Fa/\Own X pins T/\h.get? T=EQ oT/\oT.data= .fields ts/\ts[3]?=EQ .none
abbrev akT (X:Cx) (hs:EA ExceptHandler) (Q:Flow->EM->Prop):EH->EM->Prop:=λe s1=>Fl (model X.prog X.w) X.A (Pd e X.env) (λ_ s2=>Fl (model X.prog X.w) X.A (QW e Fa) (λ_ s3=>Fl (model X.prog X.w) X.A (handleBy e X.env hs) Q X.xe s3) X.xe s2) X.xe s1
section
variable {Q:Flow->EM->Prop}{Ek:XK}
theorem D2 (JS:X.stack=X.env::X.outer) (Rx:X.env.frame=EQ X.env.locals)
  (hh: ∀(C a d:EJ) (σ:St) (H:Hp) (s:EM),aE X pins σ H s->DZ X pins H s.heap C d a->Ek (.ref C) (EQ d) H->Fl (model X.prog X.w) X.A (handleBy (.ref a) X.env hs) Q X.xe s):
  dg (fW X.prog X.w) (zn X pins (akT X hs Q)) Ek:=by
 intro TK σ H s e s' I h;obtain⟨C,a,d,H',rfl,os,bare,un,HH,za,ha,⟨oe,vs,T,oT,ts,x1,x2,x3,x4,x5,x6,x7,x8,x9,x10,x11⟩,hE⟩:=h;have J0:=I.VA (ch:=[]) os un HH bare (λb z=>nomatch z)
 have J:aE X pins σ H' s':=eV J0
 have oa:Own X pins a:=ve (eV I) za
 have oT':Own X pins T:=ve (eV I) x6
 have fr:X.A.frames=EQ (X.env::X.outer):=by rw[J.ok.frames,JS]
 have st:s'.heap.FunFrames X.base (X.env::X.outer):=by rw[<-JS];exact J.stack
 show Fl (model X.prog X.w) X.A (Pd (.ref a) X.env) _ _ s'
 refine wd (base:=X.base) fr st Rx x1 x4 x5 x7 x9 x10 x11 λh' L=>?_;have ck: ∀b∈[a,T],H' b=Fa:=λb hb=>by
  rcases EW.mp hb with z|z
  ·rw[z];exact ha
  ·rw[Fd.mp z];exact x8
 have fq:(X.env::X.outer).filterMap (·.frame)=rl X.stack:=by rw[JS];rfl
 rw[fq] at L;have hk:h9 X.prog X.w H' h':=λb u e=>by
  refine(J.HH b u e).Rj (λc v hc q=>L.keep c v (λz=>?_) (λz=>?_) q) [05] λ_ _ q=>q
  ·have y:=J.PZ c z
   rcases hc with w1|w1
   ·rw[w1,e] at y;cases y
   ·rw[w1] at y;cases y
  ·have y:=ck c z
   rcases hc with w1|w1
   ·rw[w1,e] at y;cases y
   ·rw[w1] at y;cases y
 have K1:aE X pins σ H' { s' with heap:=h' } :=by
  refine J.call (g':=s'.gens) (t':=s'.toks) (d':=s'.drawn) (ch:=[a,T]) #[λb o e n hb hx=>L.keep b o hb hx e,λb o e n hb hx=>L.slot b o hb hx e,λb o e n hx=>n,λb o e hx=>L.there b o e,λ_ _ e=>e,λ_ _ _ e=>e,λb ps e=>#[[].toArray,by rw[e];simp]] hk J.bare λb hb=>?_;rcases EW.mp hb with z|z
  ·rw[z];exact#[.inr oa.z,oa.nl,oa.nc,oa.np]
  ·rw[Fd.mp z];exact#[.inr oT'.z,oT'.nl,oT'.nc,oT'.np]
 obtain⟨ws,T2,oT2,ts2,y1,y2,y3,y4,y5,y6,y7⟩:=L.fly;exact hh C a d σ H' _ K1 #[oa,ha,_,ws,T2,oT2,ts2,y1,x2,x3,FS,y2,y4,J.HH.fresh y3,ve J y3,y5,y6,y7] hE
end
section
variable {a:EJ}{H:Hp}{th:TS}
def BU (R G C:EJ):Prop:=G=C\/G=R
theorem BE (XC:dA X.K R C fI) (hG:BU R G C) {E:EH->EM->Prop}{Q:FR->EM->Prop}(I:aE X pins σ H s) (cm:DZ X pins H s.heap C d a) (q:Q FB s):Fl M A (excMatches (.ref a) (.ref G)) Q E s:=by
 obtain⟨Nn,mN,oI,NR,mR,⟨nm,qq,bs,sn,sub,ab,col,dd,k0,k1,k2,k3,k5,hC⟩,_,_,_,_,_,⟨nm',qq',bs',sn',alL,ab',alM,V1,k0',k1',k2',k3',k5',hR⟩,_⟩:=XC.at_ _ I.MI;obtain⟨oe,vs,T,oT,ts,y1,y2,_⟩:=cm.ex;obtain⟨h1,g1,d1,t1,VE⟩:=s;rcases hG with rfl|rfl
 ·exact wpAny_excMatches_sub_self hC y1 y2 (by rw[FY];rfl) q
 ·have u1:(Fq G::cW).contains (.type "BaseException")=FB:=by rw[FY];rfl
  have u2:(Fq C:: .ref G::cW).contains (.ref G)=FB:=by simp
  have f:=tc_notTuple;unfold excMatches
  repeat (first|(with_reducible refine FW y1 ?_;rw[y2])|with_reducible refine FW hR ?_|(with_reducible refine wpAny_isSubtype_exc hR ?_;rw[u1])|(with_reducible refine wpAny_isSubtype_exc hC ?_;rw[u2])|wp_step)
  exact q
theorem vt {E:EH->EM->Prop}{Q:Mo->EM->Prop}(I:aE X pins σ H s) (cm:DZ X pins H s.heap C d a)
  (h: ∀s',aE X pins σ H s'->(∃o vs,s'.heap.get? a=EQ o/\o.cls= .ref C/\o.dict=EQ d/\o.data= .fields vs)->Q () s'):Fl M A (QW (.ref a) Fa) Q E s:=by
 obtain⟨oe,vs,T,oT,ts,y1,y2,y3,y4,y5,y6,y7,y8,y9,y10,y11⟩:=cm.ex;refine wpAny_setFlight_none y1 y4 y5 y9 y10 (JT.mp y11).1 (h _ (I.turned (it:=T) (t':=s.toks) (λb o hb e=>by rw[GA _ _ (HS hb)];exact e) y7 y8.nl (.inr y8.z) y8.nc y8.np) ?_);exact#[oe,vs,by show(s.heap.update T _).get? a=_;rw[GA _ _ y6];exact y1,y2,y3,y4]
theorem aat (XC:dA X.K R C fI) (hG:BU R G C) (hg:Gl X x) (hm:X.mg x=EQ (.ref G)) (hN:X.N.Nodup) (hi:X.N[i]?=EQ n) (hl:X.env.scope.names.lookup n=EQ .local) (hs:tY (CY X a) (b0::TY) th)
  (I:aE X pins σ H s) (cm:DZ X pins H s.heap C d a) (hr:th #[λ_ _=>False,D.rt,λ_ _=>False,λ_ _=>False] ((Iz X.N.length Fa).set i (EQ (.ref a))) (aF H a (kC C d a)))
  (Rl:(x == ("__debug__":Fh))=FM:=by decide):
  Fl (model X.prog X.w) X.A (handleBy (.ref a) X.env [.ExceptHandler (EQ (.Name x np)) (EQ n) (b0::TY) agJ]) (SP X pins D) X.xe s:=by
 refine wpAny_handleBy_cons (codeAny_handlers_test ?_) (by intro q;cases q);refine gi (X:=CY X a) (we I) hg hm ?_ Rl;refine BE XC hG I cm ?_;show KP _ _ _ _ _;refine codeAny_handlers_suite_as (vt I cm λs1 I1 e1=>?_);have I2:aE X pins (Iz X.N.length Fa) H s1:=I1.weak (by rw[Ny];exact I1.len.symm) λi v e=>by
  rw[Kz] at e;split at e<;>cases e
 have I3:aE X pins (Iz X.N.length Fa) (aF H a (kC C d a)) s1:=
  xU I2 cm.no cm.own.z cm.own.nl cm.own.nc cm.own.np #[e1,#[_,e1.choose_spec.choose_spec.1],λ_ _ ⟨o,vs,z,r⟩ k=>#[o,vs,k _ z,r]]
 refine jQ (X:=CY X a) (v:= .ref a) (we I3) hN hi (.inl hl) rfl (λs4 I4=>?_) (.inr hl);refine HP (hs pins s4 _ _ _ I4 hr) (λf s5 z=>?_) λ_ _ z=>z.elim;cases f with
 |next=>obtain⟨_,_,_,z⟩:=z;exact z.elim
 |brk=>obtain⟨_,_,_,z⟩:=z;exact z.elim
 |cont=>obtain⟨_,_,_,z⟩:=z;exact z.elim
 |ret u=>
  obtain⟨v,σ5,H5,I5,r5,q5⟩:=z;obtain⟨m,hn,_⟩:=id I5.loc;refine wpAny_nameGoes hl hn (by rw[I.ok.kind];rfl) λh' m' n' sb=>#[v,_,H5,zB (zj I.ok I5) n' sb,r5,q5]
end
section
variable {tb th:TS}{Ek:XK}
def aau (Ek:XK) (m i:E1) (tb th:TS):TS:=λD σ H=>tb D σ H/\ ∀C d H' a,Ek (.ref C) (EQ d) H'->H' a=Fa->
 th #[λ_ _=>False,D.rt,λ_ _=>False,λ_ _=>False] ((Iz m Fa).set i (EQ (.ref a))) (aF H' a (kC C d a))
theorem Bt (Ek:XK) (JS:X.stack=X.env::X.outer) (Rx:X.env.frame=EQ X.env.locals) (hE: ∀C d H,Ek (.ref C) (EQ d) H-> ∃fI,dA X.K R C fI/\BU R G C) (hg:Gl X x) (hm:X.mg x=EQ (.ref G)) (hN:X.N.Nodup) (hi:X.N[i]?=EQ n) (hl:X.env.scope.names.lookup n=EQ .local)
  (hb: ∀pins Ew,dg (fW X.prog X.w) (zn X pins Ew) Ek->tY (zn X pins Ew) body tb) (hs: ∀a,tY (CY X a) (b0::TY) th) (Rl:(x == ("__debug__":Fh))=FM:=by decide):
  PS X (.Try body [.ExceptHandler (EQ (.Name x np)) (EQ n) (b0::TY) agJ] [] [] pos) (aau Ek X.N.length i tb th):=by
 intro pins s σ H D I h;refine wpAny_Try_except ?_;have P:=D2 (hs:=[.ExceptHandler (EQ (.Name x np)) (EQ n) (b0::TY) agJ]) (Q:=SP X pins D) (Ek:=Ek) JS Rx λC a d σ1 H1 s1 I1 cm hE1=>(hE C d H1 hE1).elim λfI ⟨XC,hG⟩=>aat (D:=D) XC hG hg hm hN hi hl (hs a) I1 cm (h.2 C d H1 a hE1 cm.no) Rl
 refine HP (hb pins _ P [] s σ H D (Cg I) h.1) (λf s1 z=>?_) λe s1 z=>z;cases f with
 |next=>exact Mj (jU z)
 |brk=>exact jU z
 |cont=>exact jU z
 |ret u=>exact jU z
def agK (K:EF) (te:TE) (f:Fh):TE:=λσ H Q=>te σ H λx H1=> ∃R C fI a d fs v,dA K R C fI/\x= .ref a/\H1 a=EQ (kC C d a)/\H1 d=EQ (cj d fs)/\fs.lookup f=EQ v/\Q v H1
theorem DX {te:TE}{K:EF}(hK:X.K=K) (hf:f∈cV) (hB:Hg (.type "Exception") f=pure Fa) (he:PE X e te) (hb:HM e f X.env (eval e X.env)=eval e X.env):PE X (.Attribute e f pos) (agK K te f):=by
 intro pins s σ H Q I h;subst hK;refine wC hb (b9 (he pins s σ H _ I h) λu s1 ⟨x,H1,I1,rx,R,C,fI,a,d,fs,v,XC,ex,ea,ed,l,q⟩=>?_);subst ex;obtain rfl:u=Fq a:=rx;obtain⟨z,_⟩:=I1.HH _ _ ea;exact Es (φ:=λ_=>True) XC hf hB I1 z ed l λu' s2 I2 ru=>#[v,H1,I2,ru,q]
end
theorem on:Hg (.type "Exception") "number"=pure Fa:=by rw[JV,Iv];kernel_rfl
theorem zO:Hg (.type "Exception") "kind"=pure Fa:=by rw[JV,Iv];kernel_rfl
theorem By:Hg (.type "Exception") "line"=pure Fa:=by rw[JV,Iv];kernel_rfl
theorem uP:Hg (.type "Exception") "column"=pure Fa:=by rw[JV,Iv];kernel_rfl
abbrev BD (n l c:Int):EA (Fh×V):=[("number", .int (-3)),("kind", .int n),("line", .int l),("column", .int c)]
abbrev DF (n:Int):EA (Fh×V):=[("number", .int n)]
def agL:EA V->EA (Fh×V)->Prop:=λus fs=> ∃n:Int,us=[.int n]/\fs=DF n
def aav:EA V->EA (Fh×V)->Prop:=λus fs=> ∃n l c:Int,us=[.int n, .int l, .int c]/\fs=BD n l c
theorem bP (T:aU K mg a) (XC:dA K a.GB C fI):T.VW.U P w mg base 1 (dP C agL):=by
 refine T.VW.F.ok akb (λvs H Q E h=>?_) [02]
 ·obtain⟨p,us,fs,rfl,⟨n,rfl,rfl⟩,_⟩:=h
  rfl
 ·obtain⟨p,us,fs,rfl,⟨n,rfl,rfl⟩,hp,q⟩:=h
  refine#[_,(ax (uB (C:=C) (fI:=fI) XC (by rfl) T.RT (pv 0))
   (ah (agI XC HG [00] on (pv 0) (pv 1) rfl))),?_]
  exact#[p,FS,hp,p,FS,hp,λd hd=>q d hd]
theorem jn (T:aU K mg a) (XC:XT K a):T.d_1.U P w mg base 2 (dP a.Hd aav):=by
 have G:=bP (P:=P) (w:=w) (base:=base) T XC.fc;refine T.d_1.F.ok akc (λvs H Q E h=>?_) [02]
 ·obtain⟨p,us,fs,rfl,⟨n,l,c,rfl,rfl⟩,_⟩:=h
  rfl
 ·obtain⟨p,us,fs,rfl,⟨n,l,c,rfl,rfl⟩,hp,q⟩:=h
  refine#[_,(ax (bi (fg (by rfl) T.Hi XC.rm G (hr.mono [01]) T.VW.c.b .nil aY (aa (pv 0) (aa (dJ cG aj) ag))))
   (ax (AN XC.fc HG [00] zO (pv 0) (pv 1) rfl)
   (ax (AN XC.fc HG [00] By (pv 0) (pv 2) rfl)
   (ah (AN XC.fc HG [00] uP (pv 0) (pv 3) rfl))))),?_]
  refine#[_,FS,p,_,DF (-3),FS,#[-3,FS,FS],hp,λd hd=>?_];have np:d≠p:=(ai hp hd).symm;have z:=q d hd;refine#[p,d,_,FS,ae,by rw[ac np,ae],by show 1<1000;decide,?_];refine#[p,d,_,FS,by rw[ac np.symm,ae],ae,by show 2<1000;decide,?_];refine#[p,d,_,FS,by rw[ac np.symm,ac np.symm,ae],ae,by show 3<1000;decide,?_];have eH: ∀f1 f2 f3 f4:EA (Fh×V),aF (aF (aF (aF (aF H d (cj d f1)) p (jT a.Hd d p)) d (cj d f2)) d (cj d f3)) d (cj d f4)=aF (aF H d (cj d f4)) p (jT a.Hd d p):=λf1 f2 f3 f4=>by
   funext b
   by_cases hb:b=d
   ·rw[hb,ae,ac np,ae]
   ·rw[ac hb,ac hb,ac hb]
    by_cases hb2:b=p
    ·rw[hb2,ae,ae]
    ·rw[ac hb2,ac hb,ac hb2,ac hb]
  show Q .HZ _
  rw[eH];exact z
inductive sQ:EA Fh->EA Stmt->Prop
 |nil:sQ [] []
 |cons {f:Fh}{fs:EA Fh}{ss:EA Stmt}{p1 p2 p3 p4:Pos}(_:sQ fs ss):sQ (f::fs) (.Assign [.Attribute (.Name "self" p1) f p2] (.Name f p3) p4::ss)
inductive kE (C:EJ) (fs:EA Fh) (vs:EA V) (H:Hp) (Q:VK) (_E:XK):Prop
 |mk (p dx:EJ) (ws:EA V) (_:vs= .ref p::ws) (_:ws.length=fs.length) (_:H p=EQ (.ins C dx [])) (_: ∀H':Hp,H' p=EQ (.ins C dx (fs.zip ws))->(∀b o,H b=EQ o->b≠p->H' b=EQ o)->Q .HZ H'):kE C fs vs H Q _E
theorem rO {f:Fh}{v:V} : ∀ {l:EA (Fh×V)},(∀x∈l,x.1≠f)->Hs f v l=l++[(f,v)]
 |[],_=>rfl
 | (g,x)::r,h=>by
  unfold Hs;rw[EI (h _ EO),rO λy hy=>h y (EN _ hy)]
  rfl
theorem D5 {X:Cx}{D:eJ}{p dx C:EJ}{σ:L2.St}(c:gw X.K C) (h0:X.N[0]?=EQ ("self":Fh)) (v0:oH X.env.scope "self") (s0:σ[0]?=EQ (EQ (.ref p))):
  ∀ {fs:EA Fh}{ss:EA Stmt},sQ fs ss-> ∀ {k:E1}{ws:EA V}{done:EA (Fh×V)}{H:Hp},(∀g∈fs,ak X.K C g/\oH X.env.scope g/\(g == ("__debug__":Fh))=FM/\(g == ("__classdict__":Fh))=FM)->
   (∀i g,fs[i]?=EQ g->X.N[k+i]?=EQ g)->(∀i v,ws[i]?=EQ v->σ[k+i]?=EQ (EQ v))->ws.length=fs.length->(done.map (·.1)++fs).Nodup->done.length+fs.length<1000->H p=EQ (.ins C dx done)->
   (∀H':Hp,H' p=EQ (.ins C dx (done++fs.zip ws))->(∀b o,H b=EQ o->b≠p->H' b=EQ o)->D.nx σ H')->Bd X ss D σ H:=by
 intro fs ss hi
 induction hi with
 |nil=>
  intro k ws done H _ _ _ hl _ _ hp q;refine cc (q H ?_ λb o e _=>e);rw[MW.mp hl,EA.zip_nil_left,Gw];exact hp
 | @cons f fs ss p1 p2 p3 p4 _ ih=>
  intro k ws done H hg hN hw hl nd len hp q;cases ws with
  |nil=>cases hl
  |cons v ws=>
   obtain⟨no,vf,d1,d2⟩:=hg f EO;refine aQ (b5 (dX h0 v0) (dX (hN 0 f rfl) vf d1 d2) rfl) (oA (oA #[p,C,dx,done,FS,hp,c,no,by lia,?_] s0) (hw 0 v rfl));have nf: ∀x∈done,x.1≠f:=λx hx e=>by
    have:=(KO.mp nd).2.2 x.1 (Kc hx) f EO;exact this e
   rw[rO nf];refine ih (k:=k+1) (ws:=ws) (done:=done++[(f,v)]) (λg h=>hg g (EN _ h)) (λi g e=>?_) (λi u e=>?_) (QK hl) ?_ ?_ ae λH' h1 h2=>?_
   ·rw[RD,J7 1];exact hN (i+1) g e
   ·rw[RD,J7 1];exact hw (i+1) u e
   ·rw[GG,F4];exact nd
   ·rw[Fc]
    have:done.length+(fs.length+1)<1000:=len
    show done.length+1+fs.length<1000
    lia
   ·refine q H' ?_ λb o e ne=>h2 b o (by rw[ac ne];exact e) ne
    rw[h1,F4]
    rfl
theorem c8 {x Gz:Fh}{st:Stmt}{f:EJ}{fd:FL}{C:EJ}{fs:EA Fh}(F:oF K x Gz st f fd) (S:az ("self"::fs) ("self"::fs) (af st)) (c:gw K C) (no: ∀g∈fs,ak K C g) (i:sQ fs (a8 st))
  (hd:(fs.length<1000/\ ∀g∈fs,(g == ("__debug__":Fh))=FM/\(g == ("__classdict__":Fh))=FM):=by decide):bS P w K mg base wG 1 f fd ("self"::fs) (kE C fs):=by
 refine F.ok S (λvs H Q E h=>?_) [02]
 ·obtain⟨p,dx,ws,rfl,h,_⟩:=h
  exact FN Q0 h
 ·obtain⟨p,dx,ws,rfl,hl,hp,q⟩:=h
  have ZL: ∀g∈("self":Fh)::fs,oH (af st) g:=λg hg=>(S.par g hg).elim .inl λz=> .inr (.inl z)
  have e:L2.start ("self"::fs) (.ref p::ws)=EQ (.ref p)::ws.map EQ:=by
   unfold L2.start;rw[show(("self":Fh)::fs).length-(V.ref p::ws).length=0 by rw[EZ,EZ,hl,PK]];exact Gw _
  rw[e];refine D5 (C:=C) (p:=p) (dx:=dx) c rfl (ZL _ EO) rfl i (k:=1) (ws:=ws) (done:=[]) (λg hg=>#[no g hg,ZL g (EN _ hg),hd.2 g hg]) (λi g e=>by rw[J7];exact e) (λi v e=>?_) hl (FI.mp S.nd).2 (by rw[JK,J8];exact hd.1) hp λH' h1 h2=>q H' h1 h2;rw[J7,EA.getElem?_cons_succ,FQ,e]
  rfl
def qT (q kd fn ds bl:EJ) (n:E1):EA (Fh×V):=[("tokens", .ref q),("at", .int n),("known", .ref kd),("functions", .ref fn),("desks", .ref ds),("blocks", .ref bl)]
inductive XF (a:be) (H:Hp) (q:EJ) (n:E1) (t:EG):Prop
 |mk (as:EA EJ) (all:EG) (_:H q=EQ (.lst (as.map V.ref))) (_:Paired (fS a.IA H) as all) (_:all.drop n=t):XF a H q n t
structure mw (a:be) (H:Hp) (r q kd fn ds bl:EJ) (n:E1) (t:EG):Prop where
 ins: ∃dr,H r=EQ (.ins a.FX dr (qT q kd fn ds bl n))
 toks:XF a H q n t
def nX (C:EJ) (E:XK) (H:Hp) (n:E1) (x:FT):Prop:= ∀d,H d=Fa->E (.ref C) (EQ d) (aF H d (cj d (BD n x.1 x.2)))
theorem iU {α β:Type}{F:α->β->Prop} : ∀ {l:EA α}{m:EA β}{i:E1}{y:β},Paired F l m->m[i]?=EQ y-> ∃x,l[i]?=EQ x/\F x y
 |_,_,_,_, .nil,h=>by cases h
 |_,_,0,_, .cons r t,h=>#[_,FS,by obtain rfl:=E5 h;exact r]
 |_,_,i+1,_, .cons r t,h=>iU (i:=i) t h
theorem yt {α:Type}{l t:EA α}{x:α}(h:l.drop n=x::t):l[n]?=EQ x:=by
 have:=FN (λz:EA α=>z[0]?) h
 simpa using this
theorem mw.cur {a:be}{H:Hp}{r q kd fn ds bl:EJ}{n:E1}{x:F5×FT}{t:EG}(R:mw a H r q kd fn ds bl n (x::t)):
  ∃(as:EA EJ) (p:EJ),H q=EQ (.lst (as.map V.ref))/\(as.map V.ref)[n]?=EQ (.ref p)/\fS a.IA H p x:=by
 obtain⟨as,all,h1,h2,h3⟩:=R.toks;obtain⟨p,e,k⟩:=iU h2 (yt h3);exact#[as,p,h1,by rw[FQ,e];rfl,k]
inductive XG (a:be) (vs:EA V) (H:Hp) (Q:VK) (E:XK):Prop
 |mk (r q kd fn ds bl:EJ) (n:E1) (x:F5×FT) (t:EG) (_:vs=[.ref r]) (_:mw a H r q kd fn ds bl n (x::t)) (_:(x.1= .bad->nX a.Hd E H 1 x.2)) (_:(x.1≠ .bad-> ∀p,fS a.IA H p x->Q (.ref p) H)):XG a vs H Q E
inductive BC (a:be) (vs:EA V) (H:Hp) (_Q:VK) (E:XK):Prop
 |mk (r q kd fn ds bl:EJ) (n:E1) (x:F5×FT) (t:EG) (m:E1) (_:vs=[.ref r, .int m]) (_:mw a H r q kd fn ds bl n (x::t)) (_:nX a.Hd E H (if x.1= .bad then 1 else m) x.2):BC a vs H _Q E
theorem pJ:hZ x=4 ↔ x= .bad:=by cases x<;>simp [hZ]
theorem c7 (T:aU K mg a) (XC:XT K a):T.Vp.O P w mg base 4 (XG a):=by
 have G:=jn (P:=P) (w:=w) (base:=base) T XC;refine fP T.Vp.F af7 [03] [02];obtain⟨r,q,kd,fn,ds,bl,n,x,t,rfl,R,hb,hg⟩:=h;obtain⟨dr,er⟩:=R.ins;obtain⟨as,p,eq,ep,tp⟩:=R.cur
 have tp':=tp;obtain⟨dx,et⟩:=tp';refine#[_,(ax (cH (i:=1) af7.nd rfl (Gx rfl) (cK bB (ao (pv 0) rfl) (ao (pv 0) rfl) (λ_ _=>rfl)))
   (ax (cy (a7 b7 (ao (pv 1) rfl) (aR (by rfl) T.OJ) (aM _)) (ah (sE eD XC.fc G (hr.mono [01]) (by rfl) T.P7 T.d_1.c.b (aa (aR (by rfl) T.QD) (aa (ao (pv 1) rfl) (aa (ao (pv 1) rfl) ag))))) br)
   (ah (aK (pv 1))))),?_]
 refine#[r,_,dr,_,_,FS,er,T.Fy,T.K4,FS,r,_,dr,_,_,FS,er,T.Fy,T.JY,FS,q,_,n, .ref p,FS,FS,cO.of eq,bj ep,?_];refine#[p,_,dx,_,_,FS,et,T.HU,T.JF,FS,FS,_,FS,?_];rw[cn];refine aP (λe=>?_) λe=>?_
 ·have xb:=pJ.mp (Ft e)
  exact#[p,_,dx,_,_,FS,et,T.HU,T.Ms,FS,p,_,dx,_,_,FS,et,T.HU,T.Ln,FS,(by show 3<=9;decide),_,#[_,_,_,FS,FS],hb xb]
 ·have xb:x.1≠ .bad:=λz=>Fw e (pJ.mpr z)
  exact(hg xb p tp)
inductive sB (a:be) (b:F5->FR) (vs:EA V) (H:Hp) (Q:VK) (E:XK):Prop
 |mk (r q kd fn ds bl:EJ) (n:E1) (x:F5×FT) (t:EG) (_:vs=[.ref r]) (_:mw a H r q kd fn ds bl n (x::t)) (_:(x.1= .bad->nX a.Hd E H 1 x.2)) (_:(x.1≠ .bad->Q (.bl (b x.1)) H)):sB a b vs H Q E
def lU (v:Fh) (k:F5):FR:=decide (ie k= .str v)
inductive AL (a:be) (vs:EA V) (H:Hp) (Q:VK) (E:XK):Prop
 |mk (r q kd fn ds bl:EJ) (n:E1) (x:F5×FT) (t:EG) (v:Fh) (_:vs=[.ref r, .str v]) (_:mw a H r q kd fn ds bl n (x::t)) (_:(x.1= .bad->nX a.Hd E H 1 x.2)) (_:(x.1≠ .bad->Q (.bl (lU v x.1)) H)):AL a vs H Q E
def past (a:be) (H:Hp) (r q kd fn ds bl:EJ) (n:E1) (H':Hp):Prop:= ∃dr,H r=EQ (.ins a.FX dr (qT q kd fn ds bl n))/\H'=aF H r (.ins a.FX dr (qT q kd fn ds bl (n+1)))
inductive Ae (a:be) (vs:EA V) (H:Hp) (Q:VK) (E:XK):Prop
 |mk (r q kd fn ds bl:EJ) (n:E1) (x:F5×FT) (t:EG) (_:vs=[.ref r]) (_:mw a H r q kd fn ds bl n (x::t)) (_:(x.1= .bad->nX a.Hd E H 1 x.2)) (_:(x.1≠ .bad-> ∀H',past a H r q kd fn ds bl n H'->Q (ie x.1) H')):Ae a vs H Q E
inductive sk (a:be) (vs:EA V) (H:Hp) (Q:VK) (E:XK):Prop
 |mk (r q kd fn ds bl:EJ) (n:E1) (x:F5×FT) (t:EG) (v:Fh) (_:vs=[.ref r, .str v]) (_:mw a H r q kd fn ds bl n (x::t)) (_:(x.1= .bad->nX a.Hd E H 1 x.2)) (_:(x.1≠ .bad->lU v x.1=FM->nX a.Hd E H 2 x.2)) (_:(x.1≠ .bad->lU v x.1=FB-> ∀H',past a H r q kd fn ds bl n H'->Q .HZ H')):sk a vs H Q E
inductive vQ (a:be) (vs:EA V) (H:Hp) (Q:VK) (E:XK):Prop
 |mk (r q kd fn ds bl:EJ) (n:E1) (x:F5×FT) (t:EG) (v:Fh) (_:vs=[.ref r, .str v]) (_:mw a H r q kd fn ds bl n (x::t)) (_:(x.1= .bad->nX a.Hd E H 1 x.2)) (_:(x.1≠ .bad->lU v x.1=FM->Q (.bl FM) H)) (_:(x.1≠ .bad->lU v x.1=FB-> ∀H',past a H r q kd fn ds bl n H'->Q (.bl FB) H')):vQ a vs H Q E
theorem mw.step {a:be}{H H':Hp}(R:mw a H r q kd fn ds bl n (x::t)) (h:past a H r q kd fn ds bl n H'):mw a H' r q kd fn ds bl (n+1) t:=by
 obtain⟨dr,e,rfl⟩:=h;obtain⟨as,all,h1,h2,h3⟩:=R.toks;refine#[#[dr,ae],as,all,?_,Paired.M7 h2 λb z k=>?_,?_]
 ·have ne:q≠r:=λz=>by rw[z,e] at h1;cases h1
  rw[ac ne];exact h1
 ·obtain⟨dx,ez⟩:=k
  have ne:b≠r:=λz=>by
   rw[z,e] at ez;have:=FN NP (HO.ins.inj (E5 ez)).2.2;cases this
  exact#[dx,by rw[ac ne];exact ez]
 ·have:=FN (EA.drop 1) h3
  rw[NO] at this;exact this
theorem zw:ZQ (ie x) (.str v)=FB:=by cases x<;>rfl
def lK:F5->FR
 | .num _=>FB
 |_=>FM
def An:F5->FR
 | .eof=>FB
 |_=>FM
theorem fE (T:aU K mg a) (XC:XT K a):T.Vq.O P w mg base 5 (BC a):=by
 have G:=jn (P:=P) (w:=w) (base:=base) T XC
 have Tc:=c7 (P:=P) (w:=w) (base:=base) T XC;refine fP T.Vq.F af8 [03] [02];obtain⟨r,q,kd,fn,ds,bl,n,x,t,m,rfl,R,hf⟩:=h;obtain⟨dr,er⟩:=R.ins;refine#[_,(ax (cH (i:=2) af8.nd rfl (Gx rfl) (bQ (pv 0) T.Fy T.Vp.c Tc (hr.mono [01]) aA))
   (ah (sE eD XC.fc G (hr.mono [01]) (by rfl) T.P7 T.d_1.c.b (aa (pv 1) (aa (ao (pv 2) rfl) (aa (ao (pv 2) rfl) ag)))))),?_]
 refine#[r,dr,_,FS,er,FS,r,q,kd,fn,ds,bl,n,x,t,FS,R,λb=>by rw[EL b] at hf;exact hf,λnb p tp=>?_];rw[EI nb] at hf;obtain⟨dx,et⟩:=tp;exact#[p,_,dx,_,_,FS,et,T.HU,T.Ms,FS,p,_,dx,_,_,FS,et,T.HU,T.Ln,FS,(by show 3<=9;decide),_,#[_,_,_,FS,FS],hf]
theorem mi (T:aU K mg a) (XC:XT K a):T.d_p.O P w mg base 5 (AL a):=by
 have Tc:=c7 (P:=P) (w:=w) (base:=base) T XC;refine fP T.d_p.F aky [03] [02];obtain⟨r,q,kd,fn,ds,bl,n,x,t,v,rfl,R,hb,hg⟩:=h;obtain⟨dr,er⟩:=R.ins;refine#[_,(ah (aK (b8 b7 (ao (bQ (pv 0) T.Fy T.Vp.c Tc (hr.mono [01]) aA) rfl) (pv 1) (aM _)))),?_];refine#[r,dr,_,FS,er,FS,r,q,kd,fn,ds,bl,n,x,t,FS,R,hb,λnb p tp=>?_]
 obtain⟨dx,et⟩:=tp;exact#[p,_,dx,_,_,FS,et,T.HU,T.IP,FS,zw,hg nb]
theorem xW (T:aU K mg a) (XC:XT K a):T.Y9.O P w mg base 5 (sB a An):=by
 have Tc:=c7 (P:=P) (w:=w) (base:=base) T XC;refine fP T.Y9.F af9 [03] [02];obtain⟨r,q,kd,fn,ds,bl,n,x,t,rfl,R,hb,hg⟩:=h;obtain⟨dr,er⟩:=R.ins;refine#[_,(ah (aK (b8 b7 (ao (bQ (pv 0) T.Fy T.Vp.c Tc (hr.mono [01]) aA) rfl) (aR (by rfl) T.Xd) (aM _)))),?_];refine#[r,dr,_,FS,er,FS,r,q,kd,fn,ds,bl,n,x,t,FS,R,hb,λnb p tp=>?_]
 obtain⟨dx,et⟩:=tp;refine#[p,_,dx,_,_,FS,et,T.HU,T.JF,FS,FS,?_];have z:=hg nb;rw[cn];have e:decide (hZ x.1=3)=An x.1:=by cases x.1<;>rfl
 rw[e];exact z
theorem qt (T:aU K mg a) (XC:XT K a):T.Za.O P w mg base 5 (sB a lK):=by
 have Tc:=c7 (P:=P) (w:=w) (base:=base) T XC;refine fP T.Za.F aga [03] [02];obtain⟨r,q,kd,fn,ds,bl,n,x,t,rfl,R,hb,hg⟩:=h;obtain⟨dr,er⟩:=R.ins;refine#[_,(ah (aK (b8 b7 (ao (bQ (pv 0) T.Fy T.Vp.c Tc (hr.mono [01]) aA) rfl) (aR (by rfl) T.OI) (aM _)))),?_];refine#[r,dr,_,FS,er,FS,r,q,kd,fn,ds,bl,n,x,t,FS,R,hb,λnb p tp=>?_]
 obtain⟨dx,et⟩:=tp;refine#[p,_,dx,_,_,FS,et,T.HU,T.JF,FS,FS,?_];have z:=hg nb;rw[cn];have e:decide (hZ x.1=1)=lK x.1:=by cases x.1<;>rfl
 rw[e];exact z
theorem qW (T:aU K mg a) (XC:XT K a):T.d_t.O P w mg base 5 (Ae a):=by
 have Tc:=c7 (P:=P) (w:=w) (base:=base) T XC;refine fP T.d_t.F agd [03] [02];obtain⟨r,q,kd,fn,ds,bl,n,x,t,rfl,R,hb,hg⟩:=h;obtain⟨dr,er⟩:=R.ins;refine#[_,(ax (cH (i:=1) agd.nd rfl (Gx rfl) (bQ (pv 0) T.Fy T.Vp.c Tc (hr.mono [01]) aA))
   (ax (gP (pv 0) aj my)
   (ah (aK (ao (pv 1) rfl))))),?_]
 refine#[r,dr,_,FS,er,FS,r,q,kd,fn,ds,bl,n,x,t,FS,R,hb,λnb p tp=>?_];obtain⟨dx,et⟩:=tp;have ne:p≠r:=λz=>by
  rw[z,er] at et;have:=FN NP (HO.ins.inj (E5 et)).2.2;cases this
 refine#[r,_,dr,_,_,FS,er,T.Fy,T.JY,FS,_,_,FS,FS,dr,_,er,(by show 6<1000;decide),?_];exact#[p,_,dx,_,_,FS,(by rw[ac ne];exact et),T.HU,T.IP,FS,hg nb _ #[dr,er,FS]]
def aaw:EA V:=[.str "const", .str "fun", .str "desk", .str "let", .str "for", .str "in", .str "if", .str "then", .str "else", .str "sell", .str "buy", .str "zone", .str "quarter", .str "price", .str "to", .str "amount", .str "block", .str "under", .str "group", .str "sum"]
def cN:F5->FR
 | .word u=>!tZ (.str (sb u)) aaw
 |_=>FM
inductive Aj (a:be) (vs:EA V) (H:Hp) (Q:VK) (E:XK):Prop
 |mk (r q kd fn ds bl:EJ) (n:E1) (x:F5×FT) (t:EG) (_:vs=[.ref r]) (_:mw a H r q kd fn ds bl n (x::t)) (_:(x.1= .bad->nX a.Hd E H 1 x.2)) (_:(x.1≠ .bad->cN x.1=FM->nX a.Hd E H 2 x.2)) (_:(x.1≠ .bad->cN x.1=FB->Q .HZ H)):Aj a vs H Q E
inductive wO (a:be) (vs:EA V) (H:Hp) (Q:VK) (E:XK):Prop
 |mk (r q kd fn ds bl:EJ) (n:E1) (x y:F5×FT) (t:EG) (_:vs=[.ref r]) (_:mw a H r q kd fn ds bl n (x::y::t)) (_:Q (.bl (lK y.1)) H):wO a vs H Q E
theorem xy (T:aU K mg a) (XC:XT K a):T.Zc.O P w mg base 6 (sk a):=by
 have G_p:=mi (P:=P) (w:=w) (base:=base) T XC
 have Us:=fE (P:=P) (w:=w) (base:=base) T XC;refine fP T.Zc.F age [03] [02];obtain⟨r,q,kd,fn,ds,bl,n,x,t,v,rfl,R,hb,hf,hg⟩:=h;obtain⟨dr,er⟩:=R.ins;refine#[_,(ax (cy (kY (di (cx (pv 0) T.Fy T.d_p.c G_p (hr.mono [01]) aA (aa (pv 1) ag)))) (ah (bi (cx (pv 0) T.Fy T.Vq.c Us (hr.mono [01]) aA (aa (aR (by rfl) T.Oa) ag)))) br)
   (ah (gP (pv 0) aj my))),?_]
 refine#[r,dr,_,FS,er,FS,r,q,kd,fn,ds,bl,n,x,t,v,FS,R,hb,λnb=>#[_,FS,?_]];cases e:lU v x.1 with
 |false=>
  refine cg ?_;exact#[r,dr,_,FS,er,FS,r,q,kd,fn,ds,bl,n,x,t,2,FS,R,by rw[EI nb];exact hf nb e]
 |true=>
  refine bK ?_;exact#[r,_,dr,_,_,FS,er,T.Fy,T.JY,FS,_,_,FS,FS,dr,_,er,(by show 6<1000;decide),hg nb e _ #[dr,er,FS]]
theorem nv (T:aU K mg a) (XC:XT K a):T.d_U.O P w mg base 5 (sB a cN):=by
 have Tc:=c7 (P:=P) (w:=w) (base:=base) T XC;refine fP T.d_U.F agb [03] [02];obtain⟨r,q,kd,fn,ds,bl,n,x,t,rfl,R,hb,hg⟩:=h;obtain⟨dr,er⟩:=R.ins;refine#[_,(ax (cH (i:=1) agb.nd rfl (Gx rfl) (bQ (pv 0) T.Fy T.Vp.c Tc (hr.mono [01]) aA))
   (ah (aK (nh (b8 b7 (ao (pv 1) rfl) (aR (by rfl) T.SY) (aM _)) (jo (b8 jW (ao (pv 1) rfl) (iQ (by rfl) T.RQ) rfl)))))),?_]
 refine#[r,dr,_,FS,er,FS,r,q,kd,fn,ds,bl,n,x,t,FS,R,hb,λnb p tp=>?_];obtain⟨dx,et⟩:=tp;have z:=hg nb;refine#[p,_,dx,_,_,FS,et,T.HU,T.JF,FS,FS,_,FS,?_];rw[cn];cases e:x.1 with
 |word u=>
  rw[e] at z et;refine cg ?_;refine#[p,_,dx,_,_,FS,et,T.HU,T.IP,FS,_,_,FS, .inr T.RR.sq,FS,FS,z]
 |num m=>rw[e] at z;exact bK z
 |sign u=>rw[e] at z;exact bK z
 |eof=>rw[e] at z;exact bK z
 |bad=>exact E7 e nb
theorem g7 (T:aU K mg a) (XC:XT K a):T.d_z.O P w mg base 6 (Aj a):=by
 have G_U:=nv (P:=P) (w:=w) (base:=base) T XC
 have Us:=fE (P:=P) (w:=w) (base:=base) T XC;refine fP T.d_z.F akz [03] [02];obtain⟨r,q,kd,fn,ds,bl,n,x,t,rfl,R,hb,hf,hg⟩:=h;obtain⟨dr,er⟩:=R.ins;refine#[_,(ah (cy (kY (di (bQ (pv 0) T.Fy T.d_U.c G_U (hr.mono [01]) aA))) (ah (bi (cx (pv 0) T.Fy T.Vq.c Us (hr.mono [01]) aA (aa (aR (by rfl) T.Oa) ag)))) br)),?_];refine#[r,dr,_,FS,er,FS,r,q,kd,fn,ds,bl,n,x,t,FS,R,hb,λnb=>#[_,FS,?_]]
 cases e:cN x.1 with
 |false=>
  refine cg ?_;exact#[r,dr,_,FS,er,FS,r,q,kd,fn,ds,bl,n,x,t,2,FS,R,by rw[EI nb];exact hf nb e]
 |true=>exact bK (hg nb e)
theorem jY (T:aU K mg a):T.Zb.U P w mg base 1 (wO a):=by
 refine T.Zb.F.ok agc [03] [02];obtain⟨r,q,kd,fn,ds,bl,n,x,y,t,rfl,R,z⟩:=h;obtain⟨dr,er⟩:=R.ins;obtain⟨as,all,h1,h2,h3⟩:=R.toks;have h4:all[n+1]?=EQ y:=by
  have:=FN (λz:EG=>z[1]?) h3
  simpa [J7] using this
 obtain⟨p,e,dx,et⟩:=iU h2 h4;have ep:(as.map V.ref)[n+1]?=EQ (.ref p):=by rw[FQ,e];rfl
 refine#[_,(ah (aK (b8 b7 (ao (cK bB (ao (pv 0) rfl) (ca dU (ao (pv 0) rfl) aj) (λ_ _=>rfl)) rfl) (aR (by rfl) T.OI) (aM _)))),?_];refine#[r,_,dr,_,_,FS,er,T.Fy,T.K4,FS,r,_,dr,_,_,FS,er,T.Fy,T.JY,FS,_,_,FS,FS,q,_,((n+1:E1):Int), .ref p,FS,FS,cO.of h1,bj ep,p,_,dx,_,_,FS,et,T.HU,T.JF,FS,FS,?_];rw[cn];have e:decide (hZ y.1=1)=lK y.1:=by cases y.1<;>rfl
 rw[e];exact z
abbrev nk (u:EC):a0:=Hu (sb u)
def has (aC:EA (a0×V)) (u:EC):FR:=(bN aC (nk u)).isSome
inductive A5 (a:be) (vs:EA V) (H:Hp) (Q:VK) (E:XK):Prop
 |mk (r q kd fn ds bl:EJ) (n:E1) (x:F5×FT) (t:EG) (kk ff:EA (a0×V)) (_:vs=[.ref r]) (_:mw a H r q kd fn ds bl n (x::t)) (_:H kd=EQ (.dK kk)) (_:H fn=EQ (.dK ff)) (_:(x.1= .bad->nX a.Hd E H 1 x.2)) (_:(x.1≠ .bad->cN x.1=FM->nX a.Hd E H 2 x.2)) (_:(∀u,x.1= .word u->cN x.1=FB->(has kk u||has ff u)=FB->nX a.Hd E H 4 x.2)) (_:(∀u,x.1= .word u->cN x.1=FB->(has kk u||has ff u)=FM-> ∀H',past a H r q kd fn ds bl n H'->Q (.str (sb u)) H')):A5 a vs H Q E
inductive w8 (a:be) (vs:EA V) (H:Hp) (Q:VK) (E:XK):Prop
 |mk (r q kd fn ds bl g:EJ) (n:E1) (x:F5×FT) (t:EG) (gg:EA (a0×V)) (_:vs=[.ref r, .ref g]) (_:mw a H r q kd fn ds bl n (x::t)) (_:H g=EQ (.dK gg)) (_:(x.1= .bad->nX a.Hd E H 1 x.2)) (_:(x.1≠ .bad->cN x.1=FM->nX a.Hd E H 2 x.2)) (_:(∀u,x.1= .word u->cN x.1=FB->has gg u=FB->nX a.Hd E H 4 x.2)) (_:(∀u,x.1= .word u->cN x.1=FB->has gg u=FM-> ∀H',past a H r q kd fn ds bl n H'->Q (.str (sb u)) H')):w8 a vs H Q E
inductive xm (a:be) (vs:EA V) (H:Hp) (Q:VK) (_E:XK):Prop
 |mk (r dr q kd fn ds bl:EJ) (n:E1) (u:EC) (kk:EA (a0×V)) (_:vs=[.ref r, .str (sb u)]) (_:H r=EQ (.ins a.FX dr (qT q kd fn ds bl n))) (_:H kd=EQ (.dK kk)) (_:kk.length<FE) (_:Q .HZ (aF H kd (.dK (dy kk (nk u) (.bl FB))))):xm a vs H Q _E
inductive tN (a:be) (vs:EA V) (H:Hp) (Q:VK) (_E:XK):Prop
 |mk (r dr q kd fn ds bl:EJ) (n:E1) (u:EC) (kk:EA (a0×V)) (_:vs=[.ref r, .str (sb u)]) (_:H r=EQ (.ins a.FX dr (qT q kd fn ds bl n))) (_:H kd=EQ (.dK kk)) (_:has kk u=FB) (_:Q .HZ (aF H kd (.dK (fD kk (nk u))))):tN a vs H Q _E
theorem Cm (T:aU K mg a):T.Zh.U P w mg base 1 (xm a):=by
 refine T.Zh.F.ok agh [03] [02];obtain⟨r,dr,q,kd,fn,ds,bl,n,u,kk,rfl,er,ek,lk,hq⟩:=h;refine#[_,(ah (gQ (dq hr) (ao (pv 0) rfl) (pv 1) tR rfl)),?_];exact#[r,_,dr,_,_,FS,er,T.Fy,T.JC,FS,kd,_,FS,rp.k (k:=nk u) ek lk,hq]
theorem py (T:aU K mg a):T.Wj.U P w mg base 1 (tN a):=by
 refine T.Wj.F.ok agi [03] [02];obtain⟨r,dr,q,kd,fn,ds,bl,n,u,kk,rfl,er,ek,hk,hq⟩:=h;obtain⟨v,ev⟩:=Ka.mp hk;refine#[_,(ah (bi (AA (ao (pv 0) rfl) (pv 1) #[FS,FS,FS,FS]))),?_];exact#[r,_,dr,_,_,FS,er,T.Fy,T.JC,FS,kd,FS, .inl #[kk, .inl ek],kk,nk u,v,ek,FS,ev,hq]
theorem kq (T:aU K mg a) (XC:XT K a):T.Ze.O P w mg base 7 (A5 a):=by
 have G_z:=g7 (P:=P) (w:=w) (base:=base) T XC
 have Tc:=c7 (P:=P) (w:=w) (base:=base) T XC
 have Us:=fE (P:=P) (w:=w) (base:=base) T XC
 have G_t:=qW (P:=P) (w:=w) (base:=base) T XC;refine fP T.Ze.F Xx [03] [02];obtain⟨r,q,kd,fn,ds,bl,n,⟨x,xp⟩,t,kk,ff,rfl,R,ek,ef,hb,hn,h4,hg⟩:=h;obtain⟨dr,er⟩:=R.ins;refine#[_,(ax (bi (bQ (pv 0) T.Fy T.d_z.c G_z (hr.mono [01]) aA))
   (ax (cH (i:=1) Xx.nd rfl (Gx rfl) (ao (bQ (pv 0) T.Fy T.Vp.c Tc (hr.mono [01]) aA) rfl))
   (ax (cy (v9 (fC (mZ (dq hr) (pv 1) (ao (pv 0) rfl))) (qB (fC (mZ (dq hr) (pv 1) (ao (pv 0) rfl))))).pt (ah (bi (cx (pv 0) T.Fy T.Vq.c Us (hr.mono [01]) aA (aa (aR (by rfl) T.Ob) ag)))) br)
   (ah (aK (bQ (pv 0) T.Fy T.d_t.c G_t (hr.mono [01]) aA)))))),?_]
 refine#[r,dr,_,FS,er,FS,r,q,kd,fn,ds,bl,n,(x,xp),t,FS,R,hb,hn,λnb e=>?_];cases x with
 |word u=>
  refine#[r,dr,_,FS,er,FS,r,q,kd,fn,ds,bl,n,(.word u,xp),t,FS,R,hb,λ_ p ⟨dx,et⟩=>#[p,_,dx,_,_,FS,et,T.HU,T.IP,FS,?_]];have agM:(has kk u||has ff u)=FB->nX a.Hd E H 4 xp:=h4 u rfl e
  have good:(has kk u||has ff u)=FM-> ∀H',past a H r q kd fn ds bl n H'->Q (.str (sb u)) H':=hg u rfl e
  refine#[r,_,dr,_,_,FS,er,T.Fy,T.JC,FS,kd,_,FS,gv.k (k:=nk u) ek,_,FS,aP (λe1=>?_) λe1=>?_]
  ·refine cg ?_
   refine#[r,dr,_,FS,er,FS,r,q,kd,fn,ds,bl,n,(.word u,xp),t,4,FS,R,?_];rw[EI nb];exact agM (by unfold has;rw[e1];rfl)
  ·refine#[r,_,dr,_,_,FS,er,T.Fy,T.HV,FS,fn,_,FS,gv.k (k:=nk u) ef,_,FS,aP (λe2=>?_) λe2=>?_]
   ·refine#[r,dr,_,FS,er,FS,r,q,kd,fn,ds,bl,n,(.word u,xp),t,4,FS,R,?_]
    rw[EI nb];exact agM (by unfold has;rw[e1,e2];rfl)
   ·exact#[r,dr,_,FS,er,FS,r,q,kd,fn,ds,bl,n,(.word u,xp),t,FS,R,hb,λ_=>good (by unfold has;rw[e1,e2];rfl)]
 |num m=>cases e
 |sign u=>cases e
 |eof=>cases e
 |bad=>exact E7 rfl nb
theorem uI:gF X (.type "dict") (λxs H Q=> ∃a aC,xs=[.ref a]/\CU X.prog X.w X.K a aC/\ ∀p,H p=Fa->Q (.ref p) (aF H p (.dK aC))):=by
 intro pins s σ H xs us Q I rv h;obtain⟨a,aC,rfl,kd,q⟩:=h;obtain⟨u,rfl,ru⟩:=rv.one;obtain rfl:u=Fq a:=ru;obtain⟨vs,dd,rel⟩:=kd.at_;refine kt_call_dict kd.no (dd _ I.MI) (by rw[<-rel.length];exact kd.len) λh' V1 hs=>?_;refine#[.ref s.heap.objs.size,_,I.laid (a:=s.heap.objs.size) (o:= .dK aC) (t':=s.toks) (λb q hq=>?_) (E6 _) (uL kd.len (beq_eq_false_iff_ne.mpr (HS (Gu I.big))) rel V1),FS,q _ (I.HH.fresh (E6 _))];exact(hs.2 b (Gu (Fn hq))).trans (E2 _ hq)
structure aax (a:be) (H H':Hp) (r dr q kd fn ds bl:EJ):Prop where
 ins:H' r=EQ (.ins a.FX dr (qT q kd fn ds bl 0))
 kd0:H kd=Fa
 fn0:H fn=Fa
 ds0:H ds=Fa
 bl0:H bl=Fa
 kd1:H' kd=EQ (.dK [])
 fn1:H' fn=EQ (.dK dn)
 ds1:H' ds=EQ (.dK [])
 bl1:H' bl=EQ (.dK [])
 O8:kd≠fn/\kd≠ds/\kd≠bl/\fn≠ds/\fn≠bl/\ds≠bl
 kept: ∀b o,H b=EQ o->b≠r->H' b=EQ o
inductive tE (a:be) (vs:EA V) (H:Hp) (Q:VK) (_E:XK):Prop
 |mk (r dr q:EJ) (_:vs=[.ref r, .ref q]) (_:H r=EQ (.ins a.FX dr [])) (_: ∀(H':Hp) (kd fn ds bl:EJ),aax a H H' r dr q kd fn ds bl->Q .HZ H'):tE a vs H Q _E
theorem bJ {H:Hp}{a p:EJ}(h:aF H a o p=Fa):p≠a/\H p=Fa:=by
 by_cases e:p=a
 ·rw[e,ae] at h;cases h
 ·rw[ac e] at h;exact#[e,h]
theorem nW (T:aU K mg a) (kF:CU P w K a.GC dn):T.Y8.U P w mg base 1 (tE a):=by
 refine T.Y8.F.ok af6 [03] [02];obtain⟨r,dr,q,rfl,er,hq⟩:=h;refine#[_,(ax (b5 (pv 0) (pv 1) rfl)
   (ax (b5 (pv 0) aj rfl)
   (ax (b5 (pv 0) e9 rfl)
   (ax (b5 (pv 0) (iX uI (by rfl) T.Vz boot_dict (aa (iQ (by rfl) T.Mh) ag)) rfl)
   (ax (b5 (pv 0) e9 rfl)
   (ah (b5 (pv 0) e9 rfl))))))),?_]
 refine#[r,_,dr,_,FS,er,T.Fy,T.K4,(by show 0<1000;decide),?_];refine#[r,_,dr,_,FS,ae,T.Fy,T.JY,(by show 1<1000;decide),?_];intro kd hkd;obtain⟨n1,hkd⟩:=bJ hkd;obtain⟨_,hkd⟩:=bJ hkd;refine#[r,_,dr,_,FS,(by rw[ac n1.symm,ae]),T.Fy,T.JC,(by show 2<1000;decide),?_];refine#[a.GC,dn,FS,kF,λfn TM=>?_];obtain⟨n2,TM⟩:=bJ TM;obtain⟨n2k,TM⟩:=bJ TM;obtain⟨_,TM⟩:=bJ TM;obtain⟨_,TM⟩:=bJ TM;refine#[r,_,dr,_,FS,(by rw[ac n2.symm,ae]),T.Fy,T.HV,(by show 3<1000;decide),?_];intro ds TZ;obtain⟨n3,TZ⟩:=bJ TZ;obtain⟨n3f,TZ⟩:=bJ TZ;obtain⟨_,TZ⟩:=bJ TZ;obtain⟨n3k,TZ⟩:=bJ TZ;obtain⟨_,TZ⟩:=bJ TZ;obtain⟨_,TZ⟩:=bJ TZ;refine#[r,_,dr,_,FS,(by rw[ac n3.symm,ae]),T.Fy,T.Lo,(by show 4<1000;decide),?_];intro bl RA;obtain⟨n4,RA⟩:=bJ RA;obtain⟨n4d,RA⟩:=bJ RA;obtain⟨_,RA⟩:=bJ RA;obtain⟨n4f,RA⟩:=bJ RA;obtain⟨_,RA⟩:=bJ RA;obtain⟨n4k,RA⟩:=bJ RA;obtain⟨_,RA⟩:=bJ RA;obtain⟨_,RA⟩:=bJ RA;refine#[r,_,dr,_,FS,(by rw[ac n4.symm,ae]),T.Fy,T.Jl,(by show 5<1000;decide),?_];refine hq _ kd fn ds bl #[ae,hkd,TM,TZ,RA,?_,?_,?_,?_,#[n2k.symm,n3k.symm,n4k.symm,n3f.symm,n4f.symm,n4d.symm],λb o e nb=>?_]
 ·rw[ac n1,ac n4k.symm,ac n1,ac n3k.symm,ac n1,ac n2k.symm,ac n1,ae]
 ·rw[ac n2,ac n4f.symm,ac n2,ac n3f.symm,ac n2,ae]
 ·rw[ac n3,ac n4d.symm,ac n3,ae]
 ·rw[ac n4,ae]
 ·rw[ac nb,ac (ai e RA),ac nb,ac (ai e TZ),ac nb,ac (ai e TM),ac nb,ac (ai e hkd),ac nb,ac nb]
  exact e
theorem cY {A:Type}{p:A->Prop} : ∀g∈([]:EA A),p g:=λ_ z=>nomatch z
theorem ay {A:Type}{p:A->Prop}{f:A}{fs:EA A}(h:p f) (r: ∀g∈fs,p g): ∀g∈f::fs,p g:=EA.forall_mem_cons.mpr #[h,r]
inductive NB (X:Cx) (c:Fh) (C:EJ) (fs:EA Fh):Prop
 |mk {f:EJ}{fd:FL}(M:Mk X.K C f) (F:bS X.prog X.w X.K X.mg X.base wG 1 f fd ("self"::fs) (kE C fs)) (b:gk X.K fd ("self"::fs) []) (hm:X.mg c=EQ (.ref C)):NB X c C fs
theorem xQ (T:aU X.K X.mg a):NB X "Number" a.La ["worth"]:=#[T.Uj,c8 T.aeg.F afi T.O0 (ay T.MZ cY) (.cons .nil),T.aeg.c.b,T.QM]
theorem Dr (T:aU X.K X.mg a):NB X "Name" a.Nh ["name"]:=#[T.Wz,c8 T.aeh.F afj T.Q3 (ay T.Ou cY) (.cons .nil),T.aeh.c.b,T.Tz]
theorem D6 (T:aU X.K X.mg a):NB X "Call" a.MS ["name","arguments"]:=#[T.WA,c8 T.aei.F afk T.PY (ay T.Ov (ay T.Md cY)) (.cons (.cons .nil)),T.aei.c.b,T.TB]
theorem BF (T:aU X.K X.mg a):NB X "Unary" a.Ke ["sign","operand"]:=#[T.Vr,c8 T.aej.F afl T.Ox (ay T.NV (ay T.MC cY)) (.cons (.cons .nil)),T.aej.c.b,T.RI]
theorem zJ (T:aU X.K X.mg a):NB X "Chain" a.Jj ["strength","operands","signs"]:=#[T.Vs,c8 T.aek.F afm T.ME (ay T.KC (ay T.Me (ay T.Nj cY))) (.cons (.cons (.cons .nil))),T.aek.c.b,T.RJ]
theorem xB (T:aU X.K X.mg a):NB X "Choice" a.JO ["condition","chosen","otherwise"]:=#[T.Uk,c8 T.ael.F afn T.O2 (ay T.LC (ay T.MF (ay T.LD cY))) (.cons (.cons (.cons .nil))),T.ael.c.b,T.QN]
theorem aay (T:aU X.K X.mg a):NB X "Sum" a.Ni ["name","first","last","body"]:=#[T.Zq,c8 T.aem.F afo T.O3 (ay T.Pq (ay T.Oy (ay T.Pu (ay T.Pw cY)))) (.cons (.cons (.cons (.cons .nil)))),T.aem.c.b,T.YL]
theorem aaz (T:aU X.K X.mg a):NB X "Let" a.Lb ["name","exp"]:=#[T.Zr,c8 T.aen.F afp T.Q4 (ay T.Nk (ay T.P8 cY)) (.cons (.cons .nil)),T.aen.c.b,T.SS]
theorem aaA (T:aU X.K X.mg a):NB X "For" a.Mz ["name","first","last","statements"]:=#[T.Zs,c8 T.aeo.F afq T.O4 (ay T.Px (ay T.Oz (ay T.Py (ay T.Mf cY)))) (.cons (.cons (.cons (.cons .nil)))),T.aeo.c.b,T.Vl]
theorem agN (T:aU X.K X.mg a):NB X "If" a.PN ["condition","statements","else_statements"]:=#[T.aeA,c8 T.aep.F afr T.RN (ay T.M0 (ay T.MG (ay T.KR cY))) (.cons (.cons (.cons .nil))),T.aep.c.b,T.Xa]
theorem Ey (T:aU X.K X.mg a):NB X "Step" a.Km ["side","zone","quarter","price","to_price","amount"]:=#[T.WB,c8 T.aeq.F afs T.LJ (ay T.OA (ay T.OB (ay T.M3 (ay T.NW (ay T.K0 (ay T.Nl cY)))))) (.cons (.cons (.cons (.cons (.cons (.cons .nil)))))),T.aeq.c.b,T.TC]
theorem uZ (T:aU X.K X.mg a):NB X "Amounts" a.Kq ["name","exp"]:=#[T.SV,c8 T.aer.F aft T.N6 (ay T.M4 (ay T.Nm cY)) (.cons (.cons .nil)),T.aer.c.b,T.SU]
theorem AG (T:aU X.K X.mg a):NB X "Block" a.Jb ["name","side","zone","price","amounts","under","group"]:=#[T.Vt,c8 T.aes.F afu T.J9 (ay T.NX (ay T.NY (ay T.NZ (ay T.Np (ay T.MH (ay T.Nq (ay T.LS cY))))))) (.cons (.cons (.cons (.cons (.cons (.cons (.cons .nil))))))),T.aes.c.b,T.Vm]
theorem Cv (T:aU X.K X.mg a):NB X "Const" a.LI ["name","exp"]:=#[T.Vu,c8 T.aet.F afv T.P9 (ay T.N0 (ay T.OC cY)) (.cons (.cons .nil)),T.aet.c.b,T.RK]
theorem yY (T:aU X.K X.mg a):NB X "Market" a.JB ["zones","quarters","low","high"]:=#[T.Um,c8 T.aez.F afS T.QO (ay T.Lm (ay T.Kp (ay T.Mr (ay T.KD cY)))) (.cons (.cons (.cons (.cons .nil)))),T.aez.c.b,T.Uh]
theorem qQ (T:aU X.K X.mg a):NB X "StepOrder" a.HI ["desk","zone","quarter","side","low","high","amount"]:=#[T.Q8,c8 T.aew.F afy T.Q7 (ay T.OD (ay T.OE (ay T.Nr (ay T.OF (ay T.O5 (ay T.OG (ay T.NJ cY))))))) (.cons (.cons (.cons (.cons (.cons (.cons (.cons .nil))))))),T.aew.c.b,T.Q1]
theorem o5 (T:aU X.K X.mg a):NB X "BlockOrder" a.Ho ["desk","zone","side","price","group","parent","amounts"]:=#[T.QA,c8 T.aex.F afz T.Qz (ay T.N7 (ay T.N8 (ay T.N9 (ay T.NK (ay T.NL (ay T.Nt (ay T.M6 cY))))))) (.cons (.cons (.cons (.cons (.cons (.cons (.cons .nil))))))),T.aex.c.b,T.Qy]
theorem aaB (T:aU X.K X.mg a):NB X "Fun" a.NS ["name","parameters","exp"]:=#[T.Zu,c8 T.aeu.F afw T.Qa (ay T.Pz (ay T.Mg (ay T.Qb cY))) (.cons (.cons (.cons .nil))),T.aeu.c.b,T.Vn]
theorem Dk (T:aU X.K X.mg a):NB X "Desk" a.MT ["name","statements"]:=#[T.WC,c8 T.aev.F afx T.Q5 (ay T.Q6 (ay T.LU cY)) (.cons (.cons .nil)),T.aev.c.b,T.TF]
inductive bD (M:EJ->Prop) (H:Hp) (C:EJ) (fs:EA (Fh×V)) (v:V):Prop
 |mk (p dx:EJ) (_:v= .ref p) (_: ¬M p) (_:H p=EQ (.ins C dx fs)):bD M H C fs v
inductive b4 (M:EJ->Prop) (H:Hp) (xs:EA V) (v:V):Prop
 |mk (p:EJ) (_:v= .ref p) (_: ¬M p) (_:H p=EQ (.lst xs)):b4 M H xs v
def db (M:EJ->Prop) (H H':Hp):Prop:= ∀b o,H b=EQ o-> ¬M b->H' b=EQ o
def fz (M M':EJ->Prop) (H H':Hp):Prop:= ∀b o,H b=EQ o-> ¬M b-> ¬M' b/\H' b=EQ o
theorem db.two {M:EJ->Prop}{H H':Hp}(k:db M H H'):fz M M H H':=λb o e m=>#[m,k b o e m]
def Nd (o:HO):Prop:=(∃xs,o= .lst xs)\/ ∃C d fs,o= .ins C d fs/\fs.length≠5
def kU (M M':EJ->Prop) (H H':Hp):Prop:= ∀b o,H b=EQ o-> ¬M b->Nd o-> ¬M' b/\H' b=EQ o
theorem fz.three {M M':EJ->Prop}{H H':Hp}(k:fz M M' H H'):kU M M' H H':=λb o e m _=>k b o e m
theorem bD.Hb {M M':EJ->Prop}{H H':Hp}(k:kU M M' H H') (h:bD M H C fs v) (hl:fs.length≠5:=by intro z;cases z):bD M' H' C fs v:=by
 obtain⟨p,dx,e,m,z⟩:=h;have:=k _ _ z m (.inr #[_,_,_,FS,hl]);exact#[p,dx,e,this.1,this.2]
theorem b4.Hb {M M':EJ->Prop}{H H':Hp}(k:kU M M' H H') (h:b4 M H xs v):b4 M' H' xs v:=by
 obtain⟨p,e,m,z⟩:=h;have:=k _ _ z m (.inl #[_,FS]);exact#[p,e,this.1,this.2]
theorem bD.keep {M M':EJ->Prop}{H H':Hp}(k:fz M M' H H') (h:bD M H C fs v):bD M' H' C fs v:=by
 obtain⟨p,dx,e,m,z⟩:=h;exact#[p,dx,e,(k _ _ z m).1,(k _ _ z m).2]
theorem b4.keep {M M':EJ->Prop}{H H':Hp}(k:fz M M' H H') (h:b4 M H xs v):b4 M' H' xs v:=by
 obtain⟨p,e,m,z⟩:=h;exact#[p,e,(k _ _ z m).1,(k _ _ z m).2]
mutual
def au (a:be) (M:EJ->Prop) (H:Hp):ER->V->Prop
 | .num n,v=>bD M H a.La [("worth", .int (n:E1))] v
 | .name x,v=>bD M H a.Nh [("name", .str (sb x))] v
 | .call f l,v=> ∃q us,bD M H a.MS [("name", .str (sb f)),("arguments",q)] v/\b4 M H us q/\cu a M H l us
 | .neg e,v=> ∃u,bD M H a.Ke [("sign", .str "-"),("operand",u)] v/\au a M H e u
 | .not e,v=> ∃u,bD M H a.Ke [("sign", .str "!"),("operand",u)] v/\au a M H e u
 | .sums e r,v=> ∃q g u us ss,bD M H a.Jj [("strength", .int 3),("operands",q),("signs",g)] v/\b4 M H (u::us) q/\b4 M H ss g/\au a M H e u/\dE a M H r us ss
 | .prods e r,v=> ∃q g u us ss,bD M H a.Jj [("strength", .int 4),("operands",q),("signs",g)] v/\b4 M H (u::us) q/\b4 M H ss g/\au a M H e u/\dE a M H r us ss
 | .cmp op x y,v=> ∃q g u1 u2,bD M H a.Jj [("strength", .int 2),("operands",q),("signs",g)] v/\b4 M H [u1,u2] q/\b4 M H [.str (dI op)] g/\au a M H x u1/\au a M H y u2
 | .both e l,v=> ∃q g u us,bD M H a.Jj [("strength", .int 1),("operands",q),("signs",g)] v/\b4 M H (u::us) q/\b4 M H (us.map λ_=> .str "&&") g/\au a M H e u/\cu a M H l us
 | .either e l,v=> ∃q g u us,bD M H a.Jj [("strength", .int 0),("operands",q),("signs",g)] v/\b4 M H (u::us) q/\b4 M H (us.map λ_=> .str "||") g/\au a M H e u/\cu a M H l us
 | .pick c x y,v=> ∃u1 u2 u3,bD M H a.JO [("condition",u1),("chosen",u2),("otherwise",u3)] v/\au a M H c u1/\au a M H x u2/\au a M H y u3
 | .sum x lo hi e,v=> ∃u1 u2 u3,bD M H a.Ni [("name", .str (sb x)),("first",u1),("last",u2),("body",u3)] v/\au a M H lo u1/\au a M H hi u2/\au a M H e u3
def cu (a:be) (M:EJ->Prop) (H:Hp):Jw->EA V->Prop
 | .nil,us=>us=[]
 | .cons e l,us=> ∃u vs,us=u::vs/\au a M H e u/\cu a M H l vs
def dE (a:be) (M:EJ->Prop) (H:Hp):PM->EA V->EA V->Prop
 | .nil,us,ss=>us=[]/\ss=[]
 | .cons op e r,us,ss=> ∃u vs ts,us=u::vs/\ss= .str (dI op)::ts/\au a M H e u/\dE a M H r vs ts
end
section
variable {M M':EJ->Prop}{H H':Hp}
mutual
theorem au.Hb (k:kU M M' H H'): ∀(e:ER) {v:V},au a M H e v->au a M' H' e v
 | .num n,v,h=>by unfold au at h ⊢; exact h.Hb k
 | .name x,v,h=>by unfold au at h ⊢; exact h.Hb k
 | .call f l,v,h=>by
  unfold au at h ⊢;obtain⟨q,us,h1,h2,h3⟩:=h;exact#[q,us,h1.Hb k,h2.Hb k,cu.Hb k l h3]
 | .neg e,v,h=>by
  unfold au at h ⊢;obtain⟨u,h1,h2⟩:=h;exact#[u,h1.Hb k,au.Hb k e h2]
 | .not e,v,h=>by
  unfold au at h ⊢;obtain⟨u,h1,h2⟩:=h;exact#[u,h1.Hb k,au.Hb k e h2]
 | .sums e r,v,h=>by
  unfold au at h ⊢;obtain⟨q,g,u,us,ss,h1,h2,h3,h4,h5⟩:=h;exact#[q,g,u,us,ss,h1.Hb k,h2.Hb k,h3.Hb k,au.Hb k e h4,dE.Hb k r h5]
 | .prods e r,v,h=>by
  unfold au at h ⊢;obtain⟨q,g,u,us,ss,h1,h2,h3,h4,h5⟩:=h;exact#[q,g,u,us,ss,h1.Hb k,h2.Hb k,h3.Hb k,au.Hb k e h4,dE.Hb k r h5]
 | .cmp op x y,v,h=>by
  unfold au at h ⊢;obtain⟨q,g,u1,u2,h1,h2,h3,h4,h5⟩:=h;exact#[q,g,u1,u2,h1.Hb k,h2.Hb k,h3.Hb k,au.Hb k x h4,au.Hb k y h5]
 | .both e l,v,h=>by
  unfold au at h ⊢;obtain⟨q,g,u,us,h1,h2,h3,h4,h5⟩:=h;exact#[q,g,u,us,h1.Hb k,h2.Hb k,h3.Hb k,au.Hb k e h4,cu.Hb k l h5]
 | .either e l,v,h=>by
  unfold au at h ⊢;obtain⟨q,g,u,us,h1,h2,h3,h4,h5⟩:=h;exact#[q,g,u,us,h1.Hb k,h2.Hb k,h3.Hb k,au.Hb k e h4,cu.Hb k l h5]
 | .pick c x y,v,h=>by
  unfold au at h ⊢;obtain⟨u1,u2,u3,h1,h2,h3,h4⟩:=h;exact#[u1,u2,u3,h1.Hb k,au.Hb k c h2,au.Hb k x h3,au.Hb k y h4]
 | .sum x lo hi e,v,h=>by
  unfold au at h ⊢;obtain⟨u1,u2,u3,h1,h2,h3,h4⟩:=h;exact#[u1,u2,u3,h1.Hb k,au.Hb k lo h2,au.Hb k hi h3,au.Hb k e h4]
theorem cu.Hb (k:kU M M' H H'): ∀(l:Jw) {us:EA V},cu a M H l us->cu a M' H' l us
 | .nil,us,h=>by unfold cu at h ⊢; exact h
 | .cons e l,us,h=>by
  unfold cu at h ⊢;obtain⟨u,vs,h1,h2,h3⟩:=h;exact#[u,vs,h1,au.Hb k e h2,cu.Hb k l h3]
theorem dE.Hb (k:kU M M' H H'): ∀(r:PM) {us ss:EA V},dE a M H r us ss->dE a M' H' r us ss
 | .nil,us,ss,h=>by unfold dE at h ⊢; exact h
 | .cons op e r,us,ss,h=>by
  unfold dE at h ⊢;obtain⟨u,vs,ts,h1,h2,h3,h4⟩:=h;exact#[u,vs,ts,h1,h2,au.Hb k e h3,dE.Hb k r h4]
end
theorem au.Hj (k:fz M M' H H') (e:ER) (h:au a M H e v):au a M' H' e v:=au.Hb k.three e h
end
inductive tK (a:be) (vs:EA V) (H:Hp) (Q:VK) (E:XK):Prop
 |mk (r q kd fn ds bl:EJ) (n:E1) (x:F5×FT) (t:EG) (d:E1) (_:vs=[.ref r, .int d]) (_:mw a H r q kd fn ds bl n (x::t)) (_:(d=12->nX a.Hd E H (if x.1= .bad then 1 else 6) x.2)) (_:(d≠12->Q (.int ((d+1:E1):Int)) H)):tK a vs H Q E
inductive tz (a:be) (vs:EA V) (H:Hp) (Q:VK) (E:XK):Prop
 |mk (r q kd fn ds bl:EJ) (n:E1) (x:F5×FT) (t:EG) (v:Fh) (_:vs=[.ref r, .str v]) (_:mw a H r q kd fn ds bl n (x::t)) (_:(x.1= .bad->nX a.Hd E H 1 x.2)) (_:(x.1≠ .bad->lU v x.1=FB->nX a.Hd E H 5 x.2)) (_:(x.1≠ .bad->lU v x.1=FM->Q .HZ H)):tz a vs H Q E
theorem akU (T:aU K mg a) (XC:XT K a):T.d_f.O P w base 6 (tK a):=by
 have Us:=fE (P:=P) (w:=w) (base:=base) T XC;refine fP T.d_f.F akA [03] [02];obtain⟨r,q,kd,fn,ds,bl,n,x,t,d,rfl,R,hf,hg⟩:=h;obtain⟨dr,er⟩:=R.ins;refine#[_,(ax (cy (a7 b7 (pv 1) (aR (by rfl) T.QF) (aM _)) (ah (bi (cx (pv 0) T.Fy T.Vq.c Us (hr.mono [01]) aA (aa (aR (by rfl) T.Qg) ag)))) br)
   (ah (aK (ca dU (pv 1) aj)))),?_]
 refine#[FS,_,FS,?_];rw[cn];refine aP (λe=>?_) λe=>?_
 ·have:=Ft e
  exact#[r,dr,_,FS,er,FS,r,q,kd,fn,ds,bl,n,x,t,6,FS,R,hf (by lia)]
 ·have:=Fw e
  exact#[_,_,FS,FS,hg (by lia)]
theorem agO (T:aU K mg a) (XC:XT K a):T.Zi.O P w base 6 (tz a):=by
 have G_p:=mi (P:=P) (w:=w) (base:=base) T XC
 have Us:=fE (P:=P) (w:=w) (base:=base) T XC;refine fP T.Zi.F agp [03] [02];obtain⟨r,q,kd,fn,ds,bl,n,x,t,v,rfl,R,hb,hf,hg⟩:=h;obtain⟨dr,er⟩:=R.ins;refine#[_,(ah (cy (di (cx (pv 0) T.Fy T.d_p.c G_p (hr.mono [01]) aA (aa (pv 1) ag))) (ah (bi (cx (pv 0) T.Fy T.Vq.c Us (hr.mono [01]) aA (aa (aR (by rfl) T.RP) ag)))) br)),?_];refine#[r,dr,_,FS,er,FS,r,q,kd,fn,ds,bl,n,x,t,v,FS,R,hb,λnb=>#[_,FS,aP (λe=>?_) λe=>?_]]
 ·exact#[r,dr,_,FS,er,FS,r,q,kd,fn,ds,bl,n,x,t,5,FS,R,by rw[EI nb];exact hf nb e]
 ·exact hg nb e
def jl (a:be) (M:EJ->Prop) (H:Hp):ET ER->V->Prop
 |none,v=>v= .HZ
 |some e,v=>au a M H e v
def jJ (b:FR):V:= .str (if b=FB then "buy" else "sell")
inductive sZ (a:be) (M:EJ->Prop) (H:Hp) (x:EC×ER) (v:V):Prop
 |mk (u:V) (_:bD M H a.Kq [("name", .str (sb x.1)),("exp",u)] v) (_:au a M H x.2 u):sZ a M H x v
def hU:ET EC->V
 |none=> .HZ
 |some u=> .str (sb u)
mutual
def aZ (a:be) (M:EJ->Prop) (H:Hp):Gv->V->Prop
 | .bind x e,v=> ∃u,bD M H a.Lb [("name", .str (sb x)),("exp",u)] v/\au a M H e u
 | .loop x lo hi l,v=> ∃u1 u2 q us,bD M H a.Mz [("name", .str (sb x)),("first",u1),("last",u2),("statements",q)] v/\au a M H lo u1/\au a M H hi u2/\b4 M H us q/\bw a M H l us
 | .cond c x y,v=> ∃u q us g ws,bD M H a.PN [("condition",u),("statements",q),("else_statements",g)] v/\au a M H c u/\b4 M H us q/\bw a M H x us/\b4 M H ws g/\bw a M H y ws
 | .step b z qu p top am,v=> ∃u1 u2 u3 u4 u5,bD M H a.Km [("side",jJ b),("zone",u1),("quarter",u2),("price",u3),("to_price",u4),("amount",u5)] v/\au a M H z u1/\au a M H qu u2/\au a M H p u3/\jl a M H top u4/\au a M H am u5
 | .block nm b z p x am un g,v=> ∃u1 u2 u3 u4,bD M H a.Jb [("name",hU nm),("side",jJ b),("zone",u1),("price",u2),("amounts",u3),("under",hU un),("group",u4)] v/\au a M H z u1/\au a M H p u2/\sZ a M H (x,am) u3/\jl a M H g u4
def bw (a:be) (M:EJ->Prop) (H:Hp):Ip->EA V->Prop
 | .nil,us=>us=[]
 | .cons s l,us=> ∃u vs,us=u::vs/\aZ a M H s u/\bw a M H l vs
end
section
variable {M M':EJ->Prop}{H H':Hp}
theorem jl.Hj (k:fz M M' H H'): ∀(e:ET ER) {v:V},jl a M H e v->jl a M' H' e v
 |none,v,h=>h
 |some e,v,h=>au.Hj k e h
theorem sZ.Hj (k:fz M M' H H') (h:sZ a M H x v):sZ a M' H' x v:=by
 obtain⟨u,h1,h2⟩:=h;exact#[u,h1.keep k,au.Hj k _ h2]
mutual
theorem aZ.Hj (k:fz M M' H H'): ∀(s:Gv) {v:V},aZ a M H s v->aZ a M' H' s v
 | .bind x e,v,h=>by
  unfold aZ at h ⊢;obtain⟨u,h1,h2⟩:=h;exact#[u,h1.keep k,au.Hj k e h2]
 | .loop x lo hi l,v,h=>by
  unfold aZ at h ⊢;obtain⟨u1,u2,q,us,h1,h2,h3,h4,h5⟩:=h;exact#[u1,u2,q,us,h1.keep k,au.Hj k lo h2,au.Hj k hi h3,h4.keep k,bw.Hj k l h5]
 | .cond c x y,v,h=>by
  unfold aZ at h ⊢;obtain⟨u,q,us,g,ws,h1,h2,h3,h4,h5,h6⟩:=h;exact#[u,q,us,g,ws,h1.keep k,au.Hj k c h2,h3.keep k,bw.Hj k x h4,h5.keep k,bw.Hj k y h6]
 | .step b z qu p top am,v,h=>by
  unfold aZ at h ⊢;obtain⟨u1,u2,u3,u4,u5,h1,h2,h3,h4,h5,h6⟩:=h;exact#[u1,u2,u3,u4,u5,h1.keep k,au.Hj k z h2,au.Hj k qu h3,au.Hj k p h4,jl.Hj k top h5,au.Hj k am h6]
 | .block nm b z p x am un g,v,h=>by
  unfold aZ at h ⊢;obtain⟨u1,u2,u3,u4,h1,h2,h3,h4,h5⟩:=h;exact#[u1,u2,u3,u4,h1.keep k,au.Hj k z h2,au.Hj k p h3,h4.Hj k,jl.Hj k g h5]
theorem bw.Hj (k:fz M M' H H'): ∀(l:Ip) {us:EA V},bw a M H l us->bw a M' H' l us
 | .nil,us,h=>by unfold bw at h ⊢; exact h
 | .cons s l,us,h=>by
  unfold bw at h ⊢;obtain⟨u,vs,h1,h2,h3⟩:=h;exact#[u,vs,h1,aZ.Hj k s h2,bw.Hj k l h3]
end
end
def gI (ps:EA EC):EA V:=ps.map λp=>V.str (sb p)
def fk (a:be) (M:EJ->Prop) (H:Hp):GK->V->Prop
 | .const x e,v=> ∃u,bD M H a.LI [("name", .str (sb x)),("exp",u)] v/\au a M H e u
 | .func x ps e,v=> ∃q u,bD M H a.NS [("name", .str (sb x)),("parameters",q),("exp",u)] v/\b4 M H (gI ps) q/\au a M H e u
 | .desk x l,v=> ∃q us,bD M H a.MT [("name", .str (sb x)),("statements",q)] v/\b4 M H us q/\bw a M H l us
theorem fk.Hj {a:be}{M M':EJ->Prop}{H H':Hp}(k:fz M M' H H'): ∀(x:GK) {v:V},fk a M H x v->fk a M' H' x v
 | .const x e,v,⟨u,h1,h2⟩=>#[u,h1.keep k,au.Hj k e h2]
 | .func x ps e,v,⟨q,u,h1,h2,h3⟩=>#[q,u,h1.keep k,h2.keep k,au.Hj k e h3]
 | .desk x l,v,⟨q,us,h1,h2,h3⟩=>#[q,us,h1.keep k,h2.keep k,bw.Hj k l h3]
inductive Fk where
 |e (x:ER)
 |o (x:ET ER)
 |am (x:EC×ER)
 |st (x:Gv)
 |sts (x:Ip)
 |ps (x:EA EC)
 |top (x:GK)
inductive mt (a:be) (M:EJ->Prop) (H:Hp) (l:Ip) (v:V):Prop
 |mk (us:EA V) (_:b4 M H us v) (_:bw a M H l us):mt a M H l v
def jc (a:be) (M:EJ->Prop) (H:Hp) (x:Fk×V):Prop:=match x.1 with
 | .e e=>au a M H e x.2
 | .o e=>jl a M H e x.2
 | .am e=>sZ a M H e x.2
 | .st e=>aZ a M H e x.2
 | .sts e=>mt a M H e x.2
 | .ps e=>b4 M H (gI e) x.2
 | .top e=>fk a M H e x.2
theorem jc.Hj {a:be}{M M':EJ->Prop}{H H':Hp}(k:fz M M' H H'): ∀ {x:Fk×V},jc a M H x->jc a M' H' x
 | (.e e,v),h=>au.Hj k e h
 | (.o e,v),h=>jl.Hj k e h
 | (.am e,v),h=>sZ.Hj k h
 | (.st e,v),h=>aZ.Hj k e h
 | (.sts e,v),⟨us,h1,h2⟩=>#[us,h1.keep k,bw.Hj k e h2]
 | (.ps e,v),h=>b4.keep k h
 | (.top e,v),h=>fk.Hj k e h
end OS
namespace OS
open Vbemac
abbrev fm:=FJ->ET Int
abbrev dQ:=Exp×EA Int
inductive Mc where
 |go (ts:EA dQ) (sc:EA fm) (n:E1)
 |done (a:Int) (sc:EA fm) (n:E1)
 |err (c:Int)
def eN (ts:EA dQ) (sc:EA fm) (n:E1) (a:Int):Mc:=match ts with
 |[]=> .done a sc n
 | (e,ps)::r=> .go ((e,ps++[a])::r) sc n
def jX (e:Exp) (ts:EA dQ) (sc:EA fm):E1->Mc
 |0=> .err (-13)
 |n+1=> .go ((e,[])::ts) sc n
def lw:Exps->EA Exp
 | .nil=>[]
 | .cons e l=>e::lw l
def CS:Rest->EA Exp
 | .nil=>[]
 | .cons _ e r=>e::CS r
def zu:Rest->EA FJ
 | .nil=>[]
 | .cons op _ r=>op::zu r
def fO (sc:EA fm):fm:=sc.getLastD λ_=>Fa
def look (sc:EA fm) (x:FJ):ET Int:=match sc.headD (λ_=>Fa) x with
 |some a=>EQ a
 |none=>fO sc x
def oO (sc:EA fm) (y:FJ) (a:Int):EA fm:=match sc with
 |[]=>[]
 |s::r=>(λx=>if x=y then EQ a else s x)::r
def uU (ps:EA FJ) (l:EA Int):fm:=λx=>((ps.zip l).find? λa=>a.1 == x).map λa=>a.2
def fL (s:E1) (op:FJ) (a b:Int):Except Int Int:=if s=2 then .ok (truth (compare op a b)) else match arith op a b 0 with
 | .error c=> .error c
 | .ok (v,_)=> .ok v
def jd (s:E1) (a:Int):FR:=if s=1 then a == 0 else a !=0
def nO (s:E1):Int:=if s=1 then 0 else 1
def oP (s:E1) (ops:EA Exp) (e:Exp) (ps:EA Int) (r:EA dQ) (sc:EA fm) (n:E1):ET Mc:=
 if ps.getLast?.any (jd s)=FB then EQ (eN r sc n (nO s)) else match ops[ps.length]? with
 |some o=>EQ (jX o ((e,ps)::r) sc n)
 |none=>EQ (eN r sc n (1-nO s))
def k7 (s:E1) (ops:EA Exp) (sgs:EA FJ) (e:Exp) (ps:EA Int) (r:EA dQ) (sc:EA fm) (n:E1):ET Mc:=
 let k:=ps.length
 let ps':ET (Except Int (EA Int)):=if 1<k then(match sgs[k-2]?,ps[k-2]?,ps[k-1]? with
  |some op,some a,some b=>EQ (match fL s op a b with
   | .error c=> .error c
   | .ok v=> .ok (ps.take (k-1)++[v]))
  |_,_,_=>Fa) else EQ (.ok ps)
 match ps' with
 |none=>Fa
 |some (.error c)=>EQ (.err c)
 |some (.ok ps)=>match ops[ps.length]? with
  |some o=>EQ (jX o ((e,ps)::r) sc n)
  |none=>ps.getLast?.map λa=>eN r sc n a
def gE (e:Exp) (y:FJ) (b:Exp) (p q:Int) (acc:EA Int) (r:EA dQ) (sc:EA fm) (n:E1):ET Mc:=
 let t:=acc.length
 let akV:Except Int (EA Int):=if 1<t then(match checked (acc.getD (t-2) 0+acc.getD (t-1) 0) 0 with
  | .error c=> .error c
  | .ok (v,_)=> .ok (acc.take (t-1)++[v])) else .ok acc
 match akV with
 | .error c=>EQ (.err c)
 | .ok acc=>if p+(t:Int)<=q then(match n with
   |0=>EQ (.err (-13))
   |n+1=>(match sc with
    |[]=>Fa
    |h::tl=>EQ (jX b ((e,p::q::acc)::r) (oO (h::tl) y (p+(t:Int))) n)))
  else EQ (eN r sc n (acc.getLast?.getD 0))
def d9 (F:Funs):Mc->ET Mc
 | .go ((e,ps)::r) sc n=>(match e with
  | .num a=>EQ (eN r sc n (a:E1))
  | .name x=>(look sc x).map (eN r sc n)
  | .call f l=>(match (lw l)[ps.length]? with
   |some o=>EQ (jX o ((e,ps)::r) sc n)
   |none=>match F.find? λg=>g.1 == f with
    |none=>if ps.length=(lw l).length then EQ (eN r sc n (builtIn f ps)) else Fa
    |some g=>if ps.length=(lw l).length then EQ (jX g.2.2 ((e,ps)::r) (uU g.2.1 ps::sc) n) else(match sc with
     |[]=>Fa
     |_::tl=>(ps[(lw l).length]?).map λa=>eN r tl n a))
  | .neg a=>(match ps with
   |[]=>EQ (jX a ((e,ps)::r) sc n)
   |b::_=>EQ (eN r sc n (-b)))
  | .not a=>(match ps with
   |[]=>EQ (jX a ((e,ps)::r) sc n)
   |b::_=>EQ (eN r sc n (truth (b == 0))))
  | .sums a l=>k7 3 (a::CS l) (zu l) e ps r sc n
  | .prods a l=>k7 4 (a::CS l) (zu l) e ps r sc n
  | .cmp op a b=>k7 2 [a,b] [op] e ps r sc n
  | .both a l=>oP 1 (a::lw l) e ps r sc n
  | .either a l=>oP 0 (a::lw l) e ps r sc n
  | .pick c a b=>(match ps with
   |[]=>EQ (jX c ((e,ps)::r) sc n)
   |[p]=>EQ (jX (if p≠0 then a else b) ((e,ps)::r) sc n)
   |[_,v]=>EQ (eN r sc n v)
   |_=>Fa)
  | .sum y lo hi b=>(match ps with
   |[]=>EQ (jX lo ((e,ps)::r) sc n)
   |[_]=>EQ (jX hi ((e,ps)::r) sc n)
   |p::q::acc=>gE e y b p q acc r sc n))
 |_=>Fa
inductive lC (F:Funs) (f:Mc->Prop):Mc->E1->Prop
 |here {m:Mc} :f m->lC F f m 0
 |step {m m':Mc}{j:E1} :d9 F m=EQ m'->lC F f m' j->lC F f m (j+1)
def HE (F:Funs) (f:Mc->Prop) (m:Mc):Prop:= ∃j,lC F f m j
theorem HE.step {f:Mc->Prop}(h:d9 F m=EQ m') (k:HE F f m'):HE F f m:=let ⟨j,k⟩:=k;#[j+1, .step h k]
mutual
def WS:EA FJ->EA (FJ×E1)->Exp->Prop
 |_,_, .num n=>n<1000000000000000000
 |V,_, .name x=>x∈V
 |V,F, .call f l=>(∃p,(F.find? λg=>g.1 == f)=EQ p/\(lw l).length=p.2)/\mH V F l
 |V,F, .neg e=>WS V F e
 |V,F, .not e=>WS V F e
 |V,F, .sums e r=>WS V F e/\(∃op a s,r= .cons op a s)/\vH ["+","-"] V F r
 |V,F, .prods e r=>WS V F e/\(∃op a s,r= .cons op a s)/\vH ["*","/","%"] V F r
 |V,F, .cmp op a b=>op∈(["==","!=","<=",">=","<",">"].map text)/\WS V F a/\WS V F b
 |V,F, .both e l=>WS V F e/\(∃a s,l= .cons a s)/\mH V F l
 |V,F, .either e l=>WS V F e/\(∃a s,l= .cons a s)/\mH V F l
 |V,F, .pick c a b=>WS V F c/\WS V F a/\WS V F b
 |V,F, .sum y lo hi e=>y∉V/\WS V F lo/\WS V F hi/\WS (y::V) F e
def mH:EA FJ->EA (FJ×E1)->Exps->Prop
 |_,_, .nil=>True
 |V,F, .cons e l=>WS V F e/\mH V F l
def vH:EA String->EA FJ->EA (FJ×E1)->Rest->Prop
 |_,_,_, .nil=>True
 |L,V,F, .cons op e r=>op∈L.map text/\WS V F e/\vH L V F r
end
abbrev dC (a:Int):Prop:= -BIG<=a/\a<=BIG
structure Ag (S:Scope) (V:EA FJ) (v:Env) (sc:EA fm):Prop where
 val: ∀x∈V,look sc x=EQ (valueIn v x)
 bot: ∀x∈S.consts.map (·.1),fO sc x=EQ (valueIn S.consts x)
 low:sc.length=1-> ∀x∈S.consts.map (·.1),x∈V
 big: ∀x,dC (valueIn v x)
structure agP (S:Scope) (F:EA (FJ×E1)) (g:FJ×EA FJ×Exp):Prop where
 ws: ∃Kg Fg,WS (g.2.1++Kg) Fg g.2.2/\(∀x∈Kg,x∈S.consts.map (·.1))/\ ∀f p,(Fg.find? λh=>h.1 == f)=EQ p->(F.find? λh=>h.1 == f)=EQ p
 nd:g.2.1.Nodup
 le:g.2.1.length<=6
structure gm (S:Scope) (F:EA (FJ×E1)):Prop where
 all: ∀f p,(F.find? λh=>h.1 == f)=EQ p->(∃g,(S.funs.find? λh=>h.1 == f)=EQ g/\g.2.1.length=p.2/\agP S F g)\/((S.funs.find? λh=>h.1 == f)=Fa/\(BUILT.find? λh=>h.1 == f)=EQ p)
 agQ: ∀x,dC (valueIn S.consts x)
def Sub (G F:EA (FJ×E1)):Prop:= ∀f p,(G.find? λh=>h.1 == f)=EQ p->(F.find? λh=>h.1 == f)=EQ p
section
variable {h:fm}
theorem gW {a:Int} :valueIn ((y,a)::v) x=if x=y then a else valueIn v x:=by
 unfold valueIn;rw[GF];by_cases e:x=y
 ·rw[EL e,e,show(y == y)=FB from Gr y]
  rfl
 ·rw[EI e,show(y == x)=FM from beq_eq_false_iff_ne.mpr λz=>e z.symm]
theorem mK {a:Int} :fO ((λz=>if z=y then EQ a else h z)::tl) x=if x=y/\tl=[] then EQ a else fO (h::tl) x:=by
 cases tl with
 |nil=>
  unfold fO;by_cases e:x=y
  ·rw[EL #[e,FS]];exact EL e
  ·rw[EI λz=>e z.1];exact EI e
 |cons t r=>rw[EI λz=>by cases z.2];rfl
theorem Ag.set (A:Ag S V v (h::tl)) {a:Int}(ny:y∉V) (ba:dC a):Ag S (y::V) ((y,a)::v) (oO (h::tl) y a):=by
 refine#[λx hx=>?_,λx hx=>?_,λl x hx=>EN _ (A.low l x hx),λx=>?_]
 ·rw[gW]
  unfold oO look;by_cases e:x=y
  ·rw[EL e]
   show(match (if x=y then EQ a else h x) with|some a=>EQ a|none=>_)=_
   rw[EL e]
  ·rw[EI e]
   have hv:x∈V:=by
    rcases EW.mp hx with z|z
    ·exact E7 z e
    ·exact z
   have:=A.val x hv;unfold look at this
   show(match (if x=y then EQ a else h x) with|some a=>EQ a|none=>_)=_
   rw[EI e,mK,EI λz=>e z.1];exact this
 ·unfold oO
  rw[mK];by_cases e:x=y/\tl=[]
  ·exact E7 (A.low (by rw[e.2];rfl) x hx) (by rw[e.1];exact ny)
  ·rw[EI e]
   exact A.bot x hx
 ·rw[gW]
  split
  ·exact ba
  ·exact A.big x
theorem Ag.unset {a:Int}(A:Ag S (y::V) ((y,a)::v) (h::tl)) (ny:y∉V) (bg: ∀x,dC (valueIn v x)) (lo:tl=[]-> ∀x∈S.consts.map (·.1),x∈V):Ag S V v (h::tl):=by
 refine#[λx hx=>?_,A.bot,λl=>lo (P1 (QK l)),bg];rw[A.val x (EN _ hx),gW,EI λz=>ny (by rw[<-z];exact hx)]
end
end OS
namespace OS
open Vbemac
theorem bO {a:Int}(h:checked x n= .ok (a,m)):dC a/\m=n/\a=x:=by
 unfold checked at h;split at h
 ·rename_i z
  cases h;exact#[z,FS,FS]
 ·cases h
theorem gA (b:FR):dC (truth b):=by cases b<;>decide
theorem pc {x y a:Int}(h:arith op x y n= .ok (a,m)):dC a/\m=n:=by
 unfold arith at h;split at h
 ·exact#[(bO h).1,(bO h).2.1]
 split at h
 ·exact#[(bO h).1,(bO h).2.1]
 split at h
 ·exact#[(bO h).1,(bO h).2.1]
 split at h
 ·cases h
 split at h
 ·exact#[(bO h).1,(bO h).2.1]
 ·exact#[(bO h).1,(bO h).2.1]
theorem vT {a:Int}(h:dC a):dC (-a):=by unfold dC BIG at *; lia
theorem ph {f:FJ}(h: ∀a∈l,dC a):dC (builtIn f l):=by
 have z:dC 0:=by decide
 have g: ∀i,dC (l.getD i 0):=λi=>by
  rw[HX];cases e:l[i]? with
  |none=>exact z
  |some a=>exact h a (Gs e)
 have g0:=g 0
 have g1:=g 1;unfold builtIn;dsimp only;unfold dC BIG at*;split
 ·lia
 split
 ·lia
 split<;>lia
theorem ly {u v:Env} :valueIn (u++v) x=match u.find? (λa=>a.1 == x) with
  |some a=>a.2
  |none=>valueIn v x:=by
 unfold valueIn;rw[U5];cases u.find? (λa=>a.1 == x)<;>rfl
section
variable {f:Mc->Prop}
def aaC (S:Scope) (f:Mc->Prop) (V:EA FJ) (v:Env) (tl:EA fm) (n:E1) (r:Res Int) (k:Int->EA fm->E1->Mc):Prop:=match r with
 | .error c=>f (.err c)
 | .ok (a,m)=>dC a->m<n-> ∀h,Ag S V v (h::tl)->HE S.funs f (k a (h::tl) m)
def EvP (S:Scope) (F0:EA (FJ×E1)) (f:Mc->Prop) (k:E1):Prop:= ∀V v G e ts h tl n,Ag S V v (h::tl)->WS V G e->Sub G F0->3*n+1<=k->aaC S f V v tl n (ev k S v e n) (λa sc m=>eN ts sc m a)->HE S.funs f (jX e ts (h::tl) n)
theorem ra (h:f (.err c)):HE F f (.err c):=#[0, .here h]
variable {h:fm}
theorem ke {α:Type}{l:EA α}{x:α}{r:EA α}(h:l.drop k=x::r):l[k]?=EQ x/\l.drop (k+1)=r:=by
 constructor
 ·have:=FN (λz:EA α=>z[0]?) h
  simpa using this
 ·have:=FN (EA.drop 1) h
  simpa [NO,J7] using this
theorem pH {α:Type}{l:EA α}(h:l.drop k=[]):l[k]?=Fa:=Ig (by simpa using h)
theorem ww (sb:Sub G F0): ∀(r:Exps) (k n:E1) (ps:EA Int) (h:fm),(∀j,j<k->EvP S F0 f j)->Ag S V v (h::tl)->mH V G r->3*n+2<=k->(lw l).drop ps.length=lw r->(∀a∈ps,dC a)->
  (match evAll k S v r n with
   | .error c=>f (.err c)
   | .ok (as,m)=>(∀a∈ps++as,dC a)->as.length=(lw r).length->m<=n-> ∀h,Ag S V v (h::tl)->HE S.funs f (.go ((.call g l,ps++as)::ts) (h::tl) m))->HE S.funs f (.go ((.call g l,ps)::ts) (h::tl) n)
 |r,0,n,ps,h,_,_,_,hk,_,_,_=>by lia
 | .nil,k+1,n,ps,h,IH,A,w,hk,hd,bp,q=>by
  unfold evAll at q;have:=q (by rw[Gw];exact bp) rfl (E6 _) h A;rw[Gw] at this;exact this
 | .cons e r,k+1,n,ps,h,IH,A,w,hk,hd,bp,q=>by
  unfold mH at w;unfold evAll at q;dsimp only at q;obtain⟨d1,d2⟩:=ke hd;refine HE.step (m':=jX e ((.call g l,ps)::ts) (h::tl) n) (by unfold d9;dsimp only;rw[d1]) (IH k (G6 _) V v G e _ h tl n A w.1 sb (by lia) ?_);cases h1:ev k S v e n with
  |error c=>rw[h1] at q;exact q
  |ok z=>
   obtain⟨a,m1⟩:=z;rw[h1] at q;intro b1 l1 h' A';refine ww sb r k m1 (ps++[a]) h' (λj hj=>IH j (IC hj)) A' w.2 (by lia) (by rw[Fc];exact d2) (λx hx=>?_) ?_
   ·rcases Fp.mp hx with z|z
    ·exact bp x z
    ·rw[Fd.mp z];exact b1
   ·dsimp only at q
    cases h2:evAll k S v r m1 with
    |error c=>rw[h2] at q;exact q
    |ok z=>
     obtain⟨bs,m2⟩:=z;rw[h2] at q;dsimp only at q ⊢;intro b2 q2 l2 h2 A2;rw[F4] at b2 ⊢;exact q b2 (by show bs.length+1=(lw r).length+1;rw[q2]) (by lia) h2 A2
def qN (ops:EA Exp) (e:Exp) (ps:EA Int) (r:EA dQ) (sc:EA fm) (n:E1):ET Mc:=match ops[ps.length]? with
 |some o=>EQ (jX o ((e,ps)::r) sc n)
 |none=>ps.getLast?.map λa=>eN r sc n a
theorem m8 (h:ps.length<=1):k7 s ops sgs e ps ts sc n=qN ops e ps ts sc n:=by
 unfold k7;dsimp only;rw[EI (by lia)]
 rfl
theorem rA {a b:Int}(h:sgs[qs.length]?=EQ op):k7 s ops sgs e (qs++[a,b]) ts sc n=match fL s op a b with
  | .error c=>EQ (.err c)
  | .ok v=>qN ops e (qs++[a,v]) ts sc n:=by
 have l:(qs++[a,b]).length=qs.length+2:=by simp
 unfold k7;dsimp only;rw[l,EL (by lia),Ml,h,show(qs++[a,b])[qs.length]?=EQ a by simp,show qs.length+2-1=qs.length+1 from rfl,show(qs++[a,b])[qs.length+1]?=EQ b by simp];dsimp only;rw[show(qs++[a,b]).take (qs.length+1)=qs++[a] by rw[PV,II (KH _)];simp];cases fL s op a b with
 |error c=>rfl
 |ok v=>dsimp only;rw[F4];rfl
theorem mX (hs:s≠2) {a b:Int} :arith op a b n=match fL s op a b with
  | .error c=> .error c
  | .ok d=> .ok (d,n):=by
 have ck: ∀x:Int,checked x n=match checked x 0 with
   | .error c=> .error c
   | .ok (d,_)=> .ok (d,n):=λx=>by unfold checked;split<;>rfl
 have go:arith op a b n=match arith op a b 0 with
   | .error c=> .error c
   | .ok (d,_)=> .ok (d,n):=by
  unfold arith;split
  ·exact ck _
  split
  ·exact ck _
  split
  ·exact ck _
  split
  ·rfl
  split
  ·exact ck _
  ·exact ck _
 rw[go];unfold fL;rw[EI hs];cases arith op a b 0<;>rfl
theorem n8 (hs:s≠2) (hm: ∀ps ts sc n,d9 S.funs (.go ((e,ps)::ts) sc n)=k7 s ops sgs e ps ts sc n) (sb:Sub G F0): ∀(r:Rest) (k n:E1) (qs:EA Int) (x:Int) (h:fm),(∀j,j<k->EvP S F0 f j)->Ag S V v (h::tl)->vH L V G r->3*n+2<=k->dC x->
  ops.drop (qs.length+1)=CS r->sgs.drop qs.length=zu r->(match Vh k S v x r n with
   | .error c=>f (.err c)
   | .ok (a,m)=>dC a->m<=n-> ∀h,Ag S V v (h::tl)->HE S.funs f (eN ts (h::tl) m a))-> ∃m,qN ops e (qs++[x]) ts (h::tl) n=EQ m/\HE S.funs f m
 |r,0,n,qs,x,h,_,_,_,hk,_,_,_,_=>by lia
 | .nil,k+1,n,qs,x,h,IH,A,w,hk,bx,hd,hg,q=>by
  unfold Vh at q;refine#[_,?_,q bx (E6 _) h A];unfold qN;rw[Fc,show qs.length+[x].length=qs.length+1 from rfl,pH hd];simp
 | .cons op o r,k+1,n,qs,x,h,IH,A,w,hk,bx,hd,hg,q=>by
  unfold vH at w;unfold Vh at q;dsimp only at q;obtain⟨d1,d2⟩:=ke hd;obtain⟨g1,g2⟩:=ke hg;refine#[jX o ((e,qs++[x])::ts) (h::tl) n,by unfold qN;rw[Fc,show qs.length+[x].length=qs.length+1 from rfl,d1],IH k (G6 _) V v G o _ h tl n A w.2.1 sb (by lia) ?_];cases h1:ev k S v o n with
  |error c=>rw[h1] at q;exact q
  |ok z=>
   obtain⟨b,m1⟩:=z;rw[h1] at q;intro b1 l1 h' A';dsimp only at q;rw[mX hs] at q;have st: ∀m,(match fL s op x b with
     | .error c=>EQ (.err c)
     | .ok d=>qN ops e (qs++[x,d]) ts (h'::tl) m1)=EQ m->HE S.funs f m->HE S.funs f (eN ((e,qs++[x])::ts) (h'::tl) m1 b):=λm O9 hq=>by
    refine HE.step (m':=m) ?_ hq;show d9 S.funs (.go ((e,(qs++[x])++[b])::ts) (h'::tl) m1)=EQ m;rw[hm,F4];exact(rA g1).trans O9
   cases h2:fL s op x b with
   |error c=>
    rw[h2] at q st;exact st _ rfl (ra q)
   |ok d=>
    rw[h2] at q st;dsimp only at q st;have bd:dC d:=by
     have z:=mX hs (op:=op) (a:=x) (b:=b) (n:=0);rw[h2] at z;exact(pc z).1
    obtain⟨m,e1,e2⟩:=n8 hs hm sb r k m1 (qs++[x]) d h' (λj hj=>IH j (IC hj)) A' w.2.2 (by lia) bd (by rw[Fc];exact d2) (by rw[Fc];exact g2) (by
     cases h3:Vh k S v d r m1 with
     |error c=>rw[h3] at q;exact q
     |ok z=>
      rw[h3] at q;intro y1 y2;exact q y1 (by lia))
    rw[F4] at e1;exact st m e1 e2
def evD (s:E1) (k:E1) (S:Scope) (v:Env) (l:Exps) (n:E1):Res Int:=if s=1 then Ys k S v l n else SN k S v l n
theorem DJ:evD s (k+1) S v .nil n= .ok (1-nO s,n):=by
 unfold evD nO;split
 ·unfold Ys;rfl
 ·unfold SN;rfl
theorem ox:evD s (k+1) S v (.cons e r) n=match ev k S v e n with
  | .error c=> .error c
  | .ok (a,m)=>if jd s a=FB then .ok (nO s,m) else evD s k S v r m:=by
 unfold evD nO jd;split
 ·rw[Ys]
  cases ev k S v e n with
  |error c=>rfl
  |ok z=>dsimp only;simp only[beq_iff_eq]
 ·rw[SN]
  cases ev k S v e n with
  |error c=>rfl
  |ok z=>dsimp only;simp only[bne_iff_ne]
theorem mj (s:E1):dC (nO s)/\dC (1-nO s):=by unfold nO;split<;>decide
theorem qF (hm: ∀ps ts sc n,d9 S.funs (.go ((e,ps)::ts) sc n)=oP s ops e ps ts sc n) (sb:Sub G F0): ∀(l:Exps) (k n:E1) (ps:EA Int) (h:fm),(∀j,j<k->EvP S F0 f j)->Ag S V v (h::tl)->mH V G l->3*n+2<=k->
  ops.drop ps.length=lw l-> ¬ps.getLast?.any (jd s)=FB->(match evD s k S v l n with
   | .error c=>f (.err c)
   | .ok (a,m)=>dC a->m<=n-> ∀h,Ag S V v (h::tl)->HE S.funs f (eN ts (h::tl) m a))->HE S.funs f (.go ((e,ps)::ts) (h::tl) n)
 |l,0,n,ps,h,_,_,_,hk,_,_,_=>by lia
 | .nil,k+1,n,ps,h,IH,A,w,hk,hd,hp,q=>by
  rw[DJ] at q;exact HE.step (by rw[hm];unfold oP;rw[EI hp,pH hd]) (q (mj s).2 (E6 _) h A)
 | .cons o r,k+1,n,ps,h,IH,A,w,hk,hd,hp,q=>by
  unfold mH at w;rw[ox] at q;obtain⟨d1,d2⟩:=ke hd;refine HE.step (by rw[hm];unfold oP;rw[EI hp,d1]) (IH k (G6 _) V v G o _ h tl n A w.1 sb (by lia) ?_);cases h1:ev k S v o n with
  |error c=>rw[h1] at q;exact q
  |ok z=>
   obtain⟨a,m1⟩:=z;rw[h1] at q;intro b1 l1 h' A';dsimp only at q;by_cases ha:jd s a=FB
   ·rw[EL ha] at q
    exact HE.step (by show d9 S.funs (.go ((e,ps++[a])::ts) _ _)=_;rw[hm];unfold oP;rw[EL (by simp [ha])]) (q (mj s).1 (by lia) h' A')
   ·rw[EI ha] at q
    refine qF hm sb r k m1 (ps++[a]) h' (λj hj=>IH j (IC hj)) A' w.2 (by lia) (by rw[Fc];exact d2) (by simp [ha]) ?_;cases h3:evD s k S v r m1 with
    |error c=>rw[h3] at q;exact q
    |ok z=>
     rw[h3] at q;intro y1 y2;exact q y1 (by lia)
def C6 (e:Exp) (y:FJ) (b:Exp) (p q:Int) (acc:EA Int) (r:EA dQ) (sc:EA fm) (n:E1):Mc:=if p+(acc.length:Int)<=q then(match n with
   |0=> .err (-13)
   |n+1=>jX b ((e,p::q::acc)::r) (oO sc y (p+(acc.length:Int))) n)
  else eN r sc n (acc.getLast?.getD 0)
theorem pC (h':acc.length<=1):gE e y b p q acc ts (h::tl) n=EQ (C6 e y b p q acc ts (h::tl) n):=by
 unfold gE C6;dsimp only;rw[EI (by lia)];dsimp only;split
 ·cases n<;>rfl
 ·rfl
theorem xH:gE e y b p q (acc++[x,z]) ts (h::tl) n=EQ (match checked (x+z) 0 with
  | .error c=> .err c
  | .ok (d,_)=>C6 e y b p q (acc++[x,d]) ts (h::tl) n):=by
 have l: ∀d,(acc++[x,d]).length=acc.length+2:=λd=>by simp
 unfold gE C6;dsimp only;rw[l,EL (by lia),Ml,show(acc++[x,z]).getD acc.length 0=x by simp [HX],show acc.length+2-1=acc.length+1 from rfl,show(acc++[x,z]).getD (acc.length+1) 0=z by simp [HX],
  show(acc++[x,z]).take (acc.length+1)=acc++[x] by rw[PV,II (KH _)];simp]
 cases checked (x+z) 0 with
 |error c=>rfl
 |ok d=>
  obtain⟨d,_⟩:=d;dsimp only;rw[l,F4];split
  ·cases n<;>rfl
  ·rfl
theorem uz:checked x n=match checked x 0 with
  | .error c=> .error c
  | .ok (d,_)=> .ok (d,n):=by unfold checked;split<;>rfl
theorem wJ (sb:Sub G F0) (ny:y∉V) (bp:dC p) (bq:dC q) (w:WS (y::V) G b): ∀(k n:E1) (acc:EA Int) (x:Int) (h:fm),(∀j,j<k->EvP S F0 f j)->Ag S V v (h::tl)->3*n+2<=k->dC x->(acc=[]/\x=0\/ ∃qs,acc=qs++[x])->
  (match evSum k S v y (p+(acc.length:Int)) q b x n with
   | .error c=>f (.err c)
   | .ok (a,m)=>dC a->m<=n-> ∀h,Ag S V v (h::tl)->HE S.funs f (eN ts (h::tl) m a))->HE S.funs f (C6 (.sum y lo hi b) y b p q acc ts (h::tl) n)
 |0,n,acc,x,h,_,_,hk,_,_,_=>by lia
 |k+1,n,acc,x,h,IH,A,hk,bx,ha,r=>by
  unfold evSum at r;unfold C6;have lx:acc.getLast?.getD 0=x:=by
   rcases ha with⟨e1,e2⟩|⟨qs,e⟩
   ·rw[e1,e2];rfl
   ·rw[e];simp
  by_cases hq:p+(acc.length:Int)<=q
  ·rw[EL hq]
   rw[EI (by lia)] at r;cases n with
   |zero=>exact ra r
   |succ n=>
    dsimp only at r ⊢;have bpt:dC (p+(acc.length:Int)):=by unfold dC at *; lia
    refine IH k (G6 _) (y::V) _ G b _ _ tl n (A.set ny bpt) w sb (by lia) ?_;cases h1:ev k S ((y,p+(acc.length:Int))::v) b n with
    |error c=>rw[h1] at r;exact r
    |ok z=>
     obtain⟨z,m1⟩:=z;rw[h1] at r;intro b1 l1 h' A0;have A':Ag S V v (h'::tl):=A0.unset ny A.big λe=>A.low (by rw[e];rfl);dsimp only at r;rw[uz] at r;have go: ∀(as:EA Int) (d:Int) (hd:dC d) (hl: ∃qs,as=qs++[d]) (hn:as.length=acc.length+1),(match evSum k S v y (p+(acc.length:Int)+1) q b d m1 with
       | .error c=>f (.err c)
       | .ok (a,m)=>dC a->m<=n+1-> ∀h,Ag S V v (h::tl)->HE S.funs f (eN ts (h::tl) m a))->HE S.funs f (C6 (.sum y lo hi b) y b p q as ts (h'::tl) m1):=λas d hd hl hn r=>by
      refine wJ sb ny bp bq w k m1 as d h' (λj hj=>IH j (IC hj)) A' (by lia) hd (.inr hl) ?_;rw[show p+(as.length:Int)=p+(acc.length:Int)+1 by rw[hn];lia];cases h3:evSum k S v y (p+(acc.length:Int)+1) q b d m1 with
      |error c=>rw[h3] at r;exact r
      |ok z=>
       rw[h3] at r;intro y1 y2;exact r y1 (by lia)
     show HE S.funs f (.go ((.sum y lo hi b,p::q::(acc++[z]))::ts) (h'::tl) m1)
     rcases ha with⟨e1,e2⟩|⟨qs,e⟩
     ·subst e1 e2
      have cz:checked (0+z) 0= .ok (z,0):=by unfold checked;rw[Int.zero_add];exact EL b1
      rw[cz] at r;exact HE.step (m':=C6 (.sum y lo hi b) y b p q [z] ts (h'::tl) m1) (pC (acc:=[z]) (E6 1)) (go [z] z b1 #[[],FS] rfl r)
     ·subst e
      have st: ∀m,gE (.sum y lo hi b) y b p q (qs++[x,z]) ts (h'::tl) m1=EQ m->HE S.funs f m->HE S.funs f (.go ((.sum y lo hi b,p::q::((qs++[x])++[z]))::ts) (h'::tl) m1):=λm e hm=>HE.step (m':=m) (by rw[F4];exact e) hm
      refine st _ xH ?_;cases h2:checked (x+z) 0 with
      |error c=>rw[h2] at r;exact ra r
      |ok d=>
       obtain⟨d,o⟩:=d;rw[h2] at r;exact go _ d (bO h2).1 #[qs++[x],by rw[F4];rfl] (by simp) r
  ·rw[EI hq,lx]
   rw[EL (by lia)] at r;exact r bx (E6 _) h A
theorem aaD (FO:gm S F0): ∀k,EvP S F0 f k:=by
 intro k
 induction k using E1.strongRecOn with
 |_ k IH=>
  intro V v G e ts h tl n A w sb hk q;cases k with
  |zero=>lia
  |succ k=>
   cases n with
   |zero=>unfold ev at q;exact ra q
   |succ n=>
    have IH': ∀j,j<k->EvP S F0 f j:=λj hj=>IH j (IC hj)
    have Ik:EvP S F0 f k:=IH k (G6 _)
    show HE S.funs f (.go ((e,[])::ts) (h::tl) n)
    unfold ev at q;unfold aaC at q;cases e with
    |num x=>
     unfold WS at w;exact HE.step rfl (q (by unfold dC BIG;lia) (G6 _) h A)
    |name x=>
     exact HE.step (by unfold d9;dsimp only;rw[A.val x w];rfl) (q (A.big x) (G6 _) h A)
    |call g l=>
     dsimp only at q;unfold WS at w;obtain⟨⟨p,hp,hl⟩,wl⟩:=w;refine ww sb l k n [] h IH' A wl (by lia) rfl (λ_ z=>nomatch z) ?_
     cases h1:evAll k S v l n with
     |error c=>rw[h1] at q;exact q
     |ok z=>
      obtain⟨as,m1⟩:=z;rw[h1] at q;dsimp only at q ⊢;intro b1 q1 l1 h' A';rw[EA.nil_append] at b1 ⊢;have no:(lw l)[as.length]?=Fa:=Ig (JG q1.symm);rcases FO.all g p (sb g p hp) with⟨fu,hg,hn,⟨Kg,Fg,wg,sg,sf⟩,_,_⟩|⟨hg,hb⟩
      ·rw[hg] at q
       dsimp only at q;have la:fu.2.1.length=as.length:=by rw[hn,<-hl,q1]
       refine HE.step (by unfold d9;dsimp only;rw[no,hg];dsimp only;rw[EL q1]) (Ik (fu.2.1++Kg) (fu.2.1.zip as++S.consts) Fg fu.2.2 _ _ (h'::tl) m1 ?_ wg sf (by lia) ?_)
       ·have zf: ∀x,uU fu.2.1 as x=((fu.2.1.zip as).find? λa=>a.1 == x).map (·.2):=λ_=>rfl
        refine#[λx hx=>?_,λx hx=>A'.bot x hx,λz=>?_,λx=>?_]
        ·show(match uU fu.2.1 as x with|some a=>EQ a|none=>fO (h'::tl) x)=_
         rw[zf,ly];cases z:(fu.2.1.zip as).find? λa=>a.1 == x with
         |some a=>rfl
         |none=>
          refine A'.bot x ?_;rcases Fp.mp hx with hx|hx
          ·exfalso
           obtain⟨i,hi,ei⟩:=EA.getElem_of_mem hx;have hz:=OO.mp z (fu.2.1[i],as[i]'(by lia)) (EA.mem_iff_getElem.mpr #[i,by rw[V8];lia,by simp]);exact hz (by simp [ei])
          ·exact sg x hx
        ·have:(h'::tl).length+1=1:=z
         rw[EZ] at this;lia
        ·rw[ly]
         split
         ·rename_i a ha
          exact b1 _ (Kt (J3 ha)).2
         ·exact FO.agQ x
       ·cases h2:ev k S (fu.2.1.zip as++S.consts) fu.2.2 m1 with
        |error c=>rw[h2] at q;exact q
        |ok z=>
         obtain⟨b,m2⟩:=z;rw[h2] at q;intro b2 l2 h2 A2;have no2:(lw l)[(as++[b]).length]?=Fa:=Ig (by rw[Fc,q1];exact Ju _ _);refine HE.step (m':=eN ts (h'::tl) m2 b) ?_ (q b2 (by lia) h' A');show d9 S.funs (.go ((.call g l,as++[b])::ts) _ _)=_;unfold d9;dsimp only;rw[no2,hg];dsimp only;rw[EI (by rw[Fc,q1];exact E1.succ_ne_self _),<-q1,EA.getElem?_concat_length]
         rfl
      ·rw[hg] at q
       exact HE.step (by unfold d9;dsimp only;rw[no,hg];dsimp only;rw[EL q1]) (q (ph b1) (by lia) h' A')
    |neg e=>
     dsimp only at q;unfold WS at w;refine HE.step rfl (Ik V v G e _ h tl n A w sb (by lia) ?_);cases h1:ev k S v e n with
     |error c=>rw[h1] at q;exact q
     |ok z=>
      rw[h1] at q;intro b1 l1 h' A';exact HE.step rfl (q (vT b1) (by lia) h' A')
    |not e=>
     dsimp only at q;unfold WS at w;refine HE.step rfl (Ik V v G e _ h tl n A w sb (by lia) ?_);cases h1:ev k S v e n with
     |error c=>rw[h1] at q;exact q
     |ok z=>
      rw[h1] at q;intro b1 l1 h' A';exact HE.step rfl (q (gA _) (by lia) h' A')
    |sums e r=>
     dsimp only at q;unfold WS at w;refine HE.step rfl (Ik V v G e _ h tl n A w.1 sb (by lia) ?_);cases h1:ev k S v e n with
     |error c=>rw[h1] at q;exact q
     |ok z=>
      obtain⟨x,m1⟩:=z;rw[h1] at q;intro b1 l1 h' A';obtain⟨m,e1,e2⟩:=n8 (s:=3) (e:= .sums e r) (ops:=e::CS r) (sgs:=zu r) [01] (λ_ _ _ _=>rfl) sb r k m1 [] x h' IH' A' w.2.2 (by lia) b1 rfl rfl (by
       dsimp only at q;cases h3:Vh k S v x r m1 with
       |error c=>rw[h3] at q;exact q
       |ok z=>rw[h3] at q;intro y1 y2;exact q y1 (by lia))
      exact HE.step ((m8 (s:=3) (sgs:=zu r) (ps:=[x]) (E6 1)).trans e1) e2
    |prods e r=>
     dsimp only at q;unfold WS at w;refine HE.step rfl (Ik V v G e _ h tl n A w.1 sb (by lia) ?_);cases h1:ev k S v e n with
     |error c=>rw[h1] at q;exact q
     |ok z=>
      obtain⟨x,m1⟩:=z;rw[h1] at q;intro b1 l1 h' A';obtain⟨m,e1,e2⟩:=n8 (s:=4) (e:= .prods e r) (ops:=e::CS r) (sgs:=zu r) [01] (λ_ _ _ _=>rfl) sb r k m1 [] x h' IH' A' w.2.2 (by lia) b1 rfl rfl (by
       dsimp only at q;cases h3:Vh k S v x r m1 with
       |error c=>rw[h3] at q;exact q
       |ok z=>rw[h3] at q;intro y1 y2;exact q y1 (by lia))
      exact HE.step ((m8 (s:=4) (sgs:=zu r) (ps:=[x]) (E6 1)).trans e1) e2
    |cmp op x y=>
     dsimp only at q;unfold WS at w;refine HE.step rfl (Ik V v G x _ h tl n A w.2.1 sb (by lia) ?_);cases h1:ev k S v x n with
     |error c=>rw[h1] at q;exact q
     |ok z=>
      obtain⟨p,m1⟩:=z;rw[h1] at q;intro b1 l1 h' A';refine HE.step rfl (Ik V v G y _ h' tl m1 A' w.2.2 sb (by lia) ?_);dsimp only at q;cases h2:ev k S v y m1 with
      |error c=>rw[h2] at q;exact q
      |ok z=>
       rw[h2] at q;intro b2 l2 h2 A2;exact HE.step rfl (q (gA _) (by lia) h2 A2)
    |both e l=>
     dsimp only at q;unfold WS at w;refine qF (s:=1) (λ_ _ _ _=>rfl) sb (.cons e l) (k+1) n [] h (λj hj=>IH j hj) A (by unfold mH;exact#[w.1,w.2.2]) (by lia) rfl (by simp) ?_;rw[ox];cases h1:ev k S v e n with
     |error c=>rw[h1] at q;exact q
     |ok z=>
      obtain⟨x,m1⟩:=z;rw[h1] at q;dsimp only at q ⊢;by_cases hx:x=0
      ·rw[EL hx] at q
       rw[EL (show jd 1 x=FB by simp [jd,hx])];intro y1 y2;exact q y1 (by lia)
      ·rw[EI hx] at q
       rw[EI (show¬jd 1 x=FB by simp [jd,hx])];show match Ys k S v l m1 with| .error c=>_| .ok (a,m)=>_
       cases h3:Ys k S v l m1 with
       |error c=>rw[h3] at q;exact q
       |ok z=>rw[h3] at q;intro y1 y2;exact q y1 (by lia)
    |either e l=>
     dsimp only at q;unfold WS at w;refine qF (s:=0) (λ_ _ _ _=>rfl) sb (.cons e l) (k+1) n [] h (λj hj=>IH j hj) A (by unfold mH;exact#[w.1,w.2.2]) (by lia) rfl (by simp) ?_;rw[ox];cases h1:ev k S v e n with
     |error c=>rw[h1] at q;exact q
     |ok z=>
      obtain⟨x,m1⟩:=z;rw[h1] at q;dsimp only at q ⊢;by_cases hx:x≠0
      ·rw[EL hx] at q
       rw[EL (show jd 0 x=FB by simp [jd,hx])];intro y1 y2;exact q y1 (by lia)
      ·rw[EI hx] at q
       rw[EI (show¬jd 0 x=FB by simp [jd,hx])];show match SN k S v l m1 with| .error c=>_| .ok (a,m)=>_
       cases h3:SN k S v l m1 with
       |error c=>rw[h3] at q;exact q
       |ok z=>rw[h3] at q;intro y1 y2;exact q y1 (by lia)
    |pick c x y=>
     dsimp only at q;unfold WS at w;refine HE.step rfl (Ik V v G c _ h tl n A w.1 sb (by lia) ?_);cases h1:ev k S v c n with
     |error c=>rw[h1] at q;exact q
     |ok z=>
      obtain⟨p,m1⟩:=z;rw[h1] at q;intro b1 l1 h' A';dsimp only at q;by_cases hp:p≠0
      ·rw[EL hp] at q
       refine HE.step (m':=jX x ((.pick c x y,[p])::ts) (h'::tl) m1) (by show EQ (jX (if p≠0 then x else y) _ _ _)=_;rw[EL hp];rfl) (Ik V v G x _ h' tl m1 A' w.2.1 sb (by lia) ?_)
       cases h2:ev k S v x m1 with
       |error c=>rw[h2] at q;exact q
       |ok z=>
        rw[h2] at q;intro b2 l2 h2 A2;exact HE.step rfl (q b2 (by lia) h2 A2)
      ·rw[EI hp] at q
       refine HE.step (m':=jX y ((.pick c x y,[p])::ts) (h'::tl) m1) (by show EQ (jX (if p≠0 then x else y) _ _ _)=_;rw[EI hp];rfl) (Ik V v G y _ h' tl m1 A' w.2.2 sb (by lia) ?_)
       cases h2:ev k S v y m1 with
       |error c=>rw[h2] at q;exact q
       |ok z=>
        rw[h2] at q;intro b2 l2 h2 A2;exact HE.step rfl (q b2 (by lia) h2 A2)
    |sum y lo hi b=>
     dsimp only at q;unfold WS at w;refine HE.step rfl (Ik V v G lo _ h tl n A w.2.1 sb (by lia) ?_);cases h1:ev k S v lo n with
     |error c=>rw[h1] at q;exact q
     |ok z=>
      obtain⟨p,m1⟩:=z;rw[h1] at q;intro b1 l1 h' A';refine HE.step rfl (Ik V v G hi _ h' tl m1 A' w.2.2.1 sb (by lia) ?_);dsimp only at q;cases h2:ev k S v hi m1 with
      |error c=>rw[h2] at q;exact q
      |ok z=>
       obtain⟨r,m2⟩:=z;rw[h2] at q;intro b2 l2 h2 A2;dsimp only at q;refine HE.step (m':=C6 (.sum y lo hi b) y b p r [] ts (h2::tl) m2) (pC (acc:=[]) (Fs 1)) (wJ sb w.1 b1 b2 w.2.2.2 k m2 [] 0 h2 IH' A2 (by lia) [01] (.inl #[FS,FS]) ?_);show match evSum k S v y (p+0) r b 0 m2 with| .error c=>_| .ok (a,m)=>_
       rw[Int.add_zero];cases h3:evSum k S v y p r b 0 m2 with
       |error c=>rw[h3] at q;exact q
       |ok z=>rw[h3] at q;intro y1 y2;exact q y1 (by lia)
end
end OS
namespace OS
open Vbemac
def WSx (F0:EA (FJ×E1)) (e:Exp):Prop:= ∃V G,WS V G e/\Sub G F0
structure CQ (F0:EA (FJ×E1)) (t:dQ):Prop where
 ws:WSx F0 t.1
 ps: ∀x∈t.2,dC x
def xE (sc:EA fm):Prop:= ∀s∈sc,∀y x,s y=EQ x->dC x
def Gd (F0:EA (FJ×E1)):Mc->Prop
 | .go ts sc n=>(∀t∈ts,CQ F0 t)/\xE sc/\sc.length+n<=10001
 | .done x sc n=>dC x/\xE sc/\sc.length+n<=10001
 | .err _=>True
theorem fQ (h: ∀t∈ts,CQ F0 t) (g:xE sc) (b:dC x) (sn:sc.length+n<=10001):Gd F0 (eN ts sc n x):=by
 cases ts with
 |nil=>exact#[b,g,sn]
 |cons t r=>
  refine#[λu hu=>?_,g,sn];rcases EW.mp hu with z|z
  ·have:=h t (EO ..)
   rw[z];refine#[this.ws,λy hy=>?_];rcases Fp.mp hy with hy|hy
   ·exact this.ps y hy
   ·rw[Fd.mp hy];exact b
  ·exact h u (EN _ z)
theorem fA (h: ∀t∈ts,CQ F0 t) (g:xE sc) (w:WSx F0 e) (sn:sc.length+n<=10002):Gd F0 (jX e ts sc n):=by
 cases n with
 |zero=>trivial
 |succ n=>
  refine#[λu hu=>?_,g,by lia];rcases EW.mp hu with z|z
  ·rw[z];exact#[w,λy hy=>nomatch hy]
  ·exact h u z
theorem md {V:EA FJ}{G:EA (FJ×E1)} : ∀ {l:Exps}{e:Exp},mH V G l->e∈lw l->WS V G e
 | .nil,_,_,h=>nomatch h
 | .cons a l,e,w,h=>by
  unfold mH at w;rcases EW.mp h with z|z
  ·rw[z];exact w.1
  ·exact md w.2 z
theorem qS {L:EA String}{V:EA FJ}{G:EA (FJ×E1)} : ∀ {r:Rest}{e:Exp},vH L V G r->e∈CS r->WS V G e
 | .nil,_,_,h=>nomatch h
 | .cons op a l,e,w,h=>by
  unfold vH at w;rcases EW.mp h with z|z
  ·rw[z];exact w.2.1
  ·exact qS w.2.2 z
theorem Cf (h: ∀t∈(e,ps)::ts,CQ F0 t) (g:xE sc) (sn:sc.length+n<=10001) (w: ∀o∈ops,WSx F0 o) (hm:oP s ops e ps ts sc n=EQ m):Gd F0 m:=by
 have h': ∀t∈ts,CQ F0 t:=λt ht=>h t (EN _ ht)
 unfold oP at hm;split at hm
 ·cases hm;exact fQ h' g (mj s).1 sn
 ·split at hm
  ·rename_i o ho
   cases hm;exact fA h g (w o (Gs ho)) (by lia)
  ·cases hm;exact fQ h' g (mj s).2 sn
theorem sw {a b v:Int}(h:fL s op a b= .ok v):dC v:=by
 unfold fL at h;split at h
 ·cases h;exact gA _
 ·split at h
  ·cases h
  ·rename_i e
   cases h;exact(pc e).1
theorem uY (h: ∀t∈(e,ps)::ts,CQ F0 t) (g:xE sc) (sn:sc.length+n<=10001) (w: ∀o∈ops,WSx F0 o) (hm:k7 s ops sgs e ps ts sc n=EQ m):Gd F0 m:=by
 have h': ∀t∈ts,CQ F0 t:=λt ht=>h t (EN _ ht)
 have h0:=h (e,ps) (EO ..)
 have go: ∀qs:EA Int,(∀x∈qs,dC x)->(match ops[qs.length]? with
   |some o=>EQ (jX o ((e,qs)::ts) sc n)
   |none=>qs.getLast?.map λa=>eN ts sc n a)=EQ m->Gd F0 m:=λqs hq hm=>by
  split at hm
  ·rename_i o ho
   cases hm;refine fA (λt ht=>?_) g (w o (Gs ho)) (by lia);rcases EW.mp ht with z|z
   ·rw[z];exact#[h0.ws,hq]
   ·exact h' t z
  ·obtain⟨x,hx,rfl⟩:=FG.mp hm
   exact fQ h' g (hq x (Lw hx)) sn
 unfold k7 at hm;dsimp only at hm;split at hm
 ·cases hm
 ·cases hm;trivial
 ·rename_i qs he
  refine go qs (λx hx=>?_) hm;split at he
  ·split at he
   ·rename_i op a b _ ha hb
    have he:=E5 he;split at he
    ·cases he
    ·rename_i v hv
     cases he;rcases Fp.mp hx with hx|hx
     ·exact h0.ps x (Tj hx)
     ·rw[Fd.mp hx];exact sw hv
   ·cases he
  ·cases he;exact h0.ps x hx
theorem zM (g:xE sc) (b:dC x):xE (oO sc y x):=by
 cases sc with
 |nil=>exact g
 |cons s r=>
  intro t ht z v hv;unfold oO at ht;rcases EW.mp ht with e|e
  ·rw[e] at hv
   dsimp only at hv;split at hv
   ·cases hv;exact b
   ·exact g s (EO ..) z v hv
  ·exact g t (EN _ e) z v hv
theorem DY (h: ∀t∈(e,p::q::acc)::ts,CQ F0 t) (g:xE sc) (sn:sc.length+n<=10001) (w:WSx F0 b) (hm:gE e y b p q acc ts sc n=EQ m):Gd F0 m:=by
 have h': ∀t∈ts,CQ F0 t:=λt ht=>h t (EN _ ht)
 have h0:=h (e,p::q::acc) (EO ..)
 have hp:dC p:=h0.ps p (EO ..)
 have hq:dC q:=h0.ps q (EN _ (EO ..))
 have ha: ∀x∈acc,dC x:=λx hx=>h0.ps x (EN _ (EN _ hx))
 unfold gE at hm;dsimp only at hm;split at hm
 ·cases hm;trivial
 ·rename_i as he
  have hs: ∀x∈as,dC x:=λx hx=>by
   split at he
   ·split at he
    ·cases he
    ·rename_i v _ hv
     cases he;rcases Fp.mp hx with hx|hx
     ·exact ha x (Tj hx)
     ·rw[Fd.mp hx];exact(bO hv).1
   ·cases he;exact ha x hx
  split at hm
  ·rename_i hle
   cases n with
   |zero=>cases hm;trivial
   |succ n=>
    cases sc with
    |nil=>cases hm
    |cons s0 sc=>
    cases hm;refine fA (λt ht=>?_) (zM g (by unfold dC at *; lia)) w (by show(s0::sc).length+n<=10002;lia);rcases EW.mp ht with z|z
    ·rw[z]
     refine#[h0.ws,λx hx=>?_];rcases EW.mp hx with z|hx
     ·rw[z];exact hp
     ·rcases EW.mp hx with z|hx
      ·rw[z];exact hq
      ·exact hs x hx
    ·exact h' t z
  ·cases hm
   refine fQ h' g ?_ sn;cases z:as.getLast? with
   |none=>show dC 0;decide
   |some x=>exact hs x (Lw z)
theorem DO (FO:gm S F0) {m m':Mc}(h:Gd F0 m) (hm:d9 S.funs m=EQ m'):Gd F0 m':=by
 cases m with
 |done x sc n=>cases hm
 |err c=>cases hm
 |go ts sc n=>
  cases ts with
  |nil=>cases hm
  |cons t ts=>
   obtain⟨e,ps⟩:=t;obtain⟨h,g,sn⟩:=h;have h': ∀t∈ts,CQ F0 t:=λt ht=>h t (EN _ ht)
   have h0:=h (e,ps) (EO ..);obtain⟨V,G,w,sb⟩:=h0.ws;unfold d9 at hm;cases e with
   |num x=>cases hm;unfold WS at w;exact fQ h' g (by unfold dC BIG;lia) sn
   |name x=>
    obtain⟨v,hv,rfl⟩:=FG.mp hm;refine fQ h' g ?_ sn;unfold look at hv;cases sc with
    |nil=>cases hv
    |cons s r=>
     split at hv
     ·rename_i a ha
      cases hv;exact g s (EO ..) x v ha
     ·unfold fO at hv
      rw[QS] at hv;cases z:(s::r).getLast? with
      |none=>rw[z] at hv;cases hv
      |some t=>rw[z] at hv;exact g t (Lw z) x v hv
   |call f l=>
    dsimp only at hm;unfold WS at w;split at hm
    ·rename_i o ho
     cases hm;exact fA h g #[V,G,md w.2 (Gs ho),sb] (by lia)
    ·split at hm
     ·split at hm
      ·cases hm;exact fQ h' g (ph h0.ps) sn
      ·cases hm
     ·rename_i fu hf
      obtain⟨⟨p,hp,hl⟩,wl⟩:=w;split at hm
      ·cases hm
       rcases FO.all f p (sb f p hp) with⟨g',hg,hn,⟨Kg,Fg,wg,sg,sf⟩,_,_⟩|⟨hg,_⟩
       ·rw[hf] at hg
        cases hg;refine fA h (λs hs y x hx=>?_) #[_,Fg,wg,sf] (by rw[EZ];lia);rcases EW.mp hs with z|z
        ·rw[z] at hx
         obtain⟨a,ha,rfl⟩:=FG.mp hx;exact h0.ps _ (Kt (J3 ha)).2
        ·exact g s z y x hx
       ·rw[hf] at hg;cases hg
      ·cases sc with
       |nil=>cases hm
       |cons s0 sc=>
       obtain⟨v,hv,rfl⟩:=FG.mp hm;exact fQ h' (λs hs=>g s (EN _ hs)) (h0.ps v (Gs hv)) (by rw[EZ] at sn;lia)
   |neg e=>
    unfold WS at w;cases ps with
    |nil=>cases hm;exact fA h g #[V,G,w,sb] (by lia)
    |cons b r=>cases hm;exact fQ h' g (vT (h0.ps b (EO ..))) sn
   |not e=>
    unfold WS at w;cases ps with
    |nil=>cases hm;exact fA h g #[V,G,w,sb] (by lia)
    |cons b r=>cases hm;exact fQ h' g (gA _) sn
   |sums e r=>
    unfold WS at w;refine uY h g sn (λo ho=>?_) hm;rcases EW.mp ho with z|z
    ·rw[z];exact#[V,G,w.1,sb]
    ·exact#[V,G,qS w.2.2 z,sb]
   |prods e r=>
    unfold WS at w;refine uY h g sn (λo ho=>?_) hm;rcases EW.mp ho with z|z
    ·rw[z];exact#[V,G,w.1,sb]
    ·exact#[V,G,qS w.2.2 z,sb]
   |cmp op x y=>
    unfold WS at w;refine uY h g sn (λo ho=>?_) hm;rcases EW.mp ho with z|z
    ·rw[z];exact#[V,G,w.2.1,sb]
    ·rw[Fd.mp z];exact#[V,G,w.2.2,sb]
   |both e l=>
    unfold WS at w;refine Cf h g sn (λo ho=>?_) hm;rcases EW.mp ho with z|z
    ·rw[z];exact#[V,G,w.1,sb]
    ·exact#[V,G,md w.2.2 z,sb]
   |either e l=>
    unfold WS at w;refine Cf h g sn (λo ho=>?_) hm;rcases EW.mp ho with z|z
    ·rw[z];exact#[V,G,w.1,sb]
    ·exact#[V,G,md w.2.2 z,sb]
   |pick c x y=>
    unfold WS at w;dsimp only at hm;split at hm
    ·cases hm;exact fA h g #[V,G,w.1,sb] (by lia)
    ·rename_i p
     cases hm;refine fA h g ?_ (by lia);split
     ·exact#[V,G,w.2.1,sb]
     ·exact#[V,G,w.2.2,sb]
    ·rename_i v
     cases hm;exact fQ h' g (h0.ps _ (EN _ (EO ..))) sn
    ·cases hm
   |sum y lo hi b=>
    unfold WS at w;dsimp only at hm;split at hm
    ·cases hm;exact fA h g #[V,G,w.2.1,sb] (by lia)
    ·cases hm;exact fA h g #[V,G,w.2.2.1,sb] (by lia)
    ·exact DY h g sn #[y::V,G,w.2.2.2,sb] hm
end OS
namespace OS
open PySem PySem.Spec L2
open PyProof.Rows hiding St
variable {P:Fz}{w:Ga}{K:EF}{mg:Fh->ET EH}{base:Gn}{a:be}
abbrev IsZ (h:Gn) (z TI TO T:EJ) (b:FR):Prop:=
 h.get? z=EQ { cls:= .type "zip",dict:=Fa,data:= .fields [Nf T, .bool b, .bool FM, .ref TI, .ref TO].toArray,slots:= [].toArray }
section
variable {prog:Fz}{A:Gk}{E:EH->EM->Prop}{s:EM}{z TI TO T i1 i2 l1 l2:EJ}{b:FR}{k1 k2:E1}{xs ys:IQ EH}{x y:EH}{oT:Ih}
theorem Ac {a:EJ}{Q:ET Ih->EM->Prop}(h:Q (s.heap.get? a) s):Fl (model prog w) A (loadIfAlive a) Q E s:=λΓ p _=>by
 unfold loadIfAlive;rw[PySem.Sem.wp_loadIfAlive];exact h
theorem zY {Q:FR->EM->Prop}(hz:IsZ s.heap z TI TO T b) (hT:s.heap.get? T=EQ oT) (hQ: ∀h',IsZ h' z TI TO T FB->LZ z s.heap h'->Q FM { s with heap:=h' }):Fl (model prog w) A (Mi (.ref z)) Q E s:=by
 unfold Mi;refine E3 (wpAny_field hz rfl (x:=Nf T) rfl ?_);refine E3 (Ac ?_);rw[show((T:Int)).toNat=T from rfl,hT];refine E3 (wpAny_field hz rfl (x:= .bool b) rfl ?_);cases b with
 |true=>exact E3 (Fx (Fx (hQ _ hz #[FS,λ_ _=>rfl])))
 |false=>exact E3 (wpAny_setField_rec hz (by simp) λh' hz' hs=>Fx (hQ h' hz' hs))
theorem B3 (hh:A.handled=Fa) (D:Wb z TI TO i1 i2 l1 l2) (hz:IsZ s.heap z TI TO T b) (hT:s.heap.get? T=EQ oT) (Td:QZ s.heap TI (.ref i1) (.ref i2))
  (h1:s.heap.IsListIter i1 l1 k1) (h2:s.heap.IsListIter i2 l2 k1) (T1:s.heap.IsList l1 xs) (Ut:s.heap.IsList l2 ys) {Q:ET EH->EM->Prop}
  (hE:xs[k1]?=Fa-> ∀h',(∀c o,c≠z->c≠i1->s.heap.get? c=EQ o->h'.get? c=EQ o)->Q Fa { s with heap:=h' })
  (hQ: ∀x,xs[k1]?=EQ x-> ∃y,ys[k1]?=EQ y/\ ∀h',IsZ h' z TI TO T FB->h'.IsListIter i1 l1 (k1+1)->h'.IsListIter i2 l2 (k1+1)->QZ h' s.heap.objs.size x y->h'.objs.size=s.heap.objs.size+1->
   (∀c o,c≠z->c≠i1->c≠i2->s.heap.get? c=EQ o->h'.get? c=EQ o)->Q (EQ (.ref s.heap.objs.size)) { s with heap:=h' }):
  Fl (model prog w) A (QY (.ref z)) Q E s:=by
 have hTy:s.TypeIs (.ref z) "zip":=#[_,hz,FS];unfold QY;refine E3 (wpAny_attempt (wpAny_callSpecial?_slot (name:=Fh.ofString "__next__") hTy F.slot_zip_next (wpAny_call_entry F.slot_zip_next hTy F.entry_zip_next ?_ (F.args_zip_next_1 _))))
 show Fl _ _ (field (.ref z) 2>>=_) _ _ _
 refine E3 (wpAny_field hz rfl (x:= .bool FM) rfl ?_);show Fl _ _ (field (.ref z) 3>>=_) _ _ _;refine E3 (wpAny_field hz rfl (x:= .ref TI) rfl ?_);refine E3 (wpAny_seqItems Td rfl ?_);refine E3 (zY hz hT λh₁ hz₁ WM=>?_);refine E3 ?_;simp only[<-IQ.forIn_toList,V7,QI];refine E3 (E3 (Nc ?_));show Fl _ _ (NH (.ref i1)>>=_) _ _ _;cases hx:xs[k1]? with
 |none=>
  refine E3 (wpAny_nextOf_list_end hh (h1.extBut WM.extBut D.i1z) (T1.extBut WM.extBut D.l1z) hx λh₂ e hs₂ he=>?_);obtain⟨o,ho,hc⟩:=he;exact E3 (wpAny_isInstance (T:="StopIteration") (b:=FB) #[o,ho,hc] isSubtype_stop (Fx (hE hx _ λc o n1 n2 e=>hs₂ _ _ n2 (WM.extBut _ _ n1 e))))
 |some x=>
  obtain⟨y,hy,hQ⟩:=hQ x hx;refine E3 (UY (h1.extBut WM.extBut D.i1z) (T1.extBut WM.extBut D.l1z) hx λh₂ h1₂ hs₂=>Fx (Fx (E3 (E3 (Nc ?_)))));show Fl _ _ (NH (.ref i2)>>=_) _ _ _;refine E3 (UY ((h2.extBut WM.extBut D.i2z).extBut hs₂.extBut D.i12.symm) ((Ut.extBut WM.extBut D.l2z).extBut hs₂.extBut D.l2i1) hy λh₃ h2₃ hs₃=>Fx (Fx (Fx (E3 (wpAny_newTuple (hsz:=by show 2<=FE;decide) (Fx #[_,FS,Fx ?_]))))));have hsz:h₃.objs.size=s.heap.objs.size:=by rw[hs₃.1,hs₂.1,WM.1]
  have up: ∀ {c:EJ}{o:Ih}{q:Ih},h₃.get? c=EQ o->(h₃.push q).get? c=EQ o:=λe=>E2 _ e
  rw[hsz];exact hQ _ (up (hs₃.extBut _ _ D.i2z.symm (hs₂.extBut _ _ D.i1z.symm hz₁))) ((h1₂.extBut hs₃.extBut D.i12).at λo e=>up e) (h2₃.at λo e=>up e) (by show Gn.get? _ _=_;rw[<-hsz];exact Gy _ rfl) (by rw[Hf,hsz]) λc o n1 n2 n3 e=>up (hs₃.extBut _ _ n3 (hs₂.extBut _ _ n2 (WM.extBut _ _ n1 e)))
theorem oY:Hg (.type "zip") "keys"=pure Fa:=am_miss_of_fast [00]
theorem ll:Hg (.type "zip") "__getattr__"=pure Fa:=am_miss_of_fast [00]
theorem rc:entryFor table "zip.__getattribute__"=EQ Builtin.«object.__getattribute__»:=
 entryFor_alias (id':="object.__getattribute__") (by kernel_rfl) [00] [00] (by kernel_rfl)
theorem aaE (a:EJ) (vs:IQ EH) (u:Tok):
  Meets (Builtin.«object.__getattribute__» #[[.ref a, .str "keys" u],[]]) (λA R s=>s.heap.get? a=EQ { cls:= .type "zip",dict:=Fa,data:= .fields vs,slots:= [].toArray } /\raisesAttr (.ref a) "keys" A R s):=
 Meets.of_wp λprog w A R s hs=>by
  obtain⟨hp,g,d,tk,os⟩:=s;obtain⟨hx,hs⟩:=hs;have hT:(⟨hp,g,d,tk,os⟩:EM).TypeIs (.ref a) "zip":=#[_,hx,FS];have alJ:=oY;unfold Builtin.«object.__getattribute__»
  repeat (any_goals (first|assumption|wp_step))
  exact wpAny_raiseAttrError hs.1 hs.2 (attrMsg_fits [00] [00])
theorem zF {a:EJ}{vs:IQ EH}{Q:ET EH->EM->Prop}(hx:s.heap.get? a=EQ { cls:= .type "zip",dict:=Fa,data:= .fields vs,slots:= [].toArray }) (hA:A.handled=Fa)
  (h: ∀h' tk,(∀b ob,s.heap.get? b=EQ ob->h'.get? b=EQ ob)->Q Fa { s with heap:=h',toks:=tk }):Fl (model prog w) A (getAttr? (.ref a) "keys") Q E s:=by
 obtain⟨hp,g,d,tk,os⟩:=s;have hT: ∀Ta,(⟨hp,g,d,Ta,os⟩:EM).TypeIs (.ref a) "zip":=λ_=>#[_,hx,FS]
 have f1:=sub_AttributeError
 have f3:=K8.lookup
 have f4:=K8.bind (.ref a)
 have f5:=ll;unfold getAttr? getAttrBy? getAttrBy
 repeat (any_goals (first|assumption|exact hT _|((with_reducible show Fl _ _ (call (Li "zip.__getattribute__") _ _) _ _ _);refine call_meets K8 (hT _) rc (PySem.F.args_zip_getattribute_2 _ _) (aaE a vs _) #[hx,hA,λh' Ta e hx'=>?_])|wp_step))
 obtain⟨t',u',he⟩:=hx'.there;show Fl _ _ (Yl _ _ _ _ _ _ _) _ _ _;unfold Yl
 repeat (any_goals (first|assumption|wp_step))
 all_goals first|exact h _ _ hx'.keeps|(dsimp only;repeat (any_goals (first|assumption|exact h _ _ hx'.keeps|wp_step)))
end
section
variable {prog:Fz}{A:Gk}{E:EH->EM->Prop}{s:EM}{z TI TO T i1 i2 l1 l2:EJ}{b:FR}{k1 k2:E1}{xs ys:IQ EH}{x y:EH}{oT:Ih}
def ZS (S z TI TO i1 i2:EJ) (h:Gn):Prop:=(IsZip h z TI TO .none/\ ∃x y,QZ h TO x y)\/ ∃T oT b,IsZ h z TI TO T b/\h.get? T=EQ oT/\T≠S/\T≠z/\T≠i1/\T≠i2
abbrev Fr (s:Gn) (l:EA EJ) (h':Gn):Prop:= ∀c o,c∉l->s.get? c=EQ o->h'.get? c=EQ o
theorem wI (hh:A.handled=Fa) (D:Wb z TI TO i1 i2 l1 l2) (hz:ZS S z TI TO i1 i2 s.heap) (Td:QZ s.heap TI (.ref i1) (.ref i2)) (hS:S<s.heap.objs.size)
  (h1:s.heap.IsListIter i1 l1 k1) (h2:s.heap.IsListIter i2 l2 k1) (T1:s.heap.IsList l1 xs) (Ut:s.heap.IsList l2 ys) {Q:ET EH->EM->Prop}
  (hE:xs[k1]?=Fa-> ∀h',Fr s.heap [z,TO,i1,i2] h'->Q Fa { s with heap:=h' })
  (hQ: ∀x,xs[k1]?=EQ x-> ∃y,ys[k1]?=EQ y/\ ∀h',ZS S z TI TO i1 i2 h'->h'.IsListIter i1 l1 (k1+1)->h'.IsListIter i2 l2 (k1+1)->QZ h' s.heap.objs.size x y->Fr s.heap [z,TO,i1,i2] h'->Q (EQ (.ref s.heap.objs.size)) { s with heap:=h' }):
  Fl (model prog w) A (QY (.ref z)) Q E s:=by
 have lt: ∀ {c:EJ}{o:Ih},s.heap.get? c=EQ o->s.heap.objs.size≠c:=λe=>KU (Fn e)
 have fr: ∀ {h':Gn},(∀c o,c≠z->c≠TO->c≠i1->c≠i2->s.heap.get? c=EQ o->h'.get? c=EQ o)->Fr s.heap [z,TO,i1,i2] h':=λk c o n e=>by
  simp only[EW,GZ,or_false,Vg] at n;exact k c o n.1 n.2.1 n.2.2.1 n.2.2.2 e
 have j1:s.heap.objs.size≠i1:=by obtain⟨_,e,_⟩:=h1;exact lt e
 have j2:s.heap.objs.size≠i2:=by obtain⟨_,e,_⟩:=h2;exact lt e
 rcases hz with⟨hz,x0,y0,hTO⟩|⟨T,oT,b,hz,hT,n1,n2,n3,n4⟩
 ·cases hx:xs[k1]? with
  |none=>exact wpAny_pyNext_zip_end hh D hz Td hTO h1 h2 T1 Ut (.inl hx) λh' k=>hE hx h' (fr k)
  |some x=>
   obtain⟨y,hy,hQ⟩:=hQ x hx;exact wpAny_pyNext_zip_item D hz Td hTO h1 h2 T1 Ut hx hy λh' a1 a2 a3 a4 a5 a6 k=>hQ h' (.inr #[_,_,FM,a1,a5,KU hS,lt hz,j1,j2]) a3 a4 a5 (fr k)
 ·refine B3 hh D hz hT Td h1 h2 T1 Ut (λe h' k=>hE e h' (fr λc o m1 _ m3 _=>k c o m1 m3)) λx hx=>?_
  obtain⟨y,hy,hQ⟩:=hQ x hx;exact#[y,hy,λh' a1 a3 a4 a5 a6 k=>hQ h' (.inr #[T,oT,FB,a1,k _ _ n2 n3 n4 hT,n1,n2,n3,n4]) a3 a4 a5 (fr λc o m1 _ m3 m4=>k c o m1 m3 m4)]
theorem AD {R:Result->EM->Prop}(hh:A.handled=Fa) (D:Wb z TI TO i1 i2 l1 l2) (nS:S∉[z,TO,i1,i2,TI,l1,l2]):
  ∀(rest:EA (a0×EH)) (k:E1) (acc:EA (a0×EH)) (ix:Int) (t:Tok) (s:EM),xs.size=k+rest.length->acc.length+rest.length<=FE->
   (∀(j:E1) (q:a0×EH),rest[j]?=EQ q-> ∃u,xs[k+j]?=EQ u/\ys[k+j]?=EQ q.2/\jf q.1 u=FB)->
   ZS S z TI TO i1 i2 s.heap->QZ s.heap TI (.ref i1) (.ref i2)->s.heap.IsListIter i1 l1 k->s.heap.IsListIter i2 l2 k->s.heap.IsList l1 xs->s.heap.IsList l2 ys->s.heap.DictOf (aT prog w) S acc->
   (∀h' tk,h'.DictOf (aT prog w) S (merged acc rest)->Fr s.heap [S,z,TO,i1,i2] h'->R (.ok (.ret res)) { s with heap:=h',toks:=tk })->
   KP (model prog w) A (.builtin "dict.update.loop" #[[.ref S, .ref z, .int ix t,res],[]]) R s:=by
 simp only[EW,GZ,or_false,Vg] at nS;obtain⟨Sz,STO,Si1,Si2,STI,Sl1,Sl2⟩:=nS;intro rest
 induction rest with
 |nil=>
  intro k acc ix t s hsz hln ht hz Td h1 h2 T1 Ut hm hR;refine codeAny_builtin tM ?_;rw[Sd iF _];show Fl _ A.in1 (QY (.ref z)>>=_) _ _ s;refine E3 (wI (A:=A.in1) hh D hz Td (by obtain⟨_,_,_,e,_⟩:=hm;exact Fn e) h1 h2 T1 Ut (λ_ h' f=>?_) λx hx=>?_)
  ·show Fl _ A.in1 (Builtin.Dict.addKeywords S []>>=_) _ _ _
   refine E3 (Fx (Fx ?_));exact hR h' s.toks (hm.at λo e=>f _ o (by simp [Sz,STO,Si1,Si2]) e) λc o n e=>f c o (λz=>n (EN _ z)) e
  ·rw[IQ.getElem?_eq_none (show xs.size<=k from JG hsz)] at hx
   cases hx
 |cons q rest ih=>
  intro k acc ix t s hsz hln ht hz Td h1 h2 T1 Ut hm hR;obtain⟨u,hb,hb2,hk⟩:=ht 0 q rfl;rw[EZ] at hsz hln;have hS:S<s.heap.objs.size:=by obtain⟨_,_,_,e,_⟩:=hm;exact Fn e
  refine codeAny_builtin tM ?_;rw[Sd iF _];show Fl _ A.in1 (QY (.ref z)>>=_) _ _ s;refine E3 (wI (A:=A.in1) hh D hz Td hS h1 h2 T1 Ut (λe=>?_) λx hx=>#[_,hb2,λh' z' i1' i2' pr f=>?_])
  ·rw[show xs[k]?=EQ u from hb] at e;cases e
  cases (show xs[k]?=EQ u from hb).symm.trans hx;have gs: ∀ {c:EJ}{o:Ih},c∉[z,TO,i1,i2]->s.heap.get? c=EQ o->h'.get? c=EQ o:=λn e=>f _ _ n e
  have hm1:h'.DictOf (aT prog w) S acc:=hm.at λo e=>gs (by simp [Sz,STO,Si1,Si2]) e
  show Fl _ A.in1 (holding [Fq s.heap.objs.size] _>>=_) _ _ _
  refine E3 (Nc ?_);refine E3 (wpAny_tryCatch ?_);unfold Builtin.Dict.pairItems;refine E3 (U4 (T:="tuple") #[_,pr,FS] ?_);rw[EL (by first|decide|rfl|simp)]
  refine E3 (wpAny_seqItems pr rfl (Fx ?_));show Fl _ A.in1 (holding [u,q.2] (dictSet S u q.2)) _ _ _;refine Nc (wpAny_dictSet_pairs (knd:=aT prog w) (k:=q.1) hk hm1 (λh2' hm2 US=>?_) (by lia));have up: ∀ {c:EJ}{o:Ih},c≠S->h'.get? c=EQ o->h2'.get? c=EQ o:=λn e=>US.extBut _ _ n e
  refine Fx #[plainId_quiet iF _,ih (k+1) (stored acc q.1 q.2) (ix+1) 0 _ (show xs.size=k+1+rest.length by lia) ?_ (λj q' e=>?_) ?_ ?_ ?_ ?_ ?_ ?_ hm2 λh3 tk WH k3=>?_]
  ·have z:=stored_length_le acc q.1 q.2
   lia
  ·rw[show k+1+j=k+(j+1) by lia]
   exact ht (j+1) q' e
  ·rcases z' with⟨a1,x0,y0,a2⟩|⟨T,oT,b,a1,a2,n1,n2,n3,n4⟩
   ·exact .inl #[up (HS Sz) a1,x0,y0,up (HS STO) a2]
   ·exact .inr #[T,oT,b,up (HS Sz) a1,up n1 a2,n1,n2,n3,n4]
  ·exact up (HS STI) (gs (by simp [D.TIz,D.TITO,D.TIi1,D.TIi2]) Td)
  ·exact i1'.at λo e=>up (HS Si1) e
  ·exact i2'.at λo e=>up (HS Si2) e
  ·exact T1.at λo e=>up (HS Sl1) (gs (by simp [D.l1z,D.l1TO,D.l1i1,D.l1i2]) e)
  ·exact Ut.at λo e=>up (HS Sl2) (gs (by simp [D.l2z,D.l2TO,D.l2i1,D.l2i2]) e)
  ·exact hR h3 tk WH λc o n e=>k3 c o n (up (λz=>n (by rw[z];exact EO)) (gs (λz=>n (EN _ z)) e))
theorem oX {Q:EH->EM->Prop}(hh:A.handled=Fa) (D:Wb z TI TO i1 i2 l1 l2) (hz:IsZip s.heap z TI TO .none) (hTO:QZ s.heap TO x y) (Td:QZ s.heap TI (.ref i1) (.ref i2))
  (h1:s.heap.IsListIter i1 l1 0) (h2:s.heap.IsListIter i2 l2 0) (T1:s.heap.IsList l1 xs) (Ut:s.heap.IsList l2 ys) (hsz:xs.size=oG.length) (hln:oG.length<=FE)
  (ht: ∀(j:E1) (q:a0×EH),oG[j]?=EQ q-> ∃u,xs[j]?=EQ u/\ys[j]?=EQ q.2/\jf q.1 u=FB)
  (h: ∀h' tk,h'.DictOf (aT prog w) s.heap.objs.size (merged [] oG)->Fr s.heap [z,TO,i1,i2] h'->Q (.ref s.heap.objs.size) { s with heap:=h',toks:=tk }):
  Fl (model prog w) A (call (.type "dict") [.ref z]) Q E s:=by
 refine callType_codes (Q₁:=λobj s₁=>obj= .ref s.heap.objs.size/\s₁= { s with heap:=s.heap.push { cls:= .type "dict",data:= .dict [].toArray } }) PySem.F.kt_called_dict (PySem.F.kt_typeCall_dict_1 _) PySem.F.entry_dict_init (kt_code_dict_new _ #[FS,FS]) ?_;rintro obj s₁ ⟨rfl,rfl⟩;have aaF:(s.heap.push { cls:= .type "dict",data:= .dict [].toArray }).DictOf (aT prog w) s.heap.objs.size []:=Sv s.heap;have k0: ∀ {b:EJ}{o:Ih},s.heap.get? b=EQ o->(s.heap.push { cls:= .type "dict",data:= .dict [].toArray }).get? b=EQ o:=λe=>E2 _ e
 refine#[aaF.typeIs,PySem.F.args_dict_init_2 _ _,?_];unfold Builtin.«dict.__init__»;refine E3 ?_;unfold Builtin.Dict.selfAndRest;refine E3 (wpAny_notOrdered_dict aaF.typeIs ?_);show Fl _ _ (pure (s.heap.objs.size,[Fq z])) _ _ _;refine Fx ?_;show Fl _ _ (PJ "dict.__init__" s.heap.objs.size (.ref z) [] .none) _ _ _;unfold PJ;refine E3 (U4 (T:="zip") #[_,k0 hz,FS] ?_);rw[EL (by first|decide|rfl|simp)]
 refine E3 (zF (k0 hz) hh λh1' tk1 hk1=>?_);rw[EL (show(Fa:ET EH).isNone=FB from rfl)];refine E3 (wpAny_rule ?_);have up: ∀ {b:EJ}{o:Ih},s.heap.get? b=EQ o->h1'.get? b=EQ o:=λe=>hk1 _ _ (k0 e)
 refine E3 (wpAny_pyIter_zip (up hz) ?_);have ne: ∀ {b:EJ}{o:Ih},s.heap.get? b=EQ o->s.heap.objs.size≠b:=λe=>KU (Fn e)
 have key:=AD (prog:=prog) (w:=w) (A:=A.in1) (R:=wants (λr s₂=>r= .none/\Q (.ref s.heap.objs.size) s₂) E) (S:=s.heap.objs.size) (res:=Hn) (xs:=xs) (ys:=ys) hh D
  (by
   obtain⟨_,e1,_⟩:=h1;obtain⟨_,e2,_⟩:=h2;obtain⟨_,e3,_⟩:=T1;obtain⟨_,e4,_⟩:=Ut;simp only[EW,GZ,or_false,Vg];exact#[ne hz,ne hTO,ne e1,ne e2,ne Td,ne e3,ne e4]) oG 0 [] 0 0 { s with heap:=h1',toks:=tk1 } (by rw[hsz,J8]) (by rw[JK,J8];exact hln)
  (λj q e=>by rw[J8];exact ht j q e) (.inl #[up hz,_,_,up hTO]) (up Td) (h1.at λo e=>up e) (h2.at λo e=>up e) (T1.at λo e=>up e) (Ut.at λo e=>up e) (aaF.at λo e=>hk1 _ _ e)
  (λh' tk WH k=>#[FS,h h' tk WH λb o n e=>k b o (λz=>(EW.mp z).elim (λz=>ne e z.symm) n) (up e)])
 first
  |exact Fx #[plainId_quiet iF _,key]
  |exact E3 (Fx (Fx #[plainId_quiet iF _,key]))
end
section
variable {X:Cx}
theorem Ck {P:Fz}{w:Ga} : ∀ {aC:EA (a0×V)}{Hc WN:EA EH},aX (aC.map λq=>kV q.1) Hc->aX (aC.map (·.2)) WN-> ∃oG:EA (a0×EH),KV aC oG/\ ∀(j:E1) (q:a0×EH),oG[j]?=EQ q-> ∃u,Hc[j]?=EQ u/\WN[j]?=EQ q.2/\jf q.1 u=FB
 |[],_,_,h1,h2=>by cases h1;cases h2;exact#[[], .nil,λj q e=>by simp at e]
 |kv::aC,_,_, .cons (b:=u) a1 r1, .cons (b:=y) a2 r2=>by
  obtain⟨oG,r,hp⟩:=Ck (P:=P) (w:=w) r1 r2;refine#[(kv.1,y)::oG, .cons #[FS,a2] r,λj q e=>?_];cases j with
  |zero=>cases e;exact#[u,FS,FS,oE (P:=P) (w:=w) a1]
  |succ j=>exact hp j q e
theorem u9 {e e2:G8}{ta:TA}{p p' pos MK:Pos}(hc:X.calm=FB) (hg:Gl X "zip") (hm:X.mg "zip"=Fa) (hg':Gl X "dict") (O9:X.mg "dict"=Fa) (ha:PA X [e,e2] ta)
  (hs:Fb [e,e2] X.env=(FM,eval e X.env)::Fb [e2] X.env) (Ma:(Ie pos (Fb [e2] X.env)).any (·.1)=FM):
  PE X (.Call (.Name "dict" p') [.Call (.Name "zip" p) [e,e2] [] pos] [] MK) (λσ H Q=>ta σ H λvs H1=> ∃(a b:EJ) (aC:EA (a0×V)),vs=[.ref a, .ref b]/\cO X.K H1 a (aC.map λq=>kV q.1)/\cO X.K H1 b (aC.map (·.2))/\ ∀d,H1 d=Fa->Q (.ref d) (aF H1 d (.dK (fM [] aC)))):=by
 intro pins s σ H Q I h;refine Call_ (kX I hg' O9 (show Kr "dict"=EQ (.type "dict") by decide+kernel) (Jt ?_ rfl rfl));show Fl _ _ (spliced [(FM,_)]) _ _ s;refine Ks (Call_ (kX I hg hm yn (Jt (b9 (ha pos pins s σ H _ I h) λus s1 ⟨vs,H1,I1,r1,q1⟩=>?_) hs Ma)));obtain⟨a,b,aC,ex,hqx,hqy,q⟩:=q1;subst ex;cases r1 with
 |cons r rr=>
  cases rr with
  |cons r' rr=>
   cases rr;cases r;cases r';obtain⟨Hc,rv,p1,hz⟩:=I1.list hqx;obtain⟨WN,rv2,p2,_⟩:=I1.list hqy;have hi:Hc.length=aC.length:=by rw[<-rv.length,EY]
   refine call_zip_2 p1.isList p2.isList λh' hz' Td hTO h1 h2 hsz hk=>KL ?_;obtain⟨oG,rel,hp⟩: ∃oG:EA (a0×EH),KV aC oG/\ ∀(j:E1) (q:a0×EH),oG[j]?=EQ q-> ∃u,Hc[j]?=EQ u/\WN[j]?=EQ q.2/\jf q.1 u=FB:=Ck (P:=X.prog) (w:=X.w) rv rv2;have pl:oG.length=aC.length:=rel.length.symm;refine oX (oG:=oG) (I1.ok.hd hc) (PySem.W.ktu_apart s1.heap.objs.size a b p1.lt p2.lt) hz' hTO Td h1 h2 (p1.isList.at λo e=>hk _ _ e) (p2.isList.at λo e=>hk _ _ e) (by simp [hi,pl]) (by rw[pl,<-hi,<-rv.length];exact hz) (λj q' e=>by simpa using hp j q' e) λh2' tk WH k=>?_;have le:s1.heap.objs.size<=h'.objs.size:=by rw[hsz];exact Ju _ _
   have hm:(h'.objs.size == HN)=FM:=beq_eq_false_iff_ne.mpr (KU (Fv I1.big le))
   have MJ:(fM [] aC).length<=FE:=by
    refine Fj (gu aC []) ?_;rw[JK,J8,<-hi,<-rv.length];exact hz
   refine#[.ref h'.objs.size,aF H1 h'.objs.size (.dK (fM [] aC)),I1.laid (t':=tk) (λc o e=>k c o (λz=>?_) (hk c o e)) le (show cw X.prog X.w _ _ _ (.dK (fM [] aC)) from#[MJ,hm,merged [] oG,KV.merge rel .nil,WH]),FS,q _ (I1.HH.fresh le)];have:=Fn e;simp only[EW,GZ,or_false] at z;lia
end
def Rfs (C:EJ) (E:XK) (H:Hp) (c:Int):Prop:= ∀d,H d=Fa->E (.ref C) (EQ d) (aF H d (cj d (DF c)))
def xcl (a:be):EA (Int×EJ):=[(-11,a.IW),(-12,a.Ko),(-13,a.JW),(-14,a.JX),(-15,a.IX),(-16,a.KZ)]
def oU (a:be) (E:XK) (H:Hp) (c:Int):Prop:= ∀C,(c,C)∈xcl a->Rfs C E H c
def gC (c:Int):EA V->EA (Fh×V)->Prop:=λus fs=>us=[]/\fs=DF c
theorem okI {x Gz:Fh}{st:Stmt}{f C:EJ}{fd:FL}{c:Int}(F:oF K x Gz st f fd) (S:az ["self"] ["self"] (af st))
  (h: ∀(Gp:EH) (A:Gk) (outer:EA Env) (s:EM) (H:Hp) (p:EJ) (Q:VK),bW 1 (A.deeper (Jf Gz (af st) s.heap.objs.size f Gp))->dP C agL [.ref p, .int c] H Q E0->Bd (fi wG P w K mg base ["self"] Gz (af st) f Gp A outer s H E0).nox (a8 st) { nx:=λ_ H'=>Q .HZ H',rt:=Q } [EQ (.ref p)] H):
  bS P w K mg base wG 2 f fd ["self"] (dP C (gC c)):=by
 refine F.ok S (λvs H Q E h=>?_) (λGp A outer s H vs Q E hr z=>?_)
 ·obtain⟨p,us,fs,rfl,⟨rfl,rfl⟩,_⟩:=h
  rfl
 ·obtain⟨p,us,fs,rfl,⟨rfl,rfl⟩,hp,q⟩:=z
  exact h Gp A outer s H p Q hr #[p,_,_,FS,#[c,FS,FS],hp,q]
theorem ic (T:aU K mg a) (XC:XW K a):T.d_L.U P w mg base 2 (dP a.IW (gC (-11))):=
 okI T.d_L.F akd λGp A outer s H p Q hr q=>#[_,ah (bi (fg (by rfl) T.Hi XC.rm (bP T XC.Lq) hr T.VW.c.b .nil aY (aa (pv 0) (aa (dJ cG aj) ag)))),_,FS,q]
theorem kZ (T:aU K mg a) (XC:XW K a):T.d_M.U P w mg base 2 (dP a.Ko (gC (-12))):=
 okI T.d_M.F ake λGp A outer s H p Q hr q=>#[_,ah (bi (fg (by rfl) T.Hi XC.rm (bP T XC.Oc) hr T.VW.c.b .nil aY (aa (pv 0) (aa (dJ cG aj) ag)))),_,FS,q]
theorem jp (T:aU K mg a) (XC:XW K a):T.YN.U P w mg base 2 (dP a.JW (gC (-13))):=
 okI T.YN.F afB λGp A outer s H p Q hr q=>#[_,ah (bi (fg (by rfl) T.Hi XC.rm (bP T XC.MU) hr T.VW.c.b .nil aY (aa (pv 0) (aa (dJ cG aj) ag)))),_,FS,q]
theorem jF (T:aU K mg a) (XC:XW K a):T.YO.U P w mg base 2 (dP a.JX (gC (-14))):=
 okI T.YO.F afC λGp A outer s H p Q hr q=>#[_,ah (bi (fg (by rfl) T.Hi XC.rm (bP T XC.MV) hr T.VW.c.b .nil aY (aa (pv 0) (aa (dJ cG aj) ag)))),_,FS,q]
theorem ia (T:aU K mg a) (XC:XW K a):T.YQ.U P w mg base 2 (dP a.IX (gC (-15))):=
 okI T.YQ.F afD λGp A outer s H p Q hr q=>#[_,ah (bi (fg (by rfl) T.Hi XC.rm (bP T XC.Lr) hr T.VW.c.b .nil aY (aa (pv 0) (aa (dJ cG aj) ag)))),_,FS,q]
theorem kK (T:aU K mg a) (XC:XW K a):T.YR.U P w mg base 2 (dP a.KZ (gC (-16))):=
 okI T.YR.F afE λGp A outer s H p Q hr q=>#[_,ah (bi (fg (by rfl) T.Hi XC.rm (bP T XC.Od) hr T.VW.c.b .nil aY (aa (pv 0) (aa (dJ cG aj) ag)))),_,FS,q]
def wkF (t:Int) (fa sl tl:EJ) (r:V):EA (Fh×V):=[("taken", .int t),("functions", .ref fa),("scopes", .ref sl),("tasks", .ref tl),("result",r)]
def wD (v:V) (p:EJ):EA (Fh×V):=[("exp",v),("parts", .ref p)]
structure px where
 wk:EJ
 dw:EJ
 fa:EJ
 sl:EJ
 tl:EJ
 z:E1
structure rN where
 M:EJ->Prop
 H:Hp
structure oJ where
 t:EJ
 p:EJ
 d:EJ
 v:V
 ps:EA Int
abbrev rk:=EJ×EA (a0×V)
def tkC (a:be):EA oJ->EA k8
 |[]=>[]
 |u::us=>(u.t, .ins a.LR u.d (wD u.v u.p))::(u.p, .lst (u.ps.map V.int))::tkC a us
def scC (ds:EA rk):EA k8:=ds.map λd=>(d.1, .dK d.2)
abbrev wkL (a:be) (c:px) (n:E1) (r:V) (ff:EA (a0×V)) (ds:EA rk) (us:EA oJ):EA k8:=
 (c.wk, .ins a.GY c.dw (wkF (10000-(n:Int)) c.fa c.sl c.tl r))::(c.tl, .lst (us.map λu=>V.ref u.t).reverse)::(c.sl, .lst (ds.map λd=>V.ref d.1).reverse)::(c.fa, .dK ff)::(tkC a us++scC ds)
def D1 (a:be) (B:rN) (F:Jd) (ff:EA (a0×V)):Prop:=ff.length<=F.length/\ ∀f,(match F.find? λg=>g.1 == f with
  |some g=> ∃v,bN ff (nk f)=EQ v/\fk a B.M B.H (.func g.1 g.2.1 g.2.2) v
  |none=>bN ff (nk f)=Fa)
def aaG (b:E1) (d:rk) (s:fm):Prop:=(∀u,bN d.2 (nk u)=(s u).map V.int)/\d.2.length<=b
def akW (a:be) (B:rN) (u:oJ) (t:dQ):Prop:=au a B.M B.H t.1 u.v/\u.ps=t.2
structure Bn (z b:E1) (ts:EA dQ) (sc:EA fm) (n:E1):Prop where
 UU:n<=10000
 tl: ∀i t,ts[i]?=EQ t->t.2.length+i+n<=10000
 sl:sc.length+n<=10002
 b6:6<=b
 bn:b+5*n<=z
 zl:z<=60000
structure eT (a:be) (B:rN) (H:Hp) (c:px) (F:Jd) (r:V) (b:E1) (ff:EA (a0×V)) (ds:EA rk) (us:EA oJ) (ts:EA dQ) (sc:EA fm) (n:E1):Prop where
 O:Ow B.H (wkL a c n r ff ds us) H
 fn:D1 a B F ff
 sq:Paired (aaG b) ds sc
 tk:Paired (akW a B) us ts
 bn:Bn c.z b ts sc n
inductive Wk (a:be) (B:rN) (H:Hp) (c:px) (F:Jd) (r:V) (b:E1) (ts:EA dQ) (sc:EA fm) (n:E1):Prop
 |mk {ff:EA (a0×V)}{ds:EA rk}{us:EA oJ}(_:eT a B H c F r b ff ds us ts sc n):Wk a B H c F r b ts sc n
def nQ (a:be) (B:rN) (c:px) (F:Jd) (N:Hp->Prop) (E:XK):Mc->Prop
 | .err k=> ∀H',a9 B.H H'->oU a E H' k
 | .go ts sc n=> ∀H' r b,Wk a B H' c F r b ts sc n->N H'
 | .done x sc n=> ∀H' b,Wk a B H' c F (.int x) b [] sc n->N H'
theorem Bn.mono {z b m n:E1}{ts:EA dQ}{sc:EA fm}(h:Bn z b ts sc n) (hm:m<=n):Bn z b ts sc m:=#[by have:=h.UU;lia,λi t e=>by have:=h.tl i t e;lia,by have:=h.sl;lia,h.b6,by have:=h.bn;lia,h.zl]
theorem Bn.len {z b n:E1}{ts:EA dQ}{sc:EA fm}(h:Bn z b ts sc n):ts.length+n<=10001:=by
 cases e:ts[ts.length-1]? with
 |none=>have:=EA.getElem?_eq_none_iff.mp e;have:=h.UU;lia
 |some t=>have:=h.tl _ t e;lia
theorem bD.fld {M:EJ->Prop}{B H:Hp}{K:EF}{Q:VK}(i:bD M B C fs v) (s:a9 B H) (cl:gw K C) (no:ak K C f) (hl:fs.lookup f=EQ u) (q:Q u H):dL K f Q v H:=by
 obtain⟨p,dx,rfl,_,h⟩:=i;exact#[p,C,dx,_,u,FS,s _ _ h,cl,no,hl,q]
section
variable {H H':Hp}{Q:VK}
theorem eT.fld (W:eT a B H c F r b ff ds us ts sc n) (T:aU K mg a) (no:ak K a.GY f) (hl:(wkF (10000-(n:Int)) c.fa c.sl c.tl r).lookup f=EQ u) (q:Q u H):dL K f Q (.ref c.wk) H:=#[c.wk,_,c.dw,_,u,FS,W.O.get 0 rfl,T.Hw,no,hl,q]
theorem eT.own (W:eT a B H c F r b ff ds us ts sc n) (hm:m<=n) (h:H' c.wk=EQ (.ins a.GY c.dw (wkF (10000-(m:Int)) c.fa c.sl c.tl r'))) (k: ∀b u,H b=EQ u->b≠c.wk->H' b=EQ u):eT a B H' c F r' b ff ds us ts sc m:=#[W.O.set (L1:=[]) h k,W.fn,W.sq,W.tk,W.bn.mono hm]
theorem eT.tl (W:eT a B H c F r b ff ds us ts sc n):H c.tl=EQ (.lst (us.map λu=>V.ref u.t).reverse):=W.O.get 1 rfl
theorem eT.tl1 (W:eT a B H c F r b ff ds (u::us) ts sc n):H c.tl=EQ (.lst ((us.map λu=>V.ref u.t).reverse++[V.ref u.t])):=by
 rw[<-Gf];exact W.tl
theorem eT.ins (W:eT a B H c F r b ff ds us ts sc n):H c.wk=EQ (.ins a.GY c.dw (wkF (10000-(n:Int)) c.fa c.sl c.tl r)):=W.O.get 0 rfl
end
inductive nZ (a:be) (vs:EA V) (H:Hp) (Q:VK) (E:XK):Prop
 |mk {B:rN}{c:px}{F:Jd}{r:V}{b:E1}{ff:EA (a0×V)}{ds:EA rk}{us:EA oJ}{ts:EA dQ}{sc:EA fm}{n:E1}(_:vs=[.ref c.wk]) (_:eT a B H c F r b ff ds us ts sc n) (_:n=0->oU a E H (-13)) (_: ∀m,n=m+1-> ∀H',eT a B H' c F r b ff ds us ts sc m->Q .HZ H'):nZ a vs H Q E
theorem gV (T:aU K mg a) (XC:XW K a):T.Vo.O P w mg base 4 (nZ a):=by
 refine fP T.Vo.F afK [03] [02];obtain @⟨B,c,F,r,b,ff,ds,us,ts,sc,n,rfl,W,h0,h1⟩:=h;refine bE (jg (ci (bv 0 (W.fld T T.Kh rfl #[_,aR (by rfl) T.Rc,_,_,FS,FS,dz (λe=>?_) λe=>?_])) rfl))
 ·exact aQ (eS eD XC.MU (jp T XC) hr (by rfl) T.NT T.YN.c.b) #[Fs _,_,#[FS,FS],h0 (by lia) _ (.tail _ (.tail _ (.head _)))]
 ·obtain⟨m,rfl⟩: ∃m,n=m+1:=#[n-1,by have:=W.bn.UU;lia]
  refine eA (gP (pv 0) aj my) #[c.wk,_,c.dw,_,_,FS,W.ins,T.Hw,T.Kh,FS,_,_,FS,FS,c.dw,_,W.ins,(by show 5<1000;decide),h1 m rfl _ (W.own (KH m) ?_ nj)];rw[ae,show(10000:Int)-(m:Int)=10000-((m+1:E1):Int)+1 by lia]
  rfl
section
variable {H H':Hp}
theorem eT.push (W:eT a B H c F r b ff ds us ts sc n) (ev:au a B.M B.H e v) (hx:H x=Fa) (hp:H p=Fa) (ne:p≠x) (k:a9 H H') (h1:H' x=EQ (.ins a.LR dx (wD v p))) (h2:H' p=EQ (.lst [])) (b1:Bn c.z b ts sc (n+1)):
  eT a B (aF H' c.tl (.lst ((us.map λu=>V.ref u.t).reverse++[.ref x]))) c F r b ff ds (#[x,p,dx,v,[]]::us) ((e,[])::ts) sc n:=by
 have O:=W.O.adds (N:=[(x, .ins a.LR dx (wD v p)),(p, .lst [])]) k (λy hy=>by
  rcases EW.mp hy with z|hy
  ·rw[z];exact#[hx,h1]
  ·rw[Fd.mp hy];exact#[hp,h2]) (FI.mpr #[λz=>ne (Fd.mp z).symm,FI.mpr #[nofun, .nil]])
 have O:=(O.perm ((EA.perm_append_comm (l₁:=[_,_]) (l₂:=[_,_,_,_])).append_right _)).put (L1:=[_]) (o':= .lst ((us.map λu=>V.ref u.t).reverse++[.ref x]))
 rw[<-Gf] at O ⊢;refine#[O,W.fn,W.sq, .cons #[ev,FS] W.tk,W.bn.UU,λi t e=>?_,W.bn.sl,W.bn.b6,W.bn.bn,W.bn.zl];cases i with
 |zero=>cases e;have:=b1.UU;show 0+0+n<=10000;lia
 |succ i=>have:=b1.tl i t e;lia
theorem eT.pop (W:eT a B H c F r b ff ds (u::us) (t::ts) sc n):eT a B (aF H c.tl (.lst (us.map λu=>V.ref u.t).reverse)) c F r b ff ds us ts sc n:=by
 cases W.tk with
 |cons _ tk=>exact#[(W.O.put (L1:=[_])).sub (.cons₂ _ (.cons₂ _ (.cons₂ _ (.cons₂ _ (.cons _ (.cons _ (.refl _))))))),W.fn,W.sq,tk,W.bn.UU,λi t e=>by have:=W.bn.tl (i+1) t e;lia,W.bn.sl,W.bn.b6,W.bn.bn,W.bn.zl]
theorem eT.parts (W:eT a B H c F r b ff ds (u::us) ((e,u.ps)::ts) sc n) (h:H' u.p=EQ (.lst (ps.map V.int))) (k: ∀b o,H b=EQ o->b≠u.p->H' b=EQ o) (hl:ps.length+n<=10000):eT a B H' c F r b ff ds ({ u with ps:=ps } ::us) ((e,ps)::ts) sc n:=by
 cases W.tk with
 |cons h1 tk=>
  refine#[W.O.set (L1:=[_,_,_,_,_]) h k,W.fn,W.sq, .cons #[h1.1,FS] tk,W.bn.UU,λi t e=>?_,W.bn.sl,W.bn.b6,W.bn.bn,W.bn.zl];cases i with
  |zero=>cases e;exact hl
  |succ i=>exact W.bn.tl (i+1) t e
theorem eT.grow (W:eT a B H c F r b ff ds us ts sc n) (k:a9 H H'):eT a B H' c F r b ff ds us ts sc n:=#[W.O.grow k,W.fn,W.sq,W.tk,W.bn]
theorem eT.scs (W:eT a B H c F r b ff ds us ts sc n) (h:d∈ds):H d.1=EQ (.dK d.2):=(W.O.at_ (d.1, .dK d.2) (.tail _ (.tail _ (.tail _ (.tail _ (GI _ (KQ.mpr #[d,h,FS]))))))).1
theorem lN {α β:Type}{F:α->β->Prop} : ∀ {l:EA α}{m:EA β}{y:β},Paired F l m->m.getLast?=EQ y-> ∃x,l.getLast?=EQ x/\F x y
 |_,_,_, .nil,h=>by cases h
 |[x],[y],_, .cons r .nil,h=>by cases h;exact#[x,FS,r]
 |_::x::l,_::y::m,z, .cons r (.cons s t),h=>by
  rw[RC] at h;rw[RC];exact lN (.cons s t) h
theorem dY {α β:Type}{F G:α->β->Prop} : ∀ {l:EA α}{m:EA β},Paired F l m->(∀x y,F x y->G x y)->Paired G l m
 |_,_, .nil,_=> .nil
 |_,_, .cons h t,g=> .cons (g _ _ h) (dY t g)
end
inductive Bp (a:be) (vs:EA V) (H:Hp) (Q:VK) (_E:XK):Prop
 |mk (t dt:EJ) (v:V) (_:vs=[.ref t,v]) (_:H t=EQ (.ins a.LR dt [])) (_: ∀(p:EJ) (H':Hp),H p=Fa->p≠t->H' t=EQ (.ins a.LR dt (wD v p))->H' p=EQ (.lst [])->(∀b o,H b=EQ o->b≠t->H' b=EQ o)->Q .HZ H'):Bp a vs H Q _E
theorem qi (T:aU K mg a):T.YV.U P w mg base 1 (Bp a):=by
 refine T.YV.F.ok afI [03] [02];obtain⟨t,dt,v,rfl,ht,q⟩:=h;refine aQ (b5 (pv 0) (pv 1) rfl) #[t,_,dt,_,FS,ht,T.OH,T.PB,E1.zero_lt_succ _,eA (b5 (pv 0) (iG ag) rfl) #[Fs _,λp hp=>?_]];have np:p≠t:=λz=>by rw[z,ae] at hp;cases hp
 rw[ac np] at hp;exact#[t,_,dt,_,FS,(by rw[ac np.symm,ae]),T.OH,T.Mq,(by show 1<1000;decide),q p _ hp np ae (by rw[ac np,ae]) λb o e nb=>by rw[ac nb,ac (ai e hp),ac nb];exact e]
inductive wn (a:be) (vs:EA V) (H:Hp) (Q:VK) (E:XK):Prop
 |mk {B:rN}{c:px}{F:Jd}{r:V}{b:E1}{ff:EA (a0×V)}{ds:EA rk}{us:EA oJ}{ts:EA dQ}{sc:EA fm}{n:E1}{e:ER}{v:V}(_:vs=[.ref c.wk,v]) (_:eT a B H c F r b ff ds us ts sc n) (_:au a B.M B.H e v) (_:nQ a B c F (Q .HZ) E (jX e ts sc n)):wn a vs H Q E
theorem tO (T:aU K mg a) (XC:XW K a):T.Wh.O P w mg base 5 (wn a):=by
 refine fP T.Wh.F afN [03] [02];obtain @⟨B,c,F,r,b,ff,ds,us,ts,sc,n,e,v,rfl,W,ev,g⟩:=h;refine aQ (bi (bQ (pv 0) T.Hw T.Vo.c (gV T XC) hr aA)) #[c.wk,c.dw,_,FS,W.ins,FS, .mk rfl W (λz=>?_) λm z H1 W1=>?_]
 ·rw[z] at g
  exact g H W.O.same
 ·subst z
  refine ik (ao (pv 0) rfl) (λ_ q=>W1.fld T T.Ia rfl q) W1.tl #[_,gX T.WD (qi T) (hr.mono [01]) (by rfl) T.Wf T.YV.c.b .nil aY (aa (pv 1) ag),λx dx hx Ur ne=>#[x,dx,v,FS,ae,λp H2 hp np h1 h2 k=>#[FS,?_]]];have hp:=hp;rw[ac np] at hp;have pd:p≠dx:=λz=>by rw[z,ae] at hp;cases hp
  rw[ac pd] at hp;have sm:a9 H1 H2:=λb o e=>k b o (by rw[ac (ai e hx),ac (ai e Ur)];exact e) (ai e hx);exact#[_,sm _ _ W1.tl,by rw[F7,EY,bL W1.tk,Ht];have:=W1.bn.len;lia,cc (g _ r b #[W1.push ev hx hp np sm h1 h2 W.bn])]
inductive sU (a:be) (vs:EA V) (H:Hp) (Q:VK) (E:XK):Prop
 |mk {B:rN}{c:px}{F:Jd}{r:V}{b:E1}{ff:EA (a0×V)}{ds:EA rk}{u:oJ}{us:EA oJ}{t:dQ}{ts:EA dQ}{sc:EA fm}{n:E1}{x:Int}(_:vs=[.ref c.wk, .int x]) (_:eT a B H c F r b ff ds (u::us) (t::ts) sc n) (_:nQ a B c F (Q .HZ) E (eN ts sc n x)):sU a vs H Q E
theorem xZ (T:aU K mg a):T.YY.U P w mg base 1 (sU a):=by
 refine T.YY.F.ok afO [03] [02];obtain @⟨B,c,F,r,b,ff,ds,u,us,t,ts,sc,n,x,rfl,W,g⟩:=h;have tl:=W.tl1;refine bA #[_,Be Iw Rp Rq Bq (ao (pv 0) rfl),W.fld T T.Ia rfl #[.inl #[FS,_,cO.of tl],c.tl,_, .ref u.t,FS,FS,tl,by simp,?_]];rw[Tn];have W1:=W.pop;have tk:=W1.tk;have ul:=bL tk;refine cv (cP gj (iP T.JP W1.tl (ao (pv 0) rfl) (λ_ q=>W1.fld T T.Ia rfl q) (cM #[_,_,FS,FS,_,FS,?_])));rw[F7,EY];cases tk with
 |nil=>exact bK (eA (b5 (pv 0) (pv 1) rfl) #[c.wk,_,c.dw,_,FS,W1.ins,T.Hw,T.K3,(by show 5<1000;decide),g _ b #[W1.own (E6 n) ae nj]])
 | @cons v t1 us ts h tk=>
  obtain⟨e1,ps⟩:=t1;obtain rfl:v.ps=ps:=h.2;refine dz (λ_=>?_) λz=>E7 z (by rw[EZ];lia);have hp:=W1.O.get 5 rfl;have b1:=W.bn.tl 1 _ rfl;refine eA (bi (wj Iw J4 J5 iR (ao (cK bB (ao (pv 0) rfl) (dJ cG aj) (λ_ _=>rfl)) rfl) (aa (pv 1) ag))) (W1.fld T T.Ia rfl #[_,FS,c.tl,_,_,V.ref v.t,FS,FS,cO.of W1.tl1,d8 _ _,v.t,_,v.d,_,V.ref v.p,FS,W1.O.get 4 rfl,T.OH,T.Mq,FS, .inl #[FS,_,cO.of hp],v.p,_,_,FS,FS,hp,by rw[EY,Ht];lia,g _ r b #[W1.parts (ps:=v.ps++[x]) ?_ nj (by rw[Fc];show v.ps.length+1+n<=10000;lia)]]);rw[ae,GG]
  rfl
section
variable {H H':Hp}
theorem eT.sl1 (W:eT a B H c F r b ff (d::ds) us ts sc n):H c.sl=EQ (.lst ((ds.map λd=>V.ref d.1).reverse++[V.ref d.1])):=by
 rw[<-Gf];exact W.O.get 2 rfl
theorem eT.akX {s:fm}(W:eT a B H c F r b ff (d::ds) us ts (s::sc) n) (hb:b+1+5*n<=c.z):eT a B (aF H d.1 (.dK (dy d.2 (nk y) (.int x)))) c F r (b+1) ff ((d.1,dy d.2 (nk y) (.int x))::ds) us ts (oO (s::sc) y x) n:=by
 have O:Ow B.H ((_::_::_::_::tkC a us)++(d.1, .dK d.2)::scC ds) H:=W.O;cases W.sq with
 |cons h sq=>
  refine#[O.put,W.fn, .cons #[λu=>?_,Fj (cD _ _ _) (G7 h.2)] (dY sq λ_ _ z=>#[z.1,ML z.2]),W.tk,W.bn.UU,W.bn.tl,W.bn.sl,ML W.bn.b6,hb,W.bn.zl];rw[gB];show _=ET.map V.int (if u=y then EQ x else s u)
  by_cases hu:u=y
  ·rw[EL (by rw[hu]),EL hu];rfl
  ·rw[EI λz=>hu (eE (Ja z)),EI hu];exact h.1 u
theorem eT.pushS {s:fm}(W:eT a B H c F r b ff ds us ts sc n) (hq:H q=Fa) (k:a9 H H') (h:H' q=EQ (.dK kk)) (hs:aaG b (q,kk) s) (hl:sc.length+1+n<=10002):eT a B (aF H' c.sl (.lst ((ds.map λd=>V.ref d.1).reverse++[.ref q]))) c F r b ff ((q,kk)::ds) us ts (s::sc) n:=by
 have O:=W.O.adds (N:=[(q, .dK kk)]) k (λy hy=>by rw[Fd.mp hy];exact#[hq,h]) (FI.mpr #[nofun, .nil])
 have O:Ow B.H (_::_::_::_::(tkC a us++(q, .dK kk)::scC ds)) H':=O.perm (VL (l₁:=_::_::_::_::tkC a us)).symm
 have O:=O.put (L1:=[_,_]) (o':= .lst ((ds.map λd=>V.ref d.1).reverse++[.ref q]))
 rw[<-Gf] at O ⊢;exact#[O,W.fn, .cons hs W.sq,W.tk,W.bn.UU,W.bn.tl,hl,W.bn.b6,W.bn.bn,W.bn.zl]
theorem eT.akY {s:fm}(W:eT a B H c F r b ff (d::ds) us ts (s::sc) n):eT a B (aF H c.sl (.lst (ds.map λd=>V.ref d.1).reverse)) c F r b ff ds us ts sc n:=by
 cases W.sq with
 |cons _ sq=>exact#[(W.O.put (L1:=[_,_])).sub (.cons₂ _ (.cons₂ _ (.cons₂ _ (.cons₂ _ ((EA.sublist_cons_self _ _).append_left _))))),W.fn,sq,W.tk,W.bn.UU,W.bn.tl,by have:sc.length+1+n<=10002:=W.bn.sl;lia,W.bn.b6,W.bn.bn,W.bn.zl]
end
inductive pA (a:be) (vs:EA V) (H:Hp) (Q:VK) (_E:XK):Prop
 |mk {B:rN}{c:px}{F:Jd}{r:V}{b:E1}{ff:EA (a0×V)}{ds:EA rk}{us:EA oJ}{ts:EA dQ}{sc:EA fm}{n:E1}{y:EC}{x:Int}(_:vs=[.ref c.wk, .str (sb y)]) (_:eT a B H c F r b ff ds us ts sc n) (_:look sc y=EQ x) (_:Q (.int x) H):pA a vs H Q _E
theorem tI (T:aU K mg a):T.YX.U P w mg base 1 (pA a):=by
 refine T.YX.F.ok afM [03] [02];obtain @⟨B,c,F,r,b,ff,ds,us,ts,sc,n,y,x,rfl,W,hl,q⟩:=h;have sq:=W.sq;cases sq with
 |nil=>cases hl
 | @cons d s ds sc hd sq=>
 have k1:=W.scs (d:=d) (.head _)
 have fl: ∀ {Q:VK},Q (.ref c.sl) H->dL K "scopes" Q (.ref c.wk) H:=λq=>W.fld T T.Jk rfl q
 have at1: ∀ {Q:VK},Q (.ref d.1) H->dL K "scopes" (λx H1=>tUn (rU λi=> .int (-i)) (tC (.int 1)) [EQ (.ref c.wk),EQ (.str (sb y))] H1 λu H2=>AW K x u H2 Q) (.ref c.wk) H:=λq=>fl #[_,FS,c.sl,_,_,V.ref d.1,FS,FS,cO.of W.sl1,d8 _ _,q]
 have lk:look (s::sc) y=(match s y with|some a=>EQ a|none=>fO (s::sc) y):=rfl
 refine bE #[_,fC (mZ (dq hr) (pv 1) (cK bB (ao (pv 0) rfl) (dJ cG aj) (λ_ _=>rfl))),at1 #[d.1,_,FS,gv.k (k:=nk y) k1,_,FS,?_]];rw[hd.1,Hv];have g:=gv.k (k:=nk y) k1;rw[hd.1] at g;cases hs:s y with
 |some z=>
  rw[lk,hs] at hl;cases hl;rw[hs] at g;exact cg (aJ #[_,jL (dq hr) (cK bB (ao (pv 0) rfl) (dJ cG aj) (λ_ _=>rfl)) (pv 1) (λ_ _=>rfl),at1 #[d.1, .int x,FS,g,q]])
 |none=>
  rw[lk,hs] at hl;have hl:fO (s::sc) y=EQ x:=hl;cases z:(s::sc).getLast? with
  |none=>simp at z
  |some z'=>
  obtain⟨e,h1,h2⟩:=lN (.cons hd sq) z;have:fO (s::sc)=z':=by unfold fO;rw[QS,z];rfl
  rw[this] at hl;have j1:=W.scs (Lw h1);have g:=gv.k (k:=nk y) j1;rw[h2.1,hl] at g;have h0:((d::ds).map λd=>V.ref d.1).reverse[0]?=EQ (V.ref e.1):=by
   rw[<-EA.head?_eq_getElem?,EA.head?_reverse,EA.getLast?_map,h1]
   rfl
  exact bK (aJ #[_,jL (dq hr) (cK bB (ao (pv 0) rfl) aj (λ_ _=>rfl)) (pv 1) (λ_ _=>rfl),fl #[c.sl,_,_,V.ref e.1,FS,FS,cO.of (W.O.get 2 rfl),bj (j:=0) h0,e.1, .int x,FS,g,q]])
inductive Ce (a:be) (vs:EA V) (H:Hp) (Q:VK) (_E:XK):Prop
 |mk {B:rN}{c:px}{F:Jd}{r:V}{b:E1}{ff:EA (a0×V)}{d:rk}{ds:EA rk}{us:EA oJ}{ts:EA dQ}{s:fm}{sc:EA fm}{n:E1}{y:EC}{x:Int}(_:vs=[.ref c.wk, .str (sb y), .int x]) (_:eT a B H c F r b ff (d::ds) us ts (s::sc) n) (_:b+1+5*n<=c.z) (_: ∀H',eT a B H' c F r (b+1) ff ((d.1,dy d.2 (nk y) (.int x))::ds) us ts (oO (s::sc) y x) n->Q .HZ H'):Ce a vs H Q _E
theorem j8 (T:aU K mg a):T.Wg.U P w mg base 1 (Ce a):=by
 refine T.Wg.F.ok afL [03] [02];obtain @⟨B,c,F,r,b,ff,d,ds,us,ts,s0,sc,n,y,x,rfl,W,hb,q⟩:=h;cases W.sq with
 |cons hd _=>exact eA (gQ (dq hr) (cK bB (ao (pv 0) rfl) (dJ cG aj) (λ_ _=>rfl)) (pv 1) (pv 2) rfl) (W.fld T T.Jk rfl #[_,FS,c.sl,_,_,V.ref d.1,FS,FS,cO.of W.sl1,d8 _ _,d.1,_,FS,rp.k (k:=nk y) (W.scs (.head _)) (by rw[Ht];have:=hd.2;have:=W.bn.zl;lia),q _ (W.akX hb)])
theorem CM:kW X (OW .FloorDiv) (rI (λ_ j=>j≠0/\j.natAbs.log2<9000) λi j=> .int (i.fdiv j)):=opI λ_ _ _ _ _ _ _ hc q=>floordiv_int hc.1 q (.inl (PyProof.noPylong_of_log2 hc.2))
theorem yj {l:EA Int} : ∀ {us:EA EH},aX (l.map V.int) us-> ∃xs:IQ (Int×Tok),us.toArray=Kk xs/\xs.toList.map (·.1)=l:=by
 induction l with
 |nil=>intro us h;cases h;exact#[[].toArray,by simp [Kk],FS]
 |cons i l ih=>
  intro us h;cases h with
  |cons h1 h2=>
   obtain⟨t,rfl⟩:=h1;obtain⟨xs,e1,e2⟩:=ih h2;refine#[#[(i,t)::xs.toList],?_,by rw[<-e2];rfl];unfold Kk at e1 ⊢;have e1:=FN RE e1;rw[Vb] at e1;apply IQ.ext';rw[Vb];simp only[Fe];rw[<-e1]
theorem tH {pins:EA (EJ×Ih)}{σ:L2.St}{H:Hp}{s:EM}{p:EJ}{l:EA Int}(I:aE X pins σ H s) (h:H p=EQ (.lst (l.map V.int))): ∃xs:IQ (Int×Tok),s.heap.IsList p (Kk xs)/\xs.toList.map (·.1)=l:=by
 obtain⟨z,Hc,n,r,hl,e⟩:=I.ZZ h;obtain⟨xs,e1,e2⟩:=yj r;exact#[xs,#[_,e,FS,n,by rw[<-e1]],e2]
theorem xV (hc:X.calm=FB):gF X (.builtin "min") (λxs H Q=> ∃p i j,xs=[.ref p]/\H p=EQ (.lst [.int i, .int j])/\Q (.int (min i j)) H):=by
 intro pins s σ H xs us Q I r h;obtain⟨p,i,j,rfl,hp,q⟩:=h;obtain⟨u,rfl,r1⟩:=oj r;cases r1;obtain⟨as,l,e⟩:=tH (l:=[i,j]) I hp;obtain⟨as⟩:=as;obtain⟨⟨i',t⟩,⟨j',t'⟩,rfl⟩: ∃x y,as=[x,y]:=by
  match as,e with
  |[x,y],_=>exact#[x,y,FS]
 obtain⟨rfl,rfl⟩:i=i'/\j=j':=by simpa [eq_comm] using e
 refine min_intList (I.ok.hd hc) l (by show 0<2;decide) λv h' tk hv k=>#[.int (min i j),H,I.kept k,?_,q];by_cases hij:j<i
 ·have e:L0 (λx y=>decide (LM [(i,t),(j,t')].toArray x<LM [(i,t),(j,t')].toArray y)) 1=1:=by simp [L0,LM,hij]
  have hv:(Kk [(i,t),(j,t')].toArray)[L0 (λx y=>decide (LM [(i,t),(j,t')].toArray x<LM [(i,t),(j,t')].toArray y)) 1]?=EQ v:=hv
  rw[e] at hv;have hv:JL j t'=v:=by simpa [Kk] using hv
  exact#[t',by rw[<-hv,Int.min_def,EI (by lia)]]
 ·have e:L0 (λx y=>decide (LM [(i,t),(j,t')].toArray x<LM [(i,t),(j,t')].toArray y)) 1=0:=by simp [L0,LM,hij]
  have hv:(Kk [(i,t),(j,t')].toArray)[L0 (λx y=>decide (LM [(i,t),(j,t')].toArray x<LM [(i,t),(j,t')].toArray y)) 1]?=EQ v:=hv
  rw[e] at hv;have hv:JL i t=v:=by simpa [Kk] using hv
  exact#[t,by rw[<-hv,Int.min_def,EL (by lia)]]
theorem yP (hc:X.calm=FB):gF X (.builtin "max") (λxs H Q=> ∃p i j,xs=[.ref p]/\H p=EQ (.lst [.int i, .int j])/\Q (.int (max i j)) H):=by
 intro pins s σ H xs us Q I r h;obtain⟨p,i,j,rfl,hp,q⟩:=h;obtain⟨u,rfl,r1⟩:=oj r;cases r1;obtain⟨as,l,e⟩:=tH (l:=[i,j]) I hp;obtain⟨as⟩:=as;obtain⟨⟨i',t⟩,⟨j',t'⟩,rfl⟩: ∃x y,as=[x,y]:=by
  match as,e with
  |[x,y],_=>exact#[x,y,FS]
 obtain⟨rfl,rfl⟩:i=i'/\j=j':=by simpa [eq_comm] using e
 refine max_intList (I.ok.hd hc) l (by show 0<2;decide) λv h' tk hv k=>#[.int (max i j),H,I.kept k,?_,q];by_cases hij:j>i
 ·have e:L0 (λx y=>decide (LM [(i,t),(j,t')].toArray x>LM [(i,t),(j,t')].toArray y)) 1=1:=by simp [L0,LM,hij]
  have hv:(Kk [(i,t),(j,t')].toArray)[L0 (λx y=>decide (LM [(i,t),(j,t')].toArray x>LM [(i,t),(j,t')].toArray y)) 1]?=EQ v:=hv
  rw[e] at hv;have hv:JL j t'=v:=by simpa [Kk] using hv
  exact#[t',by rw[<-hv,Int.max_def,EL (by lia)]]
 ·have e:L0 (λx y=>decide (LM [(i,t),(j,t')].toArray x>LM [(i,t),(j,t')].toArray y)) 1=0:=by simp [L0,LM,hij]
  have hv:(Kk [(i,t),(j,t')].toArray)[L0 (λx y=>decide (LM [(i,t),(j,t')].toArray x>LM [(i,t),(j,t')].toArray y)) 1]?=EQ v:=hv
  rw[e] at hv;have hv:JL i t=v:=by simpa [Kk] using hv
  refine#[t,?_];rw[<-hv,Int.max_def];by_cases z:i<=j
  ·rw[EL z,show j=i by lia]
  ·rw[EI z]
theorem Ci (ho:op∈F6) (h:d7 x s):decide (V.str (dI op)=V.str x)=decide (op=s):=by
 obtain⟨rfl,hs⟩:=h;exact decide_eq_decide.mpr #[λz=>wB op ho s hs (V.str.inj z),λz=>by rw[z]]
theorem je {X:Cx}{H:Hp}(ho:op∈F6) (l:d7 v s) (yes:op=s->Pe X e (EQ (.str (dI op))::σ) H D.rt) (no:op≠s->Bd X ss D (EQ (.str (dI op))::σ) H) (n0:X.N[0]?=EQ ("sign":Fh):=by rfl) (v0:oH X.env.scope "sign":=by exact Gx rfl):
  Bd X (.If (.Compare (.Name "sign" p1) [.Eq] [.Constant (.str v) j p2] p3) [.Return (EQ e) p4] [] p5::ss) D (EQ (.str (dI op))::σ) H:=
 bE (cP b7 (bv 0 (Xu #[FS,_,FS,by rw[Ci ho l];exact dz (λz=>aJ (yes z)) no]) n0 v0))
theorem CV {α:Type}{Q:α->Prop}{c:Prop} [Decidable c] {x y:α}(q:Q (if c then x else y)):(c->Q x)/\(¬c->Q y):=#[λh=>by rw[EL h] at q;exact q,λh=>by rw[EI h] at q;exact q]
def yh (op:EC) (b:Int):FR:=b !=0||!(decide (op=ED "/")||decide (op=ED "%"))
def mE (op:EC) (a b:Int):Int:=if op=ED "+" then a+b else if op=ED "-" then a-b else if op=ED "*" then a*b else if op=ED "/" then a.fdiv b else if op=ED "%" then a.fmod b else MY (L3 op a b)
def sF (a:Int):Prop:= -(2 ^ 64)<a/\a<2 ^ 64
theorem xi:d7 "+" (ED "+")/\d7 "-" (ED "-")/\d7 "*" (ED "*")/\d7 "/" (ED "/")/\d7 "/rest" (ED "%")/\d7 "==" (ED "==")/\d7 "!=" (ED "!=")/\d7 "<=" (ED "<=")/\d7 ">=" (ED ">=")/\d7 "<" (ED "<"):=#[#[by decide+kernel,by decide+kernel],#[by decide+kernel,by decide+kernel],#[by decide+kernel,by decide+kernel],#[by decide+kernel,by decide+kernel],#[by decide+kernel,by decide+kernel],#[by decide+kernel,by decide+kernel],#[by decide+kernel,by decide+kernel],#[by decide+kernel,by decide+kernel],#[by decide+kernel,by decide+kernel],#[by decide+kernel,by decide+kernel]]
inductive zW (vs:EA V) (H:Hp) (Q:VK) (_E:XK):Prop
 |mk (op:EC) (b:Int) (_:vs=[.str (dI op), .int b]) (_:op∈F6) (_: ∀H',a9 H H'->Q (.bl (yh op b)) H'):zW vs H Q _E
theorem akZ (T:aU K mg a):T.d_N.U P w base 1 zW:=by
 refine T.d_N.F.ok akf [03] [02];obtain⟨op,b,rfl,ho,q⟩:=h;refine#[_,(ah (aK (Ba (b8 pK (pv 1) aj (aM _)) (jo (b8 jW (pv 0) (zZ (aa dG (aa dG ag))) rfl))))),?_];refine#[FS,_,FS,?_];rw[cn];unfold yh at q;by_cases hb:b=0
 ·subst hb
  refine bK ?_;refine#[by show 2<=FE;decide,λp hp=>#[p,_,FS, .inr (rh.of ae),FS,FS,?_]];have e:tZ (.str (dI op)) [.str "/", .str "/rest"]=(decide (op=ED "/")||decide (op=ED "%")):=by
   rw[<-Ci ho xi.2.2.2.1,<-Ci ho xi.2.2.2.2.1];show(("/":Fh) == dI op||(("/rest":Fh) == dI op||false))=_
   have b: ∀x:Fh,(x == dI op)=decide (V.str (dI op)=V.str x):=λx=>by
    rw[GD,beq_iff_eq,FH];exact#[λz=>by rw[z],λz=>(V.str.inj z).symm]
   rw[Oo,b,b]
  show Q (.bl (!tZ (.str (dI op)) [.str "/", .str "/rest"])) _
  rw[e];exact q _ (b3 hp)
 ·rw[FA hb]
  refine cg ?_;have z:=q H λ_ _ e=>e
  rw[show(b !=0)=FB from bne_iff_ne.mpr hb] at z;exact z
inductive CO (vs:EA V) (H:Hp) (Q:VK) (_E:XK):Prop
 |mk (op:EC) (x y:Int) (_:vs=[.str (dI op), .int x, .int y]) (_:op∈F6) (_:Q (.bl (L3 op x y)) H):CO vs H Q _E
theorem ak0 (T:aU K mg a):T.d_P.U P w base 1 CO:=by
 refine T.d_P.F.ok akh [03] [02];obtain⟨op,x,y,rfl,ho,q⟩:=h;obtain⟨_,_,_,_,_,l1,l2,l3,l4,l5⟩:=xi;unfold L3 at q;have q:=CV (Q:=λz=>Q (.bl z) H) q
 refine je ho l1 (λe=>#[_,b8 b7 (pv 1) (pv 2) (aM _),FS,by rw[cn];exact q.1 e]) λe=>?_;have q:=CV (Q:=λz=>Q (.bl z) H) (q.2 e)
 refine je ho l2 (λe=>#[_,b8 pK (pv 1) (pv 2) (aM _),FS,by rw[cn,<-decide_not];exact q.1 e]) λe=>?_;have q:=CV (Q:=λz=>Q (.bl z) H) (q.2 e)
 refine je ho l3 (λe=>#[_,b8 eO (pv 1) (pv 2) (aM _),_,_,FS,FS,q.1 e]) λe=>?_;have q:=CV (Q:=λz=>Q (.bl z) H) (q.2 e)
 refine je ho l4 (λe=>#[_,b8 aeR (pv 1) (pv 2) (aM _),_,_,FS,FS,q.1 e]) λe=>?_;have q:=CV (Q:=λz=>Q (.bl z) H) (q.2 e)
 exact je ho l5 (λe=>#[_,b8 jK (pv 1) (pv 2) (aM _),_,_,FS,FS,q.1 e]) λe=>aJ #[_,b8 gj (pv 1) (pv 2) (aM _),_,_,FS,FS,q.2 e]
theorem vI (h:sF j):j.natAbs.log2<9000:=by
 by_cases z:j.natAbs=0
 ·rw[z];decide
 ·refine E1.lt_trans ((E1.log2_lt z).mpr (show j.natAbs<2 ^ 65 by unfold sF at h;lia)) [01]
inductive XH (vs:EA V) (H:Hp) (Q:VK) (_E:XK):Prop
 |mk (op:EC) (x y:Int) (_:vs=[.str (dI op), .int x, .int y]) (_:op∈F6) (_:sF x) (_:sF y) (_:yh op y=FB) (_:Q (.int (mE op x y)) H):XH vs H Q _E
theorem ak1 (T:aU K mg a):T.d_O.U P w base 2 XH:=by
 have G_P:=ak0 (P:=P) (w:=w) (base:=base) T;refine T.d_O.F.ok akg [03] [02];obtain⟨op,x,y,rfl,ho,bx,b_y,hh,q⟩:=h;obtain⟨l1,l2,l3,l4,l5,_⟩:=xi
 have y0:op=ED "/"\/op=ED "%"->y≠0:=λo z=>by
  rw[z] at hh;rcases o with o|o
  ·rw[o] at hh;exact E7 hh [00]
  ·rw[o] at hh;exact E7 hh [00]
 unfold mE at q;have q:=CV (Q:=λz=>Q (.int z) H) q
 refine je ho l1 (λe=>#[_,ca dU (pv 1) (pv 2),_,_,FS,FS,q.1 e]) λe=>?_;have q:=CV (Q:=λz=>Q (.int z) H) (q.2 e)
 refine je ho l2 (λe=>#[_,ca cZ (pv 1) (pv 2),_,_,FS,FS,q.1 e]) λe=>?_;have q:=CV (Q:=λz=>Q (.int z) H) (q.2 e)
 refine je ho l3 (λe=>#[_,ca Af (pv 1) (pv 2),_,_,FS,FS, .inl bx,q.1 e]) λe=>?_;have q:=CV (Q:=λz=>Q (.int z) H) (q.2 e)
 refine je ho l4 (λe=>#[_,ca CM (pv 1) (pv 2),_,_,FS,FS,#[y0 (.inl e),vI b_y],q.1 e]) λe=>?_;have q:=CV (Q:=λz=>Q (.int z) H) (q.2 e)
 refine je ho l5 (λe=>#[_,ca D3 (pv 1) (pv 2),_,_,FS,FS,y0 (.inr e),q.1 e]) λe=>?_;refine aJ #[_,dD (di (aL G_P hr (by rfl) T.d_P.c aY (aa (pv 0) (aa (pv 1) (aa (pv 2) ag))))) aj aj,op,x,y,FS,ho,_,FS,?_];have q:=q.2 e;unfold MY at q;cases hc:L3 op x y with
 |true=>rw[hc] at q;exact cg q
 |false=>rw[hc] at q;exact bK q
inductive agR (vs:EA V) (H:Hp) (Q:VK) (_E:XK):Prop
 |mk (x:Int) (_:(vs=[.str "-", .int x]/\Q (.int (-x)) H)\/(vs=[.str "!", .int x]/\Q (.int (MY (x == 0))) H)):agR vs H Q _E
theorem agS (T:aU K mg a):T.YS.U P w base 1 agR:=by
 refine T.YS.F.ok afF (λvs H Q E h=>?_) [02]
 ·obtain⟨x,⟨rfl,_⟩|⟨rfl,_⟩⟩:=h
  ·rfl
  ·rfl
 ·obtain⟨x,⟨rfl,q⟩|⟨rfl,q⟩⟩:=h
  ·refine#[_,(ax (cy (a7 b7 (pv 0) dG (aM _)) (ah (aK (ca cZ aj (pv 1)))) br)
    (ah (aK (dD (a7 b7 (pv 1) aj (aM _)) aj aj)))),?_]
   refine#[FS,_,FS,aP (λ_=>?_) λe=>E7 e [00]];exact#[_,_,FS,FS,by show Q (.int (0-x)) H;rw[Int.zero_sub];exact q]
  ·refine#[_,(ax (cy (a7 b7 (pv 0) dG (aM _)) (ah (aK (ca cZ aj (pv 1)))) br)
    (ah (aK (dD (a7 b7 (pv 1) aj (aM _)) aj aj)))),?_]
   refine#[FS,_,FS,aP (λe=>E7 e [00]) λ_=>?_];refine#[FS,_,FS,?_];rw[cn];unfold MY at q;by_cases hx:x=0
   ·rw[show(x == 0)=FB from beq_iff_eq.mpr hx] at q
    rw[Gb hx];exact cg q
   ·rw[show(x == 0)=FM from beq_eq_false_iff_ne.mpr hx] at q
    rw[FA hx];exact bK q
inductive pP (vs:EA V) (H:Hp) (Q:VK) (_E:XK):Prop
 |mk (s:E1) (x:Int) (_:vs=[.int s, .int x]) (_:Q (.bl (jd s x)) H):pP vs H Q _E
theorem agT (T:aU K mg a):T.YU.U P w base 1 pP:=by
 refine T.YU.F.ok afH [03] [02];obtain⟨st,x,rfl,q⟩:=h;refine#[_,(ax (cy (a7 b7 (pv 0) (aR (by rfl) T.SW) (aM _)) (ah (aK (b8 b7 (pv 1) aj (aM _)))) br)
   (ah (aK (b8 pK (pv 1) aj (aM _))))),?_]
 refine#[FS,_,FS,?_];rw[cn];unfold jd at q;refine aP (λe=>?_) λe=>?_
 ·rw[EL (by have:=Ft e;lia)] at q
  exact#[FS,by rw[cn];exact q]
 ·rw[EI (by have:=Fw e;lia)] at q
  exact#[FS,by rw[cn];exact q]
inductive zD (vs:EA V) (H:Hp) (Q:VK) (_E:XK):Prop
 |mk (s:E1) (_:vs=[.int s]) (_:Q (.int (nO s)) H):zD vs H Q _E
theorem agU (T:aU K mg a):T.d_Q.U P w base 1 zD:=by
 refine T.d_Q.F.ok aki [03] [02];obtain⟨st,rfl,q⟩:=h;refine#[_,(ah (aK (dD (a7 b7 (pv 0) (aR (by rfl) T.SW) (aM _)) aj aj))),?_];refine#[FS,_,FS,?_];rw[cn];unfold nO at q;refine aP (λe=>?_) λe=>?_
 ·rw[EL (by have:=Ft e;lia)] at q
  exact q
 ·rw[EI (by have:=Fw e;lia)] at q
  exact q
inductive B7 (vs:EA V) (H:Hp) (Q:VK) (_E:XK):Prop
 |mk (f:EC) (p:EJ) (l:EA Int) (k:EC×E1) (_:vs=[.str (sb f), .ref p]) (_:H p=EQ (.lst (l.map V.int))) (_:(KI.find? λg=>g.1 == f)=EQ k) (_:l.length=k.2) (_:Q (.int (VM f l)) H):B7 vs H Q _E
theorem XI (h:x=sb s):decide (V.str (sb f)=V.str x)=decide (f=s):=by
 rw[h];exact decide_eq_decide.mpr #[λz=>eE (V.str.inj z),λz=>by rw[z]]
theorem agV (T:aU K mg a):T.YT.U P w base 1 B7:=by
 refine T.YT.F.ok afG [03] [02];obtain⟨f,p,l,k,rfl,hp,hk,hl,q⟩:=h;refine#[_,(ax (cy (a7 b7 (pv 0) dG (aM _)) (ah (aK (bF (xV rfl) (by rfl) T.aeD boot_min (aa (pv 1) ag)))) br)
   (ax (cy (a7 b7 (pv 0) dG (aM _)) (ah (aK (bF (yP rfl) (by rfl) T.aeC boot_max (aa (pv 1) ag)))) br)
   (ah (aK (bF tJ (by rfl) T.Xe boot_abs (aa (cK bB (pv 1) aj (λ_ _=>rfl)) ag)))))),?_]
 unfold VM at q;dsimp only at q;have kf:k.1=f:=by have:=Qp hk;exact beq_iff_eq.mp this
 have km:=J3 hk
 have kk:k=(ED "min",2)\/k=(ED "max",2)\/k=(ED "abs",1):=by
  unfold KI at km
  simpa using km
 refine#[FS,_,FS,?_];rw[XI (s:=ED "min") [00]];refine aP (λe=>?_) λe=>?_
 ·have e:=Ft e
  rw[EL e] at q;have:l.length=2:=by
   rcases kk with z|z|z
   ·rw[hl,z]
   ·rw[hl,z]
   ·rw[z] at kf;rw[e] at kf;exact E7 kf [00]
  match l,this with
  |[i,j],_=>exact#[p,i,j,FS,hp,q]
 have e1:=Fw e;rw[EI e1] at q;refine#[FS,_,FS,?_];rw[XI (s:=ED "max") [00]];refine aP (λe=>?_) λe=>?_
 ·have e:=Ft e
  rw[EL e] at q;have:l.length=2:=by
   rcases kk with z|z|z
   ·rw[hl,z]
   ·rw[hl,z]
   ·rw[z] at kf;rw[e] at kf;exact E7 kf [00]
  match l,this with
  |[i,j],_=>exact#[p,i,j,FS,hp,q]
 have e2:=Fw e;rw[EI e2] at q
 have:l.length=1:=by
  rcases kk with z|z|z
  ·rw[z] at kf;exact E7 kf.symm e1
  ·rw[z] at kf;exact E7 kf.symm e2
  ·rw[hl,z]
 match l,this with
 |[i],_=>exact#[p,_,_,V.int i,FS,FS,cO.of hp,bj (j:=0) rfl,i,FS,q]
inductive XJ (a:be) (vs:EA V) (H:Hp) (Q:VK) (E:XK):Prop
 |mk (x:Int) (_:vs=[.int x]) (_:(dC x->Q (.int x) H)) (_:(¬dC x->Rfs a.Ko E H (-12))):XJ a vs H Q E
theorem agW (T:aU K mg a) (XC:XW K a):T.d_w.O P w base 4 (XJ a):=by
 have G_M:=kZ (P:=P) (w:=w) (base:=base) T XC;refine fP T.d_w.F akp [03] [02];obtain⟨x,rfl,h1,h2⟩:=h;refine#[_,(ax (cy (a7 gj (bF tJ (by rfl) T.Xe boot_abs (aa (pv 0) ag)) (aR (by rfl) T.SX) (aM _)) (ah (eS eD XC.Oc G_M (hr.mono (by lia)) (by rfl) T.Pn T.d_M.c.b)) br)
   (ah (aK (pv 0)))),?_]
 refine#[_,FS,_,_,FS,FS,_,FS,?_];refine aP (λe=>?_) λe=>?_
 ·have e:=Ft e
  exact#[by show 0<=9;decide,_,#[FS,FS],h2 λz=>by unfold dC JR at z;split at e<;>lia]
 ·have e:=Fw e
  exact h1 (by unfold dC JR;split at e<;>lia)
inductive XM (a:be) (vs:EA V) (H:Hp) (Q:VK) (E:XK):Prop
 |mk (op:EC) (s:E1) (x y:Int) (_:vs=[.str (dI op), .int x, .int y]) (_:op∈F6) (_:dC x) (_:dC y) (_:(s=2 ↔ op∈["==","!=","<=",">=","<",">"].map ED)) (_:(s≠2->op∈["+","-","*","/","%"].map ED)) (_:(match fL s op x y with
  | .error k=> ∀H',a9 H H'->oU a E H' k
  | .ok z=> ∀H',a9 H H'->Q (.int z) H')):XM a vs H Q E
theorem Bf (h:op∈["==","!=","<=",">=","<",">"].map ED):op≠ED "+"/\op≠ED "-"/\op≠ED "*"/\op≠ED "/"/\op≠ED "%":=by
 revert op
 decide+kernel
theorem agX (T:aU K mg a) (XC:XW K a):T.Y0.O P w base 5 (XM a):=by
 have G_N:=akZ (P:=P) (w:=w) (base:=base) T
 have G_O:=ak1 (P:=P) (w:=w) (base:=base) T
 have G_w:=agW (P:=P) (w:=w) (base:=base) T XC
 have G_L:=ic (P:=P) (w:=w) (base:=base) T XC;refine fP T.Y0.F afQ [03] [02];obtain⟨op,st,x,y,rfl,ho,bx,b_y,h2,hn,q⟩:=h;refine#[_,(ax (cy (kY (di (aL G_N (hr.mono (by lia)) (by rfl) T.d_N.c aY (aa (pv 0) (aa (pv 2) ag))))) (ah (eS eD XC.Lq G_L (hr.mono (by lia)) (by rfl) T.MA T.d_L.c.b)) br)
   (ah (aK (aL G_w (hr.mono (by lia)) (by rfl) T.d_w.c aA (aa (aL G_O (hr.mono (by lia)) (by rfl) T.d_O.c aY (aa (pv 0) (aa (pv 1) (aa (pv 2) ag)))) ag))))),?_]
 refine#[op,y,FS,ho,λH1 s1=>#[_,FS,?_]];have bx':sF x:=by unfold dC JR at bx;unfold sF;lia
 have ak2:sF y:=by unfold dC JR at b_y;unfold sF;lia
 cases hh:yh op y with
 |false=>
  refine cg ?_;unfold yh at hh;rw[Lx] at hh;have y0:y=0:=by simpa using hh.1
  have od:op=ED "/"\/op=ED "%":=by have:=hh.2;rw[OP,LL,FH,FH] at this;exact this
  have n2:st≠2:=λz=>by
   have:=Bf (h2.mp z);rcases od with z|z
   ·exact this.2.2.2.1 z
   ·exact this.2.2.2.2 z
  have ec:fL st op x y= .error (-11):=by
   unfold fL WZ;rw[EI n2,y0];rcases od with z|z
   ·rw[z,EI [00],EI [00],EI [00],EL rfl]
   ·rw[z,EI [00],EI [00],EI [00],EL rfl]
  rw[ec] at q;exact#[by show 0<=9;decide,_,#[FS,FS],q H1 s1 _ (.head _)]
 |true=>
  refine bK ?_;refine#[op,x,y,FS,ho,bx',ak2,hh,?_];have key:fL st op x y=if dC (mE op x y) then .ok (mE op x y) else .error (-12):=by
   unfold fL;by_cases z:st=2
   ·rw[EL z]
    obtain⟨e1,e2,e3,e4,e5⟩:=Bf (h2.mp z);have:mE op x y=MY (L3 op x y):=by unfold mE;rw[EI e1,EI e2,EI e3,EI e4,EI e5]
    rw[this,EL (gA _)]
   ·rw[EI z]
    have y0:op=ED "/"\/op=ED "%"->y≠0:=λo=>by
     unfold yh at hh;intro w0;rw[w0] at hh;rcases o with o|o
     ·rw[o] at hh;exact E7 hh [00]
     ·rw[o] at hh;exact E7 hh [00]
    have ck: ∀v:Int,(match VN v 0 with
      | .error c=> .error c
      | .ok (v,_)=> .ok v)=if dC v then(.ok v:Except Int Int) else .error (-12):=λv=>by
     unfold VN;by_cases h:dC v
     ·rw[EL h,EL h]
     ·rw[EI h,EI h]
    unfold WZ mE;by_cases e1:op=ED "+"
    ·rw[EL e1,EL e1];exact ck _
    rw[EI e1,EI e1];by_cases e2:op=ED "-"
    ·rw[EL e2,EL e2];exact ck _
    rw[EI e2,EI e2];by_cases e3:op=ED "*"
    ·rw[EL e3,EL e3];exact ck _
    rw[EI e3,EI e3];by_cases e4:op=ED "/"
    ·rw[EI (y0 (.inl e4)),EL e4,EL e4];exact ck _
    rw[EI e4];have e5:op=ED "%":=by
     have:=hn z;simp only[Fe,Ph,EW,GZ,or_false] at this;rcases this with z|z|z|z|z
     ·exact E7 z e1
     ·exact E7 z e2
     ·exact E7 z e3
     ·exact E7 z e4
     ·exact z
    rw[EI (y0 (.inr e5)),EI e4,EL e5];exact ck _
  rw[key] at q;refine#[_,FS,λhb=>?_,λhb=>?_]
  ·rw[EL hb] at q
   exact q H1 s1
  ·rw[EI hb] at q
   exact q H1 s1 _ (.tail _ (.head _))
structure GX (X:Cx) (a:be) (E:XK):Prop where
 T:aU X.K X.mg a
 C:XW X.K a
 hr:bW 5 X.A
 up:dg (fW X.prog X.w) X E
 nd:X.N.Nodup
 n0:X.N[0]?=EQ ("worker":Fh)
 v0:oH X.env.scope "worker"
 n2:X.N[2]?=EQ ("parts":Fh)
 v2:oH X.env.scope "parts"
structure o6 (a:be) (H:Hp) (B:rN) (c:px) (S:Hr) (F0:EA (EC×E1)) (r:V) (b:E1) (ff:EA (a0×V)) (ds:EA rk) (u:oJ) (us:EA oJ) (e:ER) (ts:EA dQ) (sc:EA fm) (n:E1):Prop where
 FO:gm S F0
 gd:Gd F0 (.go ((e,u.ps)::ts) sc n)
 W:eT a B H c S.funs r b ff ds (u::us) ((e,u.ps)::ts) sc n
inductive agY (a:be) (ok:Hr->ER->EA Int->Prop) (vs:EA V) (H:Hp) (Q:VK) (E:XK):Prop
 |mk {B:rN}{c:px}{S:Hr}{F0:EA (EC×E1)}{r:V}{b:E1}{ff:EA (a0×V)}{ds:EA rk}{u:oJ}{us:EA oJ}{e:ER}{ts:EA dQ}{sc:EA fm}{n:E1}{m:Mc}(_:vs=[.ref c.wk,u.v, .ref u.p]) (_:ok S e u.ps) (_:o6 a H B c S F0 r b ff ds u us e ts sc n) (_:d9 S.funs (.go ((e,u.ps)::ts) sc n)=EQ m) (_:nQ a B c S.funs (Q .HZ) E m):agY a ok vs H Q E
section
variable {H H':Hp}
theorem o6.ev (G:o6 a H B c S F0 r b ff ds u us e ts sc n):au a B.M B.H e u.v:=by
 cases G.W.tk with
 |cons h _=>exact h.1
theorem o6.hp (G:o6 a H B c S F0 r b ff ds u us e ts sc n):H u.p=EQ (.lst (u.ps.map V.int)):=G.W.O.get 5 rfl
theorem o6.psB (G:o6 a H B c S F0 r b ff ds u us e ts sc n): ∀x∈u.ps,dC x:=(G.gd.1 (e,u.ps) EO).ps
theorem o6.ws (G:o6 a H B c S F0 r b ff ds u us e ts sc n):WSx F0 e:=(G.gd.1 (e,u.ps) EO).ws
theorem o6.len (G:o6 a H B c S F0 r b ff ds u us e ts sc n):u.ps.length+n<=10000:=G.W.bn.tl 0 _ rfl
theorem o6.grow (G:o6 a H B c S F0 r b ff ds u us e ts sc n) (k:a9 H H'):o6 a H' B c S F0 r b ff ds u us e ts sc n:=#[G.FO,G.gd,G.W.grow k]
theorem o6.part (G:o6 a H B c S F0 r b ff ds u us e ts sc n) (h:H' u.p=EQ (.lst (ps.map V.int))) (k: ∀b o,H b=EQ o->b≠u.p->H' b=EQ o) (hl:ps.length<=u.ps.length) (hb: ∀x∈ps,dC x):o6 a H' B c S F0 r b ff ds { u with ps:=ps } us e ts sc n:=by
 refine#[G.FO,#[λt ht=>?_,G.gd.2],G.W.parts h k (by have:=G.len;lia)];rcases EW.mp ht with z|z
 ·rw[z];exact#[G.ws,hb]
 ·exact G.gd.1 t (EN _ z)
end
abbrev oN (P:Fz) (w:Ga) (K:EF) (mg:Fh->ET EH) (base:Gn) (a:be) (k:E1) (f:EJ) (fd:FL) (y:Fh) (ok:Hr->ER->EA Int->Prop):Prop:=bS P w K mg base (fW P w) k f fd ["worker",y,"parts"] (agY a ok)
theorem qb {x Gz y:Fh}{st:Stmt}{f:EJ}{fd:FL}{N:EA Fh}{ok:Hr->ER->EA Int->Prop}(T:aU K mg a) (XC:XW K a) (hk:5<=k) (F:oF K x Gz st f fd) (S:az N ["worker",y,"parts"] (af st))
  (Jc: ∀(Gp:EH) (A:Gk) (outer:EA Env) (s:EM) (H:Hp) (B:rN) (c:px) (S:Hr) (F0:EA (EC×E1)) (r:V) (b:E1) (ff:EA (a0×V)) (ds:EA rk) (u:oJ) (us:EA oJ) (e:ER) (ts:EA dQ) (sc:EA fm) (n:E1) (m:Mc) (Q:VK) (E:XK),bW k (A.deeper (Jf Gz (af st) s.heap.objs.size f Gp))->ok S e u.ps->o6 a H B c S F0 r b ff ds u us e ts sc n->d9 S.funs (.go ((e,u.ps)::ts) sc n)=EQ m->nQ a B c S.funs (Q .HZ) E m->
   let X:=fi (fW P w) P w K mg base N Gz (af st) f Gp A outer s H E
   let D:eJ:= { nx:=λ_ H'=>Q .HZ H',rt:=Q }
   GX X a E->Bd X (a8 st) D (L2.start N [.ref c.wk,u.v, .ref u.p]) H):oN P w K mg base a (k+1) f fd y ok:=by
 refine fP F S [03] [02];obtain @⟨B,c,S',F0,r,b,ff,ds,u,us,e,ts,sc,n,m,rfl,ho,G,hm,g⟩:=h;have ZL: ∀g∈[("worker":Fh),y,"parts"],oH (af st) g:=λg hg=>(S.par g hg).elim .inl λz=> .inr (.inl z)
 have pre:=S.pre;refine Jc Gp A outer s H B c S' F0 r b ff ds u us e ts sc n m Q E hr ho G hm g #[T,XC,hr.mono hk,aA,S.nd,?_,ZL _ (.head _),?_,ZL _ (.tail _ (.tail _ (.head _)))]
 ·match N,pre with
  |x::_,e=>exact FN EQ (IZ e).1
 ·match N,pre with
  |_::_::x::_,e=>exact FN EQ (IZ (IZ (IZ e).2).2).1
section
variable {X:Cx}{E:XK}{B:rN}{c:px}{F:Jd}{r:V}{b:E1}{ff:EA (a0×V)}{ds:EA rk}{u:oJ}{us:EA oJ}{t:dQ}{ts:EA dQ}{sc:EA fm}{n:E1}{D:eJ}{σ:L2.St}{H:Hp}{e:G8}{p1 p2 p3 p4 p5:Pos}
theorem fb (Y:GX X a E) (q:Pe X e (EQ (.ref c.wk)::σ) H λv H1=> ∃(o:ER) (us:EA oJ) (ts:EA dQ),eT a B H1 c F r b ff ds us ts sc n/\au a B.M B.H o v/\nQ a B c F (D.nx (EQ (.ref c.wk)::σ)) E (jX o ts sc n)) (W:eT a B H c F r b ff ds us ts sc n) (hp:ig p2 p4:=by rfl) (JS:Fb [e] X.env=[(FM,eval e X.env)]:=by rfl):
  Bd X [.Expr (.Call (.Attribute (.Name "worker" p1) "begin" p2) [e] [] p4) p5] D (EQ (.ref c.wk)::σ) H:=
 eA (bi (cx (dX Y.n0 Y.v0) Y.T.Hw Y.T.Wh.c (tO Y.T Y.C) Y.hr Y.up (aa dj ag JS) JS rfl (eB hp (by rw[JS];rfl))) rfl) #[c.wk,c.dw,_,FS,W.ins,FS,q.mono λv H1 ⟨o,us,ts,W1,ev,g⟩=> .mk rfl W1 ev g]
theorem AJ {N:Hp->Prop}{E':XK}(g:nQ a B c F N E (eN ts sc n x)):nQ a B c F N E' (eN ts sc n x):=by
 cases ts<;>exact g
theorem de (Y:GX X a E) (W:eT a B H c F r b ff ds us ts sc n) (q:Pe X e (EQ (.ref c.wk)::σ) H λv H1=> ∃(x:Int) (ds:EA rk) (u:oJ) (us:EA oJ) (t:dQ) (ts:EA dQ) (sc:EA fm),v= .int x/\eT a B H1 c F r b ff ds (u::us) (t::ts) sc n/\nQ a B c F (D.nx (EQ (.ref c.wk)::σ)) E (eN ts sc n x)) (hp:ig p2 p4:=by rfl) (JS:Fb [e] X.env=[(FM,eval e X.env)]:=by rfl):
  Bd X [.Expr (.Call (.Attribute (.Name "worker" p1) "finish" p2) [e] [] p4) p5] D (EQ (.ref c.wk)::σ) H:=
 eA (bi (cx (dX Y.n0 Y.v0) Y.T.Hw Y.T.YY.c (xZ Y.T) (Y.hr.mono [01]) aY (aa dj ag JS) JS rfl (eB hp (by rw[JS];rfl))) rfl) #[c.wk,c.dw,_,FS,W.ins,FS,q.mono λv H1 ⟨x,ds,u,us,t,ts,sc,hv,W1,g⟩=>by subst hv;exact .mk rfl W1 (AJ g)]
theorem dH {Q:VK}(Y:GX X a E) (hp:H p=EQ (.lst xs)) (q:Q (.int xs.length) H) (hg:Gl X "len":=by rfl):Pe X (.Call (.Name "len" p1) [.Name "parts" p3] [] p2) (EQ (.ref c.wk)::EQ v::EQ (.ref p)::σ) H Q:=iP Y.T.JP hp (dX Y.n2 Y.v2) [05] q hg
end
theorem jt {α β:Type}{F:α->β->Prop} : ∀ {l:EA α}{m:EA β}{i:E1}{y:β},Paired F l m->m[i]?=EQ y-> ∃x,l[i]?=EQ x/\F x y
 |_,_,_,_, .nil,h=>by cases h
 |_,_,0,_, .cons r t,h=>#[_,FS,by obtain rfl:=E5 h;exact r]
 |_,_,i+1,_, .cons r t,h=>jt (i:=i) t h
theorem agZ {a:be}{M:EJ->Prop}{H:Hp}{e x:ER}(he:e= .neg x\/e= .not x) (h:au a M H e v): ∃sg u,bD M H a.Ke [("sign", .str sg),("operand",u)] v/\au a M H x u/\(sg="-"/\e= .neg x\/sg="!"/\e= .not x):=by
 rcases he with rfl|rfl
 ·unfold au at h
  obtain⟨u,h1,h2⟩:=h;exact#[_,u,h1,h2, .inl #[FS,FS]]
 ·unfold au at h
  obtain⟨u,h1,h2⟩:=h;exact#[_,u,h1,h2, .inr #[FS,FS]]
theorem ak3 (T:aU K mg a) (XC:XW K a):oN P w K mg base a 6 a.f_4 a.adt "unary" λ_ e _=> ∃x,e= .neg x\/e= .not x:=by
 refine qb T XC [01] T.d_4.F akl λGp A outer s H B c S F0 r b ff ds u us e ts sc n m Q E hr ho G hm g=>?_;intro X D Y;obtain⟨x,he⟩:=ho;have W:=G.W;obtain⟨sg,w,i,hw,un⟩:=agZ he G.ev;refine cv (jg (dH Y G.hp (cM #[_,_,FS,FS,?_])));rw[EY];have hp:=G.hp;generalize V3:u.ps=ps at hm hp;cases ps with
 |nil=>
  refine cg (fb Y (ci (bv 1 (i.fld W.O.same T.Ox T.MC rfl #[x,_,_,W,hw,?_])) rfl) W);rcases un with⟨_,rfl⟩|⟨_,rfl⟩
  ·cases hm;rw[V3];exact g
  ·cases hm;rw[V3];exact g
 |cons y ys=>
  refine bK (de Y W (bI (aO (ci (bv 1 (i.fld W.O.same T.Ox T.NV rfl (aO (lr (bv 2 (cM #[u.p,_,_,V.int y,FS,FS,cO.of hp,bj (j:=0) rfl,cC #[y,?_]])) (λ_ _=>rfl))))) rfl)) (agS T) (hr.mono [01]) T.YS.c aY));rcases un with⟨rfl,rfl⟩|⟨rfl,rfl⟩
  ·cases hm
   exact .inl #[FS,_,_,_,_,_,_,_,FS,W,g]
  ·cases hm
   exact .inr #[FS,_,_,_,_,_,_,_,FS,W,g]
theorem ak4 (T:aU K mg a) (XC:XW K a):oN P w K mg base a 6 a.f_8 a.ady "choice" λ_ e _=> ∃x y z,e= .pick x y z:=by
 refine qb T XC [01] T.d_8.F akq λGp A outer s H B c S F0 r b ff ds u us e ts sc n m Q E hr ho G hm g=>?_;intro X D Y;obtain⟨x,y,z,rfl⟩:=ho;have W:=G.W;have ev:=G.ev;unfold au at ev;obtain⟨u1,u2,u3,i,e1,e2,e3⟩:=ev;have hp:=G.hp;refine cv (jg (dH Y hp (cM #[_,_,FS,FS,?_])));rw[EY];generalize V3:u.ps=ps at hm hp;have bg: ∀ {p1 p2 p3 p4 p5 p6:Pos}{f:Fh}{o:ER}{v:V},([("condition",u1),("chosen",u2),("otherwise",u3)]:EA (Fh×V)).lookup f=EQ v->ak K a.JO f->au a B.M B.H o v->nQ a B c S.funs (Q .HZ) E (jX o ((.pick x y z,u.ps)::ts) sc n)->(p2.endLine == p4.line)=FB->Bd X [.Expr (.Call (.Attribute (.Name "worker" p1) "begin" p2) [.Attribute (.Name "choice" p3) f p6] [] p4) p5] D [EQ (.ref c.wk),EQ u.v,EQ (.ref u.p)] H:=λhl no ev g hp=>fb Y (ci (bv 1 (i.fld W.O.same T.O2 no hl #[_,_,_,W,ev,g])) rfl) W hp
 match ps,hm with
 |[],hm=>cases hm;exact cg (bg rfl T.LC e1 (by rw[V3];exact g) rfl)
 |[t],hm=>
  cases hm;refine bK (cv (jg (dH Y hp (cM #[_,_,FS,FS,bK (cv (cP pK (lr (bv 2 (cM #[u.p,_,_,V.int t,FS,FS,cO.of hp,bj (j:=0) rfl,cM #[FS,_,FS,?_]])) (λ_ _=>rfl))))]))));rw[cn];by_cases ht:t=0
  ·rw[EI (λw=>w ht)] at g
   rw[Gb ht];exact bK (bg rfl T.LD e3 (by rw[V3];exact g) rfl)
  ·rw[EL ht] at g
   rw[FA ht];exact cg (bg rfl T.MF e2 (by rw[V3];exact g) rfl)
 |[t,t'],hm=>
  cases hm;exact bK (cv (jg (dH Y hp (cM #[_,_,FS,FS,cg (de Y W (lr (bv 2 (cM #[u.p,_,_,V.int t',FS,FS,cO.of hp,bj (j:=1) rfl,_,_,_,_,_,_,_,FS,W,g])) (λ_ _=>rfl)))]))))
 |_::_::_::_,hm=>cases hm
def kJ:ER->ET (E1×EA ER×EA EC)
 | .sums e r=>EQ (3,e::CS r,zu r)
 | .prods e r=>EQ (4,e::CS r,zu r)
 | .cmp op x y=>EQ (2,[x,y],[op])
 | .both e l=>EQ (1,e::lw l,(lw l).map λ_=>ED "&&")
 | .either e l=>EQ (0,e::lw l,(lw l).map λ_=>ED "||")
 |_=>Fa
section
variable {M:EJ->Prop}{H:Hp}
theorem l0: ∀ {l:Jw}{us:EA V},cu a M H l us->Paired (λu e=>au a M H e u) us (lw l)
 | .nil,us,h=>by unfold cu at h;rw[h];exact .nil
 | .cons e l,us,h=>by
  unfold cu at h;obtain⟨u,vs,rfl,h1,h2⟩:=h;exact .cons h1 (l0 h2)
theorem qI: ∀ {l:PM}{us ss:EA V},dE a M H l us ss->Paired (λu e=>au a M H e u) us (CS l)/\ss=(zu l).map λo=>V.str (dI o)
 | .nil,us,ss,h=>by unfold dE at h;rw[h.1,h.2];exact#[.nil,FS]
 | .cons op e l,us,ss,h=>by
  unfold dE at h;obtain⟨u,vs,ts,rfl,rfl,h1,h2⟩:=h;obtain⟨g1,g2⟩:=qI h2;exact#[.cons h1 g1,by rw[g2];rfl]
inductive aaH (a:be) (M:EJ->Prop) (H:Hp) (s:E1) (ops:EA ER) (sgs:EA EC) (v:V):Prop
 |mk (oq gq:V) (us:EA V) (_:bD M H a.Jj [("strength", .int s),("operands",oq),("signs",gq)] v) (_:b4 M H us oq) (_:Paired (λu e=>au a M H e u) us ops) (_:b4 M H (sgs.map λo=>V.str (dI o)) gq):aaH a M H s ops sgs v
theorem nE {e:ER}{v:V}{s:E1}{ops:EA ER}{sgs:EA EC}(h:au a M H e v) (hc:kJ e=EQ (s,ops,sgs)):aaH a M H s ops sgs v:=by
 have sg: ∀(t:EC) (x:Fh) (l:Jw) (us:EA V),dI t=x->us.length=(lw l).length->us.map (λ_=>V.str x)=((lw l).map λ_=>t).map λo=>V.str (dI o):=λt x l us e hl=>by
  rw[Jg,<-e,V9,hl];exact(V9 ..).symm
 cases e with
 |sums e r=>
  unfold au at h;cases hc;obtain⟨_,_,u,us,ss,h1,h2,h3,h4,h5⟩:=h;obtain⟨g1,g2⟩:=qI h5;exact#[_,_,_,h1,h2, .cons h4 g1,by rw[<-g2];exact h3]
 |prods e r=>
  unfold au at h;cases hc;obtain⟨_,_,u,us,ss,h1,h2,h3,h4,h5⟩:=h;obtain⟨g1,g2⟩:=qI h5;exact#[_,_,_,h1,h2, .cons h4 g1,by rw[<-g2];exact h3]
 |cmp op x y=>
  unfold au at h;cases hc;obtain⟨_,_,u1,u2,h1,h2,h3,h4,h5⟩:=h;exact#[_,_,_,h1,h2, .cons h4 (.cons h5 .nil),h3]
 |both e l=>
  unfold au at h;cases hc;obtain⟨_,_,u,us,h1,h2,h3,h4,h5⟩:=h;have g1:=l0 h5;exact#[_,_,_,h1,h2, .cons h4 g1,by rw[<-sg (ED "&&") "&&" l us [00] (bL g1)];exact h3]
 |either e l=>
  unfold au at h;cases hc;obtain⟨_,_,u,us,h1,h2,h3,h4,h5⟩:=h;have g1:=l0 h5;exact#[_,_,_,h1,h2, .cons h4 g1,by rw[<-sg (ED "||") "||" l us [00] (bL g1)];exact h3]
 |_=>cases hc
theorem oC {F:Jd}{e:ER}{s:E1}{ops:EA ER}{sgs:EA EC}(hc:kJ e=EQ (s,ops,sgs)) (ps:EA Int) (ts:EA dQ) (sc:EA fm) (n:E1):d9 F (.go ((e,ps)::ts) sc n)=if s<=1 then oP s ops e ps ts sc n else k7 s ops sgs e ps ts sc n:=by
 cases e<;>cases hc<;>rfl
end
theorem yL {s:E1}{ops:EA ER}{sgs:EA EC}(h:sgs[qs.length]?=Fa):k7 s ops sgs e (qs++[x,y]) ts sc n=Fa:=by
 unfold k7;dsimp only;rw[show(qs++[x,y]).length=qs.length+2 by simp,EL (by lia),Ml,h]
theorem t9 {L:EA String}{V:EA EC}{G:EA (EC×E1)} : ∀ {l:PM}{op:EC},vH L V G l->op∈zu l->op∈L.map ED
 | .nil,_,_,h=>nomatch h
 | .cons o x l,op,w,h=>by
  unfold vH at w;rcases EW.mp h with z|z
  ·rw[z];exact w.1
  ·exact t9 w.2.2 z
theorem rj:(∀o∈["+","-"].map ED,o∈F6/\o∉["==","!=","<=",">=","<",">"].map ED/\o∈["+","-","*","/","%"].map ED)/\(∀o∈["*","/","%"].map ED,o∈F6/\o∉["==","!=","<=",">=","<",">"].map ED/\o∈["+","-","*","/","%"].map ED)/\(∀o∈["==","!=","<=",">=","<",">"].map ED,o∈F6):=by decide+kernel
theorem yD {s:E1}{ops:EA ER}{sgs:EA EC}{op:EC}(w:WSx F0 e) (hc:kJ e=EQ (s,ops,sgs)) (h2: ¬s<=1) (ho:op∈sgs):op∈F6/\(s=2 ↔ op∈["==","!=","<=",">=","<",">"].map ED)/\(s≠2->op∈["+","-","*","/","%"].map ED):=by
 obtain⟨V,G,w,_⟩:=w;cases e with
 |sums e l=>
  cases hc;unfold WS at w;have z:=rj.1 op (t9 w.2.2 ho);exact#[z.1,#[(λy=>by cases y),λy=>E7 y z.2.1],λ_=>z.2.2]
 |prods e l=>
  cases hc;unfold WS at w;have z:=rj.2.1 op (t9 w.2.2 ho);exact#[z.1,#[(λy=>by cases y),λy=>E7 y z.2.1],λ_=>z.2.2]
 |cmp o x y=>
  cases hc;unfold WS at w;rw[Fd.mp ho];exact#[rj.2.2 _ w.1,#[λ_=>w.1,λ_=>rfl],λz=>E7 rfl z]
 |both e l=>cases hc;exact E7 (E6 1) h2
 |either e l=>cases hc;exact E7 (Fs 1) h2
 |_=>cases hc
section
variable {E:XK}{H:Hp}{Q:VK}
theorem wA (Y:GX X a E) (C:aaH a B.M B.H s ops sgs v) (W:eT a B H c F r b ff ds (u::us) ((e,u.ps)::ts) sc n) (lt: ∀o,ops[u.ps.length]?=EQ o->nQ a B c F (D.nx (EQ (.ref c.wk)::EQ v::EQ (.ref u.p)::σ)) E (jX o ((e,u.ps)::ts) sc n)) (ge:ops[u.ps.length]?=Fa->Bd X Tb D (EQ (.ref c.wk)::EQ v::EQ (.ref u.p)::σ) H)
  (hg:Gl X "len":=by rfl) (n1:X.N[1]?=EQ ("chain":Fh):=by rfl) (v1:oH X.env.scope "chain":=by exact Gx rfl) (h2:(q1.endLine == q2.line)=FB:=by rfl):
  Bd X [.If (.Compare (.Call (.Name "len" p1) [.Name "parts" p2] [] p3) [.Lt] [.Call (.Name "len" p4) [.Attribute (.Name "chain" p5) "operands" p6] [] p7] p8) [.Expr (.Call (.Attribute (.Name "worker" q4) "begin" q1) [.Subscript (.Attribute (.Name "chain" q3) "operands" p9) (.Call (.Name "len" q5) [.Name "parts" q6] [] q7) q8] [] q2) q9] Tb q0] D (EQ (.ref c.wk)::EQ v::EQ (.ref u.p)::σ) H:=by
 obtain⟨oq,gq,VG,i,⟨o,rfl,_,ho⟩,pr,_⟩:=C;have ho:=W.O.same _ _ ho;have hp:=W.O.get 5 rfl;have fl: ∀ {Q:VK},Q (.ref o) H->dL X.K "operands" Q v H:=λq=>i.fld W.O.same Y.T.ME Y.T.Me rfl q
 refine cv (cP jK (dH Y hp (iP Y.T.JP ho (ao (dX n1 v1) rfl) (λ_ q=>fl q) #[_,_,FS,FS,_,FS,dz (λz=>?_) λz=>ge (Ig ?_)] hg) hg) rfl)
 ·rw[EY,bL pr] at z
  have lt':u.ps.length<ops.length:=by lia
  obtain⟨w,hw,ew⟩:=jt pr (GU lt');exact fb Y (lr (ci (bv 1 (fl (dH Y hp #[o,_,_,w,FS,FS,cO.of ho,by rw[EY];exact bj hw,_,_,_,W,ew,lt _ (GU lt')] hg)) n1 v1) rfl) (λ_ _=>rfl)) W h2
 ·rw[EY,bL pr] at z
  lia
end
theorem ak5 (T:aU K mg a) (XC:XW K a):oN P w K mg base a 6 a.f_6 a.adv "chain" λ_ e _=> ∃s ops sgs,kJ e=EQ (s,ops,sgs)/\s<=1:=by
 refine qb T XC [01] T.d_6.F akn λGp A outer s H B c S F0 r b ff ds u us e ts sc n m Q E hr ho G hm g=>?_;intro X D Y;obtain⟨st,ops,sgs,hc,hs⟩:=ho;have W:=G.W;rw[oC hc,EL hs] at hm;have C:=nE G.ev hc;obtain⟨oq,gq,VG,i,_⟩:=id C;have fl: ∀ {Q:VK},Q (.int st) H->dL K "strength" Q u.v H:=λq=>i.fld W.O.same T.ME T.KC rfl q
 unfold oP at hm;refine aag (Z:= ¬u.ps.getLast?.any (jd st)=FB) (λna=>wA Y C W (λo ho=>?_) λho=>?_) λTb=>CL (cP gj (dH Y G.hp (cM #[_,_,FS,FS,_,FS,?_])))
 ·rw[EI na,ho] at hm
  cases hm;exact g
 ·rw[EI na,ho] at hm
  cases hm;exact de Y W (A8 cZ (cM (bI (aO (ci (bv 1 (fl (cC #[st,FS,_,_,FS,FS,_,_,_,_,_,_,_,FS,W,g]))) rfl)) (agU T) (hr.mono [01]) T.d_Q.c aY)))
 ·rcases SD u.ps with z|⟨qs,y,z⟩
  ·rw[z]
   exact bK (bK (Tb (by rw[z];exact EE)))
  ·rw[SE] at z
   have hp:=G.hp;rw[z,GG] at hp;rw[z,EY,Fc];refine dz (λ_=>?_) λz=>E7 z (by show¬ ¬(0:Int)<((qs.length+1:E1):Int);lia)
   refine dv (bI (aO (ci (bv 1 (fl (aO (lr (bv 2 #[_,dJ cG aj,_,FS,u.p,_,_,V.int y,FS,FS,cO.of hp,d8 _ _,cC #[st,y,FS,_,FS,aP (λey=>?_) λey=>Tb (by rw[z];simp [ey])]]) (λ_ _=>rfl))))) rfl)) (agT T) (hr.mono [01]) T.YU.c aY);rw[z,EL (by simp [ey])] at hm;cases hm;exact de Y W (bI (aO (ci (bv 1 (fl (cC #[st,FS,_,_,_,_,_,_,_,FS,W,g]))) rfl)) (agU T) (hr.mono [01]) T.d_Q.c aY)
theorem tm {α:Type}(l:EA α) (h:2<=l.length): ∃qs x y,l=qs++[x,y]:=by
 refine#[l.take (l.length-2),l[l.length-2],l[l.length-1],?_];have t1:=SA (l.length-2) l;have t2:l.drop (l.length-2)=[l[l.length-2],l[l.length-1]]:=by
  rw[GO (by lia),GO (by lia),JE (by lia)]
  congr 2
  congr 1
  lia
 rw[t2] at t1;exact t1.symm
theorem Cr {H:Hp}{Q:VK}{te:TE}(he:PE X e te) (hv: ∀R:VK,R (.ref p) H->te σ H R) (h:H p=EQ (.lst (xs++[v]))) (q:Q v (aF H p (.lst xs))) (hb:HM e "pop" X.env (eval e X.env)=eval e X.env:=by rfl) (hp:ig p1 p2:=by rfl):Pe X (.Call (.Attribute e "pop" p1) [] [] p2) σ H Q:=
 #[_,Be Iw Rp Rq Bq he hb hp,hv _ #[.inl #[FS,_,cO.of h],p,_,v,FS,FS,h,by simp,by rw[Tn];exact q]]
theorem ak6 (T:aU K mg a) (XC:XW K a):oN P w K mg base a 6 a.f_7 a.adw "chain" λ_ e _=> ∃s ops sgs,kJ e=EQ (s,ops,sgs)/\ ¬s<=1:=by
 refine qb T XC [01] T.d_7.F ako λGp A outer s H B c S F0 r b ff ds u us e ts sc n m Q E hr ho G hm g=>?_;intro X D Y;obtain⟨st,ops,sgs,hc,hs⟩:=ho;rw[oC hc,EI hs] at hm;have C:=nE G.ev hc;refine gh (λσ' H'=> ∃(ps:EA Int) (y:ET V),σ'=[EQ (.ref c.wk),EQ u.v,EQ (.ref u.p),y]/\o6 a H' B c S F0 r b ff ds { u with ps:=ps } us e ts sc n/\qN ops e ps ts sc n=EQ m) ?_ (cP gj (dH Y G.hp (cM #[_,_,FS,FS,_,FS,?_])))
 ·rintro σ' H' ⟨ps,y,rfl,G',O9⟩
  refine wA (u:= { u with ps:=ps }) Y C G'.W (λo ho=>?_) λho=>?_
  ·have ho:ops[ps.length]?=EQ o:=ho
   unfold qN at O9;rw[ho] at O9;cases O9;exact g
  ·have ho:ops[ps.length]?=Fa:=ho
   unfold qN at O9;rw[ho] at O9;obtain⟨x,hx,rfl⟩:=FG.mp O9;obtain⟨qs,rfl⟩: ∃qs,ps=qs++[x]:=EA.getLast?_eq_some_iff.mp hx;have XQ:=G'.hp;rw[GG] at XQ;exact de Y G'.W (lr (bv 2 #[_,dJ cG aj,_,FS,u.p,_,_,V.int x,FS,FS,cO.of XQ,d8 _ _,_,_,_,_,_,_,_,FS,G'.W,g]) (λ_ _=>rfl))
 ·rw[EY]
  refine dz (λz=>?_) λz=>#[u.ps,Fa,FS,G,by rw[<-hm];exact(m8 (by lia)).symm];obtain⟨qs,x,y,ep⟩:=tm u.ps (by lia);have hp:H u.p=EQ (.lst ((qs++[x]).map V.int++[V.int y])):=by rw[G.hp,ep];simp
  rw[ep] at hm;cases WI:sgs[qs.length]? with
  |none=>rw[yL WI] at hm;cases hm
  |some op=>
   rw[rA WI] at hm;obtain⟨o1,o2,o3⟩:=yD G.ws hc hs (Gs WI);have bx:dC x:=G.psB x (by simp [ep]);have bY:dC y:=G.psB y (by simp [ep]);have mem: ∀z∈qs++[x],dC z:=λz hz=>G.psB z (by rw[ep];simp only[Fp,EW,GZ,or_false] at hz ⊢; rcases hz with h|h;exact .inl h;exact .inr (.inl h))
   have g1:o6 a (aF H u.p (.lst ((qs++[x]).map V.int))) B c S F0 r b ff ds { u with ps:=qs++[x] } us e ts sc n:=G.part ae nj (by simp [ep]) mem;refine aN 3 Y.nd (Cr (pv 2) [05] hp ?_)
   have VF:=g1.hp
   have VF:aF H u.p (.lst ((qs++[x]).map V.int)) u.p=EQ (.lst (qs.map V.int++[V.int x])):=by rw[ae,GG];rfl
   obtain⟨oq,gq,VG,i,_,_,⟨sq,rfl,_,hsq⟩⟩:=C;refine ik (pv 2) [05] VF (bI (aO (lr (ci (bv 1 (i.fld g1.W.O.same T.ME T.Nj rfl (A8 cZ (dH Y VF (cM #[_,_,FS,FS,sq,_,_,V.str (dI op),FS,FS,cO.of (g1.W.O.same _ _ hsq),?_,aO (lr (bv 2 #[_,dJ cG aj,_,FS,u.p,_,_,V.int x,FS,FS,cO.of VF,d8 _ _,aO (bv 3 (cC #[op,st,x,y,FS,o1,bx,bY,o2,o3,?_]))]) (λ_ _=>rfl))]))))) rfl) (λ_ _=>rfl))) (agX T XC) hr T.Y0.c aA)
   ·rw[Fc,EY,show(((qs.length+[V.int x].length:E1):Int)-1)=((qs.length:E1):Int) by show((qs.length+1:E1):Int)-1=_;lia]
    exact bj (by rw[FQ,WI];rfl)
   ·cases hk:fL st op x y with
    |error k=>
     rw[hk] at hm;cases hm;exact λH' sm=>g H' λb o z=>sm b o (g1.W.O.same b o z)
    |ok z=>
     rw[hk] at hm;have gl:=G.len;rw[ep,Fc] at gl;have gl:qs.length+2+n<=10000:=gl;intro H2 s2;refine#[_,s2 _ _ VF,by rw[Fc,EY,Ht];show qs.length+1<_;lia,cc #[qs++[x,z],EQ (.int y),FS,?_,hm]];refine G.part (by rw[ae];simp) (λb o e nb=>?_) (by simp [ep]) λw hw=>?_
     ·rw[ac nb];exact s2 b o (nj b o e nb)
     ·have hw:w∈qs++[x]\/w=z:=by
       simp only[Fp,EW,GZ,or_false] at hw ⊢;rcases hw with h|h|h
       ·exact .inl (.inl h)
       ·exact .inl (.inr h)
       ·exact .inr h
      rcases hw with hw|hw
      ·exact mem w hw
      ·rw[hw];exact sw hk
theorem ak7 (T:aU K mg a) (XC:XW K a):oN P w K mg base a 7 a.f_5 a.adu "chain" λ_ e _=> ∃x,kJ e=EQ x:=by
 refine qb T XC [01] T.d_5.F akm λGp A outer s H B c S F0 r b ff ds u us e ts sc n m Q E hr ho G hm g=>?_;intro X D Y;obtain⟨⟨st,ops,sgs⟩,hc⟩:=ho;obtain⟨oq,gq,VG,i,_⟩:=nE G.ev hc;refine cv #[_,a7 kT (ao (pv 1) rfl) (zZ (aa (aR (by rfl) T.Vv) (aa (aR (by rfl) T.SW) ag))) rfl,i.fld G.W.O.same T.ME T.KC rfl #[by show 2<=FE;decide,λt ht=>#[t,_,FS, .inr (rh.of ae),FS,FS,_,FS,?_]]];have G:=G.grow (b3 (o:= .tup [.int 0, .int 1]) ht);show if tZ (.int st) [.int 0, .int 1]=FB then _ else _
 have e0:tZ (.int st) [.int 0, .int 1]=decide (st<=1):=by
  show((0:Int) == (st:Int)||((1:Int) == (st:Int)||false))=_
  rw[Oo,GD,LL,beq_iff_eq,beq_iff_eq,FH];lia
 rw[e0];have args: ∀ {sp:Sp}{x:Fh}{k:E1}{f:EJ}{fd:FL}{p1 p2 p3 p4 p5 p6:Pos},bS P w K mg base (fW P w) k f fd ["worker","chain","parts"] sp->bW k X.A->CD K mg x f fd ["worker","chain","parts"]->Gl X x->(x == ("__debug__":Fh))=FM->sp [.ref c.wk,u.v, .ref u.p] (aF H t (.tup [.int 0, .int 1])) (λ_ H'=>Q .HZ H') E->Bd X [.Expr (.Call (.Name x p1) [.Name "worker" p2, .Name "chain" p3, .Name "parts" p4] [] p5) p6] D [EQ (.ref c.wk),EQ u.v,EQ (.ref u.p)] (aF H t (.tup [.int 0, .int 1])):=λG hr d hg hx q=>fj (bI (aO (bv 0 (aO (bv 1 (aO (bv 2 (cC q))))))) G hr d aA hg hx) rfl
 exact dz (λs1=>args (ak5 T XC) hr T.d_6.c rfl [01] (.mk rfl #[st,ops,sgs,hc,s1] G hm g)) λs1=>args (ak6 T XC) hr T.d_7.c rfl [01] (.mk rfl #[st,ops,sgs,hc,s1] G hm g)
section
open Vbemac (checked)
def mt3 (e:ER) (y:EC) (b:ER) (p q:Int) (acc:EA Int) (t:E1) (r:EA dQ) (sc:EA fm) (n:E1):ET Mc:=if p+(t:Int)<=q then(match n with
   |0=>EQ (.err (-13))
   |n+1=>(match sc with
    |[]=>Fa
    |h::tl=>EQ (jX b ((e,p::q::acc)::r) (oO (h::tl) y (p+(t:Int))) n)))
  else EQ (eN r sc n (acc.getLast?.getD 0))
theorem ut (h:acc.length<=1):gE e y b p q acc ts sc n=mt3 e y b p q acc acc.length ts sc n:=by
 unfold gE mt3;dsimp only;rw[EI (by lia)]
 all_goals rfl
theorem uM:gE e y b p q (acc++[x,z]) ts sc n=(match checked (x+z) 0 with
  | .error c=>EQ (.err c)
  | .ok (d,_)=>mt3 e y b p q (acc++[x,d]) (acc.length+2) ts sc n):=by
 have l: ∀d,(acc++[x,d]).length=acc.length+2:=λd=>by simp
 unfold gE mt3;dsimp only;rw[l,EL (by lia),Ml,show(acc++[x,z]).getD acc.length 0=x by simp [HX],show acc.length+2-1=acc.length+1 from rfl,show(acc++[x,z]).getD (acc.length+1) 0=z by simp [HX],
  show(acc++[x,z]).take (acc.length+1)=acc++[x] by rw[PV,II (KH _)];simp]
 cases checked (x+z) 0 with
 |error c=>rfl
 |ok d=>
  obtain⟨d,_⟩:=d;dsimp only;rw[F4]
  rfl
theorem ag0 (T:aU K mg a) (XC:XW K a):oN P w K mg base a 6 a.acM a.W9 "summed" λ_ e ps=> ∃y lo hi x p q acc,e= .sum y lo hi x/\ps=p::q::acc:=by
 refine qb T XC [01] T.aey.F afR λGp A outer s H B c S F0 r b ff ds u us e ts sc n m Q E hr ho G hm g=>?_;intro X D Y;obtain⟨y,lo,hi,x,p0,q0,acc,rfl,ep⟩:=ho;have ev:=G.ev;unfold au at ev;obtain⟨u1,u2,u3,i,_,_,e3⟩:=ev;have hp:=G.hp;have psB:=G.psB;have gl:=G.len;rw[ep] at hm hp psB gl;have gl:acc.length+2+n<=10000:=gl;have hm:gE (.sum y lo hi x) y x p0 q0 acc ts sc n=EQ m:=hm;refine aN 3 Y.nd (A8 cZ (dH Y hp (cM #[_,_,FS,FS,?_])));rw[EY,show(((p0::q0::acc).length:E1):Int)-2=((acc.length:E1):Int) by rw[EZ,EZ];lia];refine gh (λσ' H'=> ∃(as:EA Int) (o:ET V),σ'=[EQ (.ref c.wk),EQ u.v,EQ (.ref u.p),EQ (.int (acc.length:E1)),o]/\as.length=acc.length/\o6 a H' B c S F0 r b ff ds { u with ps:=p0::q0::as } us (.sum y lo hi x) ts sc n/\mt3 (.sum y lo hi x) y x p0 q0 as acc.length ts sc n=EQ m) ?_ (cP gj (bv 3 (cM #[_,_,FS,FS,_,FS,dz (λz0=>?_) λz0=>#[acc,Fa,FS,FS,?_,by rw[<-hm];exact(ut (by lia)).symm]])))
 ·rintro σ' H' ⟨as,o,rfl,la,G',O9⟩
  have XQ:=G'.hp
  have W:=G'.W;refine cv (cP eO (A8 dU (lr (bv 2 (cM #[u.p,_,_,V.int p0,FS,FS,cO.of XQ,bj (j:=0) rfl,bv 3 #[_,_,FS,FS,lr (bv 2 (cM #[u.p,_,_,V.int q0,FS,FS,cO.of XQ,bj (j:=1) rfl,_,_,FS,FS,_,FS,dz (λe0=>?_) λe0=>?_])) (λ_ _=>rfl)]])) (λ_ _=>rfl))))
  ·unfold mt3 at O9
   rw[EL e0] at O9;refine aQ (bi (bQ (pv 0) T.Hw T.Vo.c (gV T XC) (hr.mono [01]) aA)) #[c.wk,c.dw,_,FS,W.ins,FS, .mk rfl W (λz=>?_) λn' z H1 W1=>?_]
   ·rw[z] at O9
    cases O9;exact g H' W.O.same
   ·rw[z] at O9
    have sq:=W1.sq;cases sq with
    |nil=>cases O9
    | @cons d s0 ds sc h0 sq=>
    cases O9;have bn:=W.bn.bn;exact bA #[_,cx (pv 0) T.Hw T.Wg.c (j8 T) (hr.mono [01]) aY (aa (ao (pv 1) rfl) (aa (ca dU (cK bB (pv 2) aj (λ_ _=>rfl)) (pv 3)) ag)),c.wk,c.dw,_,FS,W1.ins,FS,i.fld W1.O.same T.O3 T.Pq rfl #[u.p,_,_,V.int p0,FS,FS,cO.of (W1.O.get 5 rfl),bj (j:=0) rfl,_,_,FS,FS, .mk rfl W1 (by lia) λH2 W2=>fb Y (ci (bv 1 (i.fld W2.O.same T.O3 T.Pw rfl #[x,_,_,W2,e3,g])) rfl) W2]]
  ·unfold mt3 at O9
   rw[EI e0] at O9;cases O9;refine de Y W #[_,dD (a7 gj (pv 3) aj (aM _)) (cK bB (pv 2) (dJ cG aj) (λ_ _=>rfl)) aj,_,_,FS,FS,_,FS,dz (λe1=>?_) λe1=>?_]
   ·rcases SD as with z|⟨qs,zz,z⟩
    ·rw[z] at la;have la:0=acc.length:=la;lia
    rw[SE] at z;subst z;have hp2:H' u.p=EQ (.lst ((p0::q0::qs).map V.int++[V.int zz])):=by rw[XQ];simp
    rw[show(qs++[zz]).getLast?.getD 0=zz by simp] at g;exact#[_,FS,u.p,_,_,V.int zz,FS,FS,cO.of hp2,d8 _ _,_,_,_,_,_,_,_,FS,W,g]
   ·have:as=[]:=P1 (by lia)
    subst this;exact#[_,_,_,_,_,_,_,FS,W,g]
 ·obtain⟨qs,xx,z,rfl⟩:=tm acc (by lia)
  rw[uM] at hm;have XQ:H u.p=EQ (.lst ((p0::q0::(qs++[xx])).map V.int++[V.int z])):=by rw[hp];simp
  have sub: ∀w∈p0::q0::(qs++[xx]),dC w:=λw hw=>psB w (by
   simp only[EW,Fp,GZ,or_false] at hw ⊢;rcases hw with h|h|h|h
   ·exact .inl h
   ·exact .inr (.inl h)
   ·exact .inr (.inr (.inl h))
   ·exact .inr (.inr (.inr (.inl h))))
  have g1:=G.part (H':=aF H u.p (.lst ((p0::q0::(qs++[xx])).map V.int))) (ps:=p0::q0::(qs++[xx])) ae nj (by rw[ep];simp) sub
  have VF:aF H u.p (.lst ((p0::q0::(qs++[xx])).map V.int)) u.p=EQ (.lst ((p0::q0::qs).map V.int++[V.int xx])):=by rw[ae];simp
  refine aN 4 Y.nd (Cr (pv 2) [05] XQ (ik (pv 2) [05] VF (bI (aO (A8 dU (lr (bv 2 #[_,dJ cG aj,_,FS,u.p,_,_,V.int xx,FS,FS,cO.of VF,d8 _ _,bv 4 #[_,_,FS,FS,cC #[xx+z,FS,λhb=>?_,λhb=>?_]]]) (λ_ _=>rfl)))) (agW T XC) (hr.mono [01]) T.d_w.c aA)))
  ·rw[show checked (xx+z) 0= .ok (xx+z,0) by unfold checked;exact EL hb] at hm
   refine#[_,VF,by rw[Fc,EY,Ht];simp only[EZ,Fc,JK] at gl ⊢; lia,cc #[qs++[xx,xx+z],EQ (.int z),FS,by simp,?_,by rw[show(qs++[xx,z]).length=qs.length+2 by simp];exact hm]];refine G.part (by rw[ae];simp) (λb o e nb=>by rw[ac nb,ac nb];exact e) (by rw[ep];simp) λw hw=>?_;have hw:w∈p0::q0::(qs++[xx])\/w=xx+z:=by
    simp only[EW,Fp,GZ,or_false] at hw ⊢;rcases hw with h|h|h|h|h
    ·exact .inl (.inl h)
    ·exact .inl (.inr (.inl h))
    ·exact .inl (.inr (.inr (.inl h)))
    ·exact .inl (.inr (.inr (.inr h)))
    ·exact .inr h
   rcases hw with hw|hw
   ·exact sub w hw
   ·rw[hw];exact hb
  ·rw[show checked (xx+z) 0= .error (-12) by unfold checked;exact EI hb] at hm
   cases hm;exact g _ g1.W.O.same _ (.tail _ (.head _))
 ·rw[<-ep];exact G
theorem ak8 (T:aU K mg a) (XC:XW K a):oN P w K mg base a 7 a.f_9 a.adz "summed" λ_ e _=> ∃y lo hi x,e= .sum y lo hi x:=by
 refine qb T XC [01] T.d_9.F akr λGp A outer s H B c S F0 r b ff ds u us e ts sc n m Q E hr ho G hm g=>?_;intro X D Y;obtain⟨y,lo,hi,x,rfl⟩:=ho;have W:=G.W;have ev:=G.ev;unfold au at ev;obtain⟨u1,u2,u3,i,e1,e2,_⟩:=ev;have hp:=G.hp;have hm0:=hm;refine cv (jg (dH Y hp (cM #[_,_,FS,FS,?_])));rw[EY];generalize V3:u.ps=ps at hm hp
 match ps,hm with
 |[],hm=>cases hm;exact cg (fb Y (ci (bv 1 (i.fld W.O.same T.O3 T.Oy rfl #[lo,_,_,W,e1,by rw[V3];exact g])) rfl) W)
 |[t],hm=>cases hm;exact bK (cv (jg (dH Y hp (cM #[_,_,FS,FS,cg (fb Y (ci (bv 1 (i.fld W.O.same T.O3 T.Pu rfl #[hi,_,_,W,e2,by rw[V3];exact g])) rfl) W)]))))
 |p0::q0::acc,hm=>
  refine dz (λe0=>E7 e0 (by rw[EZ,EZ];lia)) λ_=>cv (jg (dH Y hp (cM #[_,_,FS,FS,?_])));rw[EY];exact dz (λe0=>E7 e0 (by rw[EZ,EZ];lia)) λ_=>fj (bI (aO (bv 0 (aO (bv 1 (aO (bv 2 (cC (.mk rfl #[y,lo,hi,x,p0,q0,acc,FS,V3] G hm0 g)))))))) (ag0 T XC) hr T.aey.c aA) rfl
end
theorem nH: ∀(m acc:EA (a0×V)),(m.map λq:a0×V=>q.1).Nodup->bN (fM acc m) k=(match bN m k with
  |some v=>EQ v
  |none=>bN acc k)
 |[],acc,_=>rfl
 |p::m,acc,nd=>by
  obtain⟨n1,n2⟩:=FI.mp nd;show bN (fM (dy acc p.1 p.2) m) k=_;rw[nH m _ n2,gB];by_cases e:p.1=k
  ·have:bN m k=Fa:=by
    unfold bN;rw[OO.mpr λx hx z=>n1 (by show p.1∈_;rw[e,<-Ft z];exact Kc (f:=λq:a0×V=>q.1) hx)]
    rfl
   rw[this,cf e,EL e.symm]
  ·rw[bX e,EI (λz=>e z.symm)]
abbrev aC (ps:EA EC) (l:EA Int):EA (a0×V):=(ps.zip l).map λq=>(nk q.1, .int q.2)
theorem Cd: ∀ {ps:EA EC}{l:EA Int},ps.Nodup->((aC ps l).map λq:a0×V=>q.1).Nodup
 |[],_,_=> .nil
 |_::_,[],_=> .nil
 |p::ps,x::l,nd=>by
  obtain⟨n1,n2⟩:=FI.mp nd;refine FI.mpr #[λhm=>?_,Cd n2];obtain⟨q,hq,e⟩:=KQ.mp hm;obtain⟨y,hy,rfl⟩:=KQ.mp hq;exact n1 ((show y.1=p from eE (Ja e))▸(Kt hy).1)
theorem aaI {ps:EA EC}{l:EA Int}(nd:ps.Nodup) (h6:ps.length<=6) {b:E1}(hb:6<=b) (q:EJ):aaG b (q,fM [] (aC ps l)) (uU ps l):=by
 refine#[λu=>?_,?_]
 ·show bN (fM [] (aC ps l)) (nk u)=_
  rw[nH _ _ (Cd nd)];have:bN (aC ps l) (nk u)=(uU ps l u).map V.int:=by
   unfold bN uU aC;rw[EA.find?_map,VO,VO]
   congr 1
   congr 1
   funext x
   exact(decide_eq_decide.mpr #[λz=>eE (Ja z),λz=>by rw[z]]).trans (FR.beq_eq_decide_eq ..).symm
  rw[this];cases uU ps l u<;>rfl
 ·refine Fj (gu _ _) ?_
  simp [aC,V8];lia
theorem ak9 (T:aU K mg a) (XC:XW K a):oN P w K mg base a 7 a.f_3 a.ads "call" λ_ e _=> ∃f l,e= .call f l:=by
 refine qb T XC [01] T.d_3.F akk λGp A outer s H B c S F0 r b ff ds u us e ts sc n m Q E hr ho G hm g=>?_;intro X D Y;obtain⟨f,l,rfl⟩:=ho;have W:=G.W;have ev:=G.ev;unfold au at ev;obtain⟨_,VG,i,⟨aq,rfl,_,h2⟩,h3⟩:=ev;have pr:=l0 h3;have ha:=W.O.same _ _ h2;have hp:=G.hp;have nm: ∀ {H:Hp}{Q:VK},a9 B.H H->Q (.str (sb f)) H->dL K "name" Q u.v H:=λk q=>i.fld k T.PY T.Ov rfl q
 have ar: ∀ {Q:VK},Q (.ref aq) H->dL K "arguments" Q u.v H:=λq=>i.fld W.O.same T.PY T.Md rfl q
 have wf: ∀ {Q:VK},Q (.ref c.fa) H->dL K "functions" Q (.ref c.wk) H:=λq=>W.fld T T.JZ rfl q
 unfold d9 at hm;dsimp only at hm;refine aN 3 Y.nd (iP T.JP ha (ao (pv 1) rfl) (λ_ q=>ar q) (cv (cP jK (dH Y hp (bv 3 #[_,_,FS,FS,_,FS,?_])))));rw[EY,bL pr];refine dz (λz=>?_) λz=>?_
 ·have lt:u.ps.length<(lw l).length:=by lia
  rw[GU lt] at hm;cases hm;obtain⟨v,hv,ew⟩:=jt pr (GU lt);exact fb Y (lr (ci (bv 1 (ar (dH Y hp #[aq,_,_,v,FS,FS,cO.of ha,by rw[EY];exact bj hv,_,_,_,W,ew,g]))) rfl) (λ_ _=>rfl)) W
 ·rw[Ig (by lia)] at hm
  have f2:=W.fn.2 f;obtain⟨V0,G0,ws,sb0⟩:=G.ws;unfold WS at ws;obtain⟨⟨k,hk,hk2⟩,_⟩:=ws
  have FO:=G.FO.all f k (sb0 f k hk);refine cv #[_,fC (iW (dq hr) (ao (pv 1) rfl) (ao (pv 0) rfl)),nm W.O.same (wf #[c.fa,_,FS,gv.k (k:=nk f) (W.O.get 3 rfl),_,FS,?_])];cases hf:S.funs.find? λg=>g.1 == f with
  |none=>
   rw[hf] at f2 hm FO;dsimp only at f2 hm;rw[f2];refine cg ?_;split at hm
   ·rename_i hl
    cases hm;rcases FO with⟨g',hg,_⟩|⟨_,hb⟩
    ·cases hg
    ·exact de Y W (bI (aO (ci (bv 1 (nm W.O.same (aO (bv 2 (cC #[f,u.p,u.ps,k,FS,hp,hb,by rw[hl,hk2],_,_,_,_,_,_,_,FS,W,g]))))) rfl)) (agV T) (hr.mono [01]) T.YT.c aY)
   ·cases hm
  |some fu=>
   rw[hf] at f2 hm FO;dsimp only at f2 hm;obtain⟨v,f2,f3⟩:=f2;rw[f2];refine bK (cv (jg (dH Y hp (bv 3 #[_,_,FS,FS,?_]))));rw[EY];refine dz (λz=>?_) λz=>?_
   ·have hl:u.ps.length=(lw l).length:=by lia
    rw[EL hl] at hm;cases hm;rcases FO with⟨g',hg,gl,gf⟩|⟨hg,_⟩
    ·cases hg
     obtain⟨q,w,i2,⟨pq,rfl,_,h4⟩,h5⟩:=f3;have g1:=gv.k (k:=nk f) (W.O.get 3 rfl);have g1:gv H c.fa (kV (nk f)) (EQ v):=by rw[<-f2];exact g1
     have le:fu.2.1.length=u.ps.length:=by rw[gl,hl,hk2]
     have e1:(aC fu.2.1 u.ps).map (λq=>kV q.1)=gI fu.2.1:=by
      unfold gI aC;rw[Jg,show((λq:a0×V=>kV q.1) ∘ λq:EC×Int=>(nk q.1,V.int q.2))=(λp=>V.str (sb p)) ∘ Prod.fst from rfl,<-Jg,EA.map_fst_zip (JG le)]
     have e2:(aC fu.2.1 u.ps).map (λq:a0×V=>q.2)=u.ps.map V.int:=by
      unfold aC;rw[Jg,show((λq:a0×V=>q.2) ∘ λq:EC×Int=>(nk q.1,V.int q.2))=V.int ∘ Prod.snd from rfl,<-Jg,EA.map_snd_zip (JG le.symm)]
     refine aN 4 Y.nd #[_,jL (dq hr) (ao (pv 0) rfl) (ao (pv 1) rfl) (λ_ _=>rfl),wf (nm W.O.same #[c.fa,v,FS,g1,?_])];refine ik (ao (pv 0) rfl) (λ_ q=>W.fld T T.Jk rfl q) (W.O.get 2 rfl) #[_,u9 rfl (by rfl) T.aeF (by rfl) T.Vz (aa (ao (pv 4) rfl) (aa (pv 2) ag)) rfl rfl,i2.fld W.O.same T.Qa T.Mg rfl #[pq,u.p,aC fu.2.1 u.ps,FS,by rw[e1];exact cO.of (W.O.same _ _ h4),by rw[e2];exact cO.of hp,λd hd=>#[_,b3 hd _ _ (W.O.get 2 rfl),?_,?_]]]
     ·rw[F7,EY,bL W.sq,Ht]
      have:=W.bn.sl;lia
     ·have W1:=W.pushS hd (b3 hd) ae (aaI (l:=u.ps) gf.nd gf.le W.bn.b6 d) (by have:=G.gd.2.2;lia)
      exact fb Y (ci (bv 4 (i2.fld W1.O.same T.Qa T.Qb rfl #[fu.2.2,_,_,W1,h5,g])) rfl) W1
    ·cases hg
   ·rw[EI (by lia)] at hm
    have sq:=W.sq;cases sq with
    |nil=>cases hm
    | @cons d s0 ds sc h0 sq=>
    obtain⟨x,hx,rfl⟩:=FG.mp hm;have W1:=W.akY;refine bA (Cr (ao (pv 0) rfl) (λ_ q=>W.fld T T.Jk rfl q) W.sl1 (de Y W1 (lr (bv 2 (bv 3 #[u.p,_,_,V.int x,FS,FS,cO.of (W1.O.get 5 rfl),bj (by rw[FQ,hx];rfl),_,_,_,_,_,_,_,FS,W1,g])) (λ_ _=>rfl))))
inductive Nd1 (a:be) (M:EJ->Prop) (H:Hp) (i:E1) (v:V):Prop
 |mk {C:EJ}{fs:EA (Fh×V)}(_:bD M H C fs v) (_:(zc a)[i]?=EQ C):Nd1 a M H i v
def cidx:ER->E1
 | .num _=>0
 | .name _=>1
 | .call _ _=>2
 | .neg _=>3
 | .not _=>3
 | .pick _ _ _=>5
 | .sum _ _ _ _=>6
 |_=>4
theorem xl {a:be}{M:EJ->Prop}{H:Hp}{e:ER}{v:V}(h:au a M H e v):Nd1 a M H (cidx e) v:=by
 cases e<;>unfold au at h
 ·exact#[h,FS]
 ·exact#[h,FS]
 ·obtain⟨_,_,h,_⟩:=h;exact#[h,FS]
 ·obtain⟨_,h,_⟩:=h;exact#[h,FS]
 ·obtain⟨_,h,_⟩:=h;exact#[h,FS]
 ·obtain⟨_,_,_,_,_,h,_⟩:=h;exact#[h,FS]
 ·obtain⟨_,_,_,_,_,h,_⟩:=h;exact#[h,FS]
 ·obtain⟨_,_,_,_,h,_⟩:=h;exact#[h,FS]
 ·obtain⟨_,_,_,_,h,_⟩:=h;exact#[h,FS]
 ·obtain⟨_,_,_,_,h,_⟩:=h;exact#[h,FS]
 ·obtain⟨_,_,_,h,_⟩:=h;exact#[h,FS]
 ·obtain⟨_,_,_,h,_⟩:=h;exact#[h,FS]
section
variable {M:EJ->Prop}{B H:Hp}{te:TE}{R:FR->Hp->Prop}
theorem vD (N:ma X.K a) (n:X.mg "isinstance"=Fa) (h:Nd1 a M B i v) (sm:a9 B H) (hj:(zc a)[j]?=EQ C) (hm:X.mg c=EQ (.ref C)) (he:PE X e te) (hv: ∀Q:VK,Q v H->te σ H Q) (q:R (decide (i=j)) H) (hg:Gl X "isinstance":=by rfl) (hc:Gl X c:=by rfl) (hx:(c == ("__debug__":Fh))=FM:=by decide) (JS:Fb [e, .Name c p2] X.env=(FM,eval e X.env)::Fb [.Name c p2] X.env:=by rfl):
  Pt X (.Call (.Name "isinstance" p1) [e, .Name c p2] [] p3) σ H R:=by
 obtain @⟨C',fs,⟨p,dx,rfl,_,z⟩,hC⟩:=h;have i7:i<15:=(FF.mp hC).1;have j7:j<15:=(FF.mp hj).1;have k:=FN (λl:EA (EA (ET FR))=>(l[i]?.bind λr=>r[j]?)) N.kit
 have k:Hy X.K (.ref C') (.ref C)=EQ (decide (i=j)):=by simpa [hC,hj,LO i7,LO j7] using k
 exact dv #[_,bF pw hg n boot_isinstance (aa he (aa (iQ hc hm hx) ag) JS) [01] [01] JS rfl,hv _ #[_,C,_,_,FS,(N.ty _ (Gs hC)).of (sm _ _ z),k,_,FS,q]]
end
theorem ala (T:aU K mg a) (XC:XW K a) (KX:ma K a):oN P w K mg base a 8 a.f_2 a.adq "exp" λ_ _ _=>True:=by
 refine qb T XC [01] T.d_2.F akj λGp A outer s H B c S F0 r b ff ds u us e ts sc n m Q E hr _ G hm g=>?_;intro X D Y;have W:=G.W;have ev:=G.ev;have nd:=xl ev;have is: ∀ {cl:Fh}{C:EJ}{A Tb:EA Stmt}{p1 p2 p3 p4 p5:Pos}(j:E1),mg cl=EQ (.ref C)->(zc a)[j]?=EQ C->Gl X cl->(cl == ("__debug__":Fh))=FM->(cidx e=j->Bd X A D [EQ (.ref c.wk),EQ u.v,EQ (.ref u.p)] H)->(cidx e≠j->Bd X Tb D [EQ (.ref c.wk),EQ u.v,EQ (.ref u.p)] H)->Bd X [.If (.Call (.Name "isinstance" p1) [.Name "exp" p2, .Name cl p3] [] p4) A Tb p5] D [EQ (.ref c.wk),EQ u.v,EQ (.ref u.p)] H:=λj hm hj hg hx yes no=>cv (vD KX T.LK nd W.O.same hj hm (pv 1) [05] (dz yes no) (by rfl) hg hx)
 have go: ∀ {sp:Sp}{x y:Fh}{k:E1}{f:EJ}{fd:FL}{p1 p2 p3 p4 p5 p6:Pos},bS P w K mg base (fW P w) k f fd ["worker",y,"parts"] sp->k<=7->CD K mg x f fd ["worker",y,"parts"]->Gl X x->(x == ("__debug__":Fh))=FM->sp [.ref c.wk,u.v, .ref u.p] H (λ_ H'=>Q .HZ H') E->Bd X [.Expr (.Call (.Name x p1) [.Name "worker" p2, .Name "exp" p3, .Name "parts" p4] [] p5) p6] D [EQ (.ref c.wk),EQ u.v,EQ (.ref u.p)] H:=λG hk d hg hx q=>fj (bI (aO (bv 0 (aO (bv 1 (aO (bv 2 (cC q))))))) G (hr.mono hk) d aA hg hx) rfl
 refine is 0 T.QM rfl rfl [01] (λz=>?_) λz0=>?_
 ·obtain⟨x,rfl⟩: ∃x,e= .num x:=by cases e<;>first|exact#[_,FS]|cases z
  unfold au at ev;cases hm;exact de Y W (ci (bv 1 (ev.fld W.O.same T.O0 T.MZ rfl #[_,_,_,_,_,_,_,FS,W,g])) rfl)
 refine is 1 T.Tz rfl rfl [01] (λz=>?_) λz1=>?_
 ·obtain⟨x,rfl⟩: ∃x,e= .name x:=by cases e<;>first|exact#[_,FS]|cases z
  unfold au at ev;obtain⟨y,hy,rfl⟩:=FG.mp (show(look sc x).map (eN ts sc n)=EQ m from hm);exact de Y W #[_,cx (pv 0) T.Hw T.YX.c (tI T) (hr.mono [01]) aY (aa (ao (pv 1) rfl) ag),c.wk,c.dw,_,FS,W.ins,FS,ev.fld W.O.same T.Q3 T.Ou rfl (.mk rfl W hy #[_,_,_,_,_,_,_,FS,W,g])]
 refine is 2 T.TB rfl rfl [01] (λz=>go (ak9 T XC) [01] T.d_3.c rfl [01] (.mk rfl ?_ G hm g)) λz2=>?_
 ·cases e<;>first|exact#[_,_,FS]|cases z
 refine is 3 T.RI rfl rfl [01] (λz=>go (ak3 T XC) [01] T.d_4.c rfl [01] (.mk rfl ?_ G hm g)) λz3=>?_
 ·cases e<;>first|exact#[_, .inl rfl]|exact#[_, .inr rfl]|cases z
 refine is 4 T.RJ rfl rfl [01] (λz=>go (ak7 T XC) [01] T.d_5.c rfl [01] (.mk rfl ?_ G hm g)) λz4=>?_
 ·cases e<;>first|exact#[_,FS]|cases z
 refine is 5 T.QN rfl rfl [01] (λz=>go (ak4 T XC) [01] T.d_8.c rfl [01] (.mk rfl ?_ G hm g)) λz5=>?_
 ·cases e<;>first|exact#[_,_,_,FS]|cases z
 refine go (ak8 T XC) [01] T.d_9.c rfl [01] (.mk rfl ?_ G hm g);cases e<;>first|exact E7 rfl z0|exact E7 rfl z1|exact E7 rfl z2|exact E7 rfl z3|exact E7 rfl z4|exact E7 rfl z5|exact#[_,_,_,_,FS]
end OS
namespace OS
open Vbemac
def ag1 (S:Scope) (V:EA FJ) (v:Env) (r:Res Int) (n:E1):Mc->Prop
 | .err c=>r= .error c
 | .go _ _ _=>False
 | .done x sc m=>r= .ok (x,m)/\m<n/\ ∃h,sc=[h]/\Ag S V v [h]
theorem DK {h:fm}(FO:gm S F0) (A:Ag S V v [h]) (w:WS V G e) (sb:Sub G F0) (hk:3*n+1<=k):HE S.funs (ag1 S V v (ev k S v e n) n) (jX e [] [h] n):=by
 refine aaD FO k V v G e [] h [] n A w sb hk ?_;unfold aaC;cases ev k S v e n with
 |error c=>exact rfl
 |ok x=>exact λ_ hm h A=>#[0, .here #[FS,hm,h,FS,A]]
end OS
namespace OS
open PySem PySem.Spec L2
open PyProof.Rows hiding St
variable {P:Fz}{w:Ga}{K:EF}{mg:Fh->ET EH}{base:Gn}{a:be}
inductive BB (a:be) (vs:EA V) (H:Hp) (Q:VK) (E:XK):Prop
 |mk {B:rN}{c:px}{S:Hr}{F0 G:EA (EC×E1)}{r:V}{b:E1}{s:fm}{n k:E1}{e:ER}{v:V}{U:EA EC}{en:GL}(_:vs=[.ref c.wk,v]) (_:gm S F0) (_:WS U G e) (_:Sub G F0) (_:Ag S U en [s]) (_:xE [s]) (_:Wk a B H c S.funs r b [] [s] n) (_:au a B.M B.H e v) (_:3*n+1<=k)
  (_: ∀x,LQ k S en e n= .error x-> ∀H',a9 B.H H'->oU a E H' x) (_: ∀x m,LQ k S en e n= .ok (x,m)->m<n->dC x-> ∀H' b s,Ag S U en [s]->xE [s]->Wk a B H' c S.funs (.int x) b [] [s] m->Q (.int x) H'):BB a vs H Q E
def Far (a:be) (B:rN) (c:px) (S:Hr) (F0:EA (EC×E1)) (f:Mc->Prop) (i:E1) (H:Hp):Prop:= ∃m,lC S.funs f m i/\Gd F0 m/\(match m with
 | .err _=>False
 | .go ts sc n=>ts≠[]/\ ∃r b,Wk a B H c S.funs r b ts sc n
 | .done x sc n=> ∃b,Wk a B H c S.funs (.int x) b [] sc n)
theorem o9 {f:Mc->Prop}(h:lC F f (.go ts sc n) j) (ng: ∀ts sc n,¬f (.go ts sc n)): ∃m i,d9 F (.go ts sc n)=EQ m/\lC F f m i/\j=i+1:=by
 cases h with
 |here h=>exact E7 h (ng ts sc n)
 |step h1 h2=>exact#[_,_,h1,h2,FS]
theorem rB {a:be}{f:Mc->Prop}{E:XK}{N:Hp->Prop}(ng: ∀ts sc n,¬f (.go ts sc n)) (he: ∀x,f (.err x)-> ∀H',a9 B.H H'->oU a E H' x) (hi:lC S.funs f m i) (gd:Gd F0 m) (q: ∀H,Far a B c S F0 f i H->N H):nQ a B c S.funs N E m:=by
 cases m with
 |err k=>
  cases hi with
  |here h=>exact he k h
  |step h _=>cases h
 |go ts sc n=>
  refine λH' r b W=>q H' #[_,hi,gd,λz=>?_,r,b,W];obtain⟨m,_,hm,_⟩:=o9 hi ng;rw[z] at hm;cases hm
 |done x sc n=>exact λH' b W=>q H' #[_,hi,gd,b,W]
theorem sY (T:aU K mg a) (XC:XW K a) (KX:ma K a):T.YZ.O P w mg base 9 (BB a):=by
 refine fP T.YZ.F afP [03] [02];obtain @⟨B,c,S,F0,G,r,b,s,n,k,e,v,U,en,rfl,FO,ws,sb,Ag0,gs,⟨W⟩,ev0,hk,qe,qo⟩:=h;obtain⟨j,hj⟩:=DK FO Ag0 ws sb hk;generalize hf:ag1 S U en (LQ k S en e n) n=f at hj;have ng: ∀ts sc n,¬f (.go ts sc n):=λts sc n z=>by rw[<-hf] at z;exact z
 have he: ∀x,f (.err x)-> ∀H',a9 B.H H'->oU a E H' x:=λx z=>by rw[<-hf] at z;exact qe x z
 have gd0:Gd F0 (jX e [] [s] n):=fA (λt ht=>nomatch ht) gs #[U,G,ws,sb] (by have:=W.bn.UU;show 1+n<=10002;lia)
 refine aQ (bi (cx (pv 0) T.Hw T.Wh.c (tO T XC) (hr.mono [01]) aA (aa (pv 1) ag))) #[c.wk,c.dw,_,FS,W.ins,FS, .mk rfl W ev0 (rB ng he hj gd0 λH1 h1=>?_)];refine fU Iq (λi σ H=>σ=[EQ (.ref c.wk),EQ v]/\Far a B c S F0 f i H) j #[FS,h1] ?_;rintro i σ H2 ⟨rfl,m',O9,gd,hW⟩;cases m' with
 |err k=>exact hW.elim
 |done x sc2 n2=>
  obtain⟨b2,⟨W2⟩⟩:=hW;have tk:=W2.tk;cases tk;refine cP gj (iP T.JP W2.tl (ao (pv 0) rfl) (λ_ q=>W2.fld T T.Ia rfl q) (cM #[_,_,FS,FS,_,FS,bK ?_]));cases O9 with
  |step h _=>cases h
  |here h=>
   rw[<-hf] at h;obtain⟨h1,h2,s',rfl,A'⟩:=h;exact aJ (ci (bv 0 (W2.fld T T.K3 rfl (qo x n2 h1 h2 gd.1 H2 b2 s' A' gd.2.1 #[W2]))) rfl)
 |go ts sc2 n2=>
  obtain⟨ne,r2,b2,⟨W2⟩⟩:=hW;obtain⟨m3,i3,s3,h3,rfl⟩:=o9 O9 ng;have tk:=W2.tk;cases tk with
  |nil=>exact E7 rfl ne
  | @cons u t us ts ht tk=>
  obtain⟨e2,ps⟩:=t;obtain rfl:u.ps=ps:=ht.2;have tsk: ∀ {Q:VK},Q (.ref u.t) H2->dL K "tasks" (λx H1=>tUn (rU λi=> .int (-i)) (tC (.int 1)) [EQ (.ref c.wk),EQ v] H1 λy H2=>AW K x y H2 Q) (.ref c.wk) H2:=λq=>W2.fld T T.Ia rfl #[_,FS,c.tl,_,_,V.ref u.t,FS,FS,cO.of W2.tl1,d8 _ _,q]
  have h4:=W2.O.get 4 rfl;refine cP gj (iP T.JP W2.tl (ao (pv 0) rfl) (λ_ q=>W2.fld T T.Ia rfl q) (cM #[_,_,FS,FS,_,FS,?_]))
  rw[F7,EY,EZ];refine dz (λ_=>?_) λz=>E7 z (by lia);refine fj #[_,aL (ala T XC KX) hr (by rfl) T.d_2.c aA (aa (pv 0) (aa (ao (cK bB (ao (pv 0) rfl) (dJ cG aj) (λ_ _=>rfl)) rfl) (aa (ao (cK bB (ao (pv 0) rfl) (dJ cG aj) (λ_ _=>rfl)) rfl) ag))),tsk #[u.t,_,u.d,_,u.v,FS,h4,T.OH,T.PB,FS,tsk #[u.t,_,u.d,_,V.ref u.p,FS,h4,T.OH,T.Mq,FS, .mk rfl GH #[FO,gd,W2] s3 (rB ng he h3 (DO FO gd s3) λH3 h=>#[i3,G6 _,FS,h])]]] rfl
end OS
namespace OS
open Vbemac
def Ed (t:L9):Prop:= ∀x∈t,∀n,x.1= .num n->n<1000000000000000000
theorem Ed.drop (h:Ed t) (k:E1):Ed (t.drop k):=λx hx=>h x (Tp hx)
def Po {α:Type}(p:P α) (Q:α->Prop):Prop:= ∀t a r,Ed t->p t= .ok (a,r)->Q a/\Ed r
section
variable {α β:Type}{p:P α}{Q:α->Prop}{R:β->Prop}
theorem Po.bind {f:α->P β}(h:Po p Q) (g: ∀a,Q a->Po (f a) R):Po (p>>=f) R:=by
 intro t b r nb e;have e':(match p t with
  | .error z=> .error z
  | .ok (a,s)=>f a s)=Except.ok (b,r):=by
  rw[<-e];show _=(p t>>=λx=>f x.1 x.2)
  cases p t<;>rfl
 cases z:p t with
 |error c=>rw[z] at e';cases e'
 |ok x=>
  rw[z] at e';obtain⟨q,n⟩:=h t x.1 x.2 nb z;exact g x.1 q x.2 b r n e'
theorem Po.pure {a:α}(h:Q a):Po (pure a:P α) Q:=by
 intro t b r nb e;cases e;exact#[h,nb]
theorem Po.mono {Q':α->Prop}(h:Po p Q) (g: ∀a,Q a->Q' a):Po p Q':=λt a r nb e=>#[g a (h t a r nb e).1,(h t a r nb e).2]
theorem Po.fail:Po (E9 n:P α) Q:=λt a r nb e=>by unfold E9 at e;cases e
theorem Po.ite {c:L9->FR}{p q:P α}(h1:Po p Q) (h2:Po q Q):Po (λt=>if c t=FB then p t else q t) Q:=λt a r nb e=>by
 dsimp only at e;split at e
 ·exact h1 t a r nb e
 ·exact h2 t a r nb e
end
theorem dF:Po next λ_=>True:=λt a r nb e=>by unfold next at e;cases e;exact#[trivial,nb.drop 1]
theorem fN (w:String):Po (key w) λ_=>True:=λt a r nb e=>by
 unfold key at e;split at e
 ·cases e;exact#[trivial,nb.drop 1]
 ·unfold E9 at e;cases e
theorem bH (w:String):Po (sign w) λ_=>True:=λt a r nb e=>by
 unfold sign at e;split at e
 ·cases e;exact#[trivial,nb.drop 1]
 ·unfold E9 at e;cases e
theorem i9 (w:String):Po (ifSign w) λ_=>True:=λt a r nb e=>by
 unfold ifSign at e;split at e
 ·cases e;exact#[trivial,nb.drop 1]
 ·cases e;exact#[trivial,nb]
theorem yx (d:E1):Po (deeper d) λ_=>True:=λt a r nb e=>by
 unfold deeper at e;split at e
 ·unfold E9 at e;cases e
 ·cases e;exact#[trivial,nb]
theorem k9 (l:EA String):Po (KW l) λo=> ∀s,o=EQ s->s∈l.map text:=λt a r nb e=>by
 unfold KW at e;split at e
 ·split at e
  ·rename_i h
   cases e;exact#[λs z=>by cases z;exact FK.mp h,nb.drop 1]
  ·cases e;exact#[λs z=>(nomatch z),nb]
 ·cases e;exact#[λs z=>(nomatch z),nb]
theorem ju:Po anyName λ_=>True:=λt a r nb e=>by
 unfold anyName at e;split at e
 ·split at e
  ·unfold E9 at e;cases e
  ·cases e;exact#[trivial,nb.drop 1]
 ·unfold E9 at e;cases e
theorem dR (K:Known):Po (newName K) λx=>x∉K.values/\(∀g∈K.funs,g.1≠x):=λt a r nb e=>by
 unfold newName at e;split at e
 ·cases e
 ·rename_i w s h
  split at e
  ·unfold E9 at e;cases e
  ·rename_i hk
   cases e;unfold Known.taken at hk;rw[LL,Vg] at hk;exact#[#[λz=>hk.1 (FK.mpr z),λg hg z=>hk.2 (Lh.mpr #[g,hg,by rw[z];exact Gr _])],(ju t _ _ nb h).2]
structure PoA (k:E1):Prop where
 expr: ∀d K,Po (expr k d K) (WS K.values K.funs)
 moreOr: ∀d K,Po (moreOr k d K) (mH K.values K.funs)
 ands: ∀d K,Po (ands k d K) (WS K.values K.funs)
 moreAnd: ∀d K,Po (moreAnd k d K) (mH K.values K.funs)
 compared: ∀d K,Po (compared k d K) (WS K.values K.funs)
 added: ∀d K,Po (added k d K) (WS K.values K.funs)
 moreAdded: ∀d K,Po (moreAdded k d K) (vH ["+","-"] K.values K.funs)
 times: ∀d K,Po (times k d K) (WS K.values K.funs)
 moreTimes: ∀d K,Po (moreTimes k d K) (vH ["*","/","%"] K.values K.funs)
 unary: ∀d K,Po (unary k d K) (WS K.values K.funs)
 primary: ∀d K,Po (primary k d K) (WS K.values K.funs)
 arguments: ∀d K n,1<=n->Po (arguments k d K n) λl=>mH K.values K.funs l/\(lw l).length=n
theorem vA: ∀k,PoA k
 |0=>by
  refine#[?_,?_,?_,?_,?_,?_,?_,?_,?_,?_,?_,?_]<;>intros<;>first|(unfold Ff;exact Po.fail)|(unfold Wc;exact Po.fail)|(unfold Yw;exact Po.fail)|(unfold VP;exact Po.fail)|(unfold Vc;exact Po.fail)|(unfold W0;exact Po.fail)|(unfold UG;exact Po.fail)|(unfold W3;exact Po.fail)|(unfold UH;exact Po.fail)|(unfold Gj;exact Po.fail)|(unfold F9;exact Po.fail)|(unfold Pf;exact Po.fail)
 |k+1=>by
  have I:=vA k;refine#[λd K=>?_,λd K=>?_,λd K=>?_,λd K=>?_,λd K=>?_,λd K=>?_,λd K=>?_,λd K=>?_,λd K=>?_,λd K=>?_,λd K=>?_,λd K n hn=>?_]
  ·unfold Ff
   refine Po.ite ?_ ?_
   ·refine(yx d).bind λe _=>dF.bind λ_ _=>(I.expr e K).bind λc wc=>(fN _).bind λ_ _=>(I.expr e K).bind λx wx=>(fN _).bind λ_ _=>(I.expr e K).bind λy wy=>Po.pure ?_
    unfold WS;exact#[wc,wx,wy]
   ·refine(I.ands d K).bind λx wx=>(I.moreOr d K).bind λl wl=>Po.pure ?_
    cases l with
    |nil=>exact wx
    |cons y s=>dsimp only;unfold WS;exact#[wx,#[y,s,FS],wl]
  ·unfold Wc
   refine(i9 _).bind λm _=>?_;split
   ·refine(I.ands d K).bind λx wx=>(I.moreOr d K).bind λl wl=>Po.pure ?_
    unfold mH;exact#[wx,wl]
   ·refine Po.pure ?_
    unfold mH;trivial
  ·unfold Yw
   refine(I.compared d K).bind λx wx=>(I.moreAnd d K).bind λl wl=>Po.pure ?_;cases l with
   |nil=>exact wx
   |cons y s=>dsimp only;unfold WS;exact#[wx,#[y,s,FS],wl]
  ·unfold VP
   refine(i9 _).bind λm _=>?_;split
   ·refine(I.compared d K).bind λx wx=>(I.moreAnd d K).bind λl wl=>Po.pure ?_
    unfold mH;exact#[wx,wl]
   ·refine Po.pure ?_
    unfold mH;trivial
  ·unfold Vc
   refine(I.added d K).bind λx wx=>(k9 _).bind λs hs=>?_;cases s with
   |none=>exact Po.pure wx
   |some op=>
    refine(I.added d K).bind λy wy=>Po.pure ?_;unfold WS;exact#[hs op rfl,wx,wy]
  ·unfold W0
   refine(I.times d K).bind λx wx=>(I.moreAdded d K).bind λl wl=>Po.pure ?_;cases l with
   |nil=>exact wx
   |cons op y s=>dsimp only;unfold WS;exact#[wx,#[op,y,s,FS],wl]
  ·unfold UG
   refine(k9 _).bind λs hs=>?_;cases s with
   |none=>refine Po.pure ?_;unfold vH;trivial
   |some op=>
    refine(I.times d K).bind λy wy=>(I.moreAdded d K).bind λr wr=>Po.pure ?_;unfold vH;exact#[hs op rfl,wy,wr]
  ·unfold W3
   refine(I.unary d K).bind λx wx=>(I.moreTimes d K).bind λl wl=>Po.pure ?_;cases l with
   |nil=>exact wx
   |cons op y s=>dsimp only;unfold WS;exact#[wx,#[op,y,s,FS],wl]
  ·unfold UH
   refine(k9 _).bind λs hs=>?_;cases s with
   |none=>refine Po.pure ?_;unfold vH;trivial
   |some op=>
    refine(I.unary d K).bind λy wy=>(I.moreTimes d K).bind λr wr=>Po.pure ?_;unfold vH;exact#[hs op rfl,wy,wr]
  ·unfold Gj
   refine Po.ite ?_ (Po.ite ?_ (I.primary d K))
   ·intro t a r nb e
    dsimp only at e;split at e
    ·rename_i n hn
     cases e;have nn:n<1000000000000000000:=by
      unfold peek at hn;cases z:(t.drop 1).head? with
      |none=>rw[z] at hn;cases hn
      |some y=>rw[z] at hn;exact nb y (Tp (U6 z)) n hn
     exact#[by unfold WS;unfold WS;exact nn,nb.drop 2]
    ·refine(show Po (deeper d>>=λe=>next>>=λ_=>Gj k e K>>=λa=>pure (.neg a):P Exp) (WS K.values K.funs) from ?_) t a r nb e
     exact(yx d).bind λe _=>dF.bind λ_ _=>(I.unary e K).bind λx wx=>Po.pure (by unfold WS;exact wx)
   ·exact(yx d).bind λe _=>dF.bind λ_ _=>(I.unary e K).bind λx wx=>Po.pure (by unfold WS;exact wx)
  ·unfold F9
   intro t a r nb e;dsimp only at e;split at e
   ·rename_i n hn
    cases e;have nn:n<1000000000000000000:=by
     unfold peek at hn;cases z:t.head? with
     |none=>rw[z] at hn;cases hn
     |some y=>rw[z] at hn;exact nb y (U6 z) n hn
    exact#[by unfold WS;exact nn,nb.drop 1]
   ·split at e
    ·refine(show Po (deeper d>>=λe=>next>>=λ_=>Ff k e K>>=λa=>sign ")">>=λ_=>pure a:P Exp) (WS K.values K.funs) from ?_) t a r nb e
     exact(yx d).bind λe _=>dF.bind λ_ _=>(I.expr e K).bind λx wx=>(bH _).bind λ_ _=>Po.pure wx
    ·unfold E9 at e;cases e
   ·rename_i w hw
    split at e
    ·refine(show Po (deeper d>>=λe=>next>>=λ_=>sign "(">>=λ_=>newName K>>=λx=>key "in">>=λ_=>Ff k e K>>=λlo=>sign "..">>=λ_=>Ff k e K>>=λhi=>sign ":">>=λ_=>Ff k e (K.with x)>>=λa=>sign ")">>=λ_=>pure (.sum x lo hi a):P Exp) (WS K.values K.funs) from ?_) t a r nb e
     refine(yx d).bind λe _=>dF.bind λ_ _=>(bH _).bind λ_ _=>(dR K).bind λx wx=>(fN _).bind λ_ _=>(I.expr e K).bind λlo wlo=>(bH _).bind λ_ _=>(I.expr e K).bind λhi whi=>(bH _).bind λ_ _=>(I.expr e (K.with x)).bind λy wy=>(bH _).bind λ_ _=>Po.pure ?_;unfold WS;exact#[wx.1,wlo,whi,wy]
    split at e
    ·unfold E9 at e;cases e
    split at e
    ·rename_i f hf
     have fw:f.1=w:=by have:=Qp hf;exact beq_iff_eq.mp this
     refine(show Po (deeper d>>=λe=>next>>=λ_=>sign "(">>=λ_=>(if f.2=0 then(sign ")">>=λ_=>pure (.call w .nil)) else(Pf k e K f.2>>=λl=>pure (.call w l)):P Exp)) (WS K.values K.funs) from ?_) t a r nb e
     refine(yx d).bind λe _=>dF.bind λ_ _=>(bH _).bind λ_ _=>?_;split
     ·rename_i h0
      refine(bH _).bind λ_ _=>Po.pure ?_;unfold WS;exact#[#[f,hf,h0.symm],by unfold mH;trivial]
     ·rename_i h0
      refine(I.arguments e K f.2 (by lia)).bind λl wl=>Po.pure ?_;unfold WS;exact#[#[f,hf,wl.2],wl.1]
    ·split at e
     ·rename_i hv
      cases e;exact#[by unfold WS;exact FK.mp hv,nb.drop 1]
     ·unfold E9 at e;cases e
   ·unfold E9 at e;cases e
  ·unfold Pf
   refine Po.ite Po.fail ((I.expr d K).bind λx wx=>?_);split
   ·rename_i h1
    refine Po.ite Po.fail ((bH _).bind λ_ _=>Po.pure ?_);refine#[by unfold mH;exact#[wx,by unfold mH;trivial],?_];show 1=n;lia
   ·rename_i h1
    refine Po.ite Po.fail ((bH _).bind λ_ _=>(I.arguments d K (n-1) (by lia)).bind λl wl=>Po.pure ?_);refine#[by unfold mH;exact#[wx,wl.1],?_];show(lw l).length+1=n;rw[wl.2];lia
end OS
namespace OS
open Vbemac
theorem rq: ∀(w:FJ) (n k:E1),(∀c∈w,digit c=FB)->n<10 ^ k->w.foldl (λn c=>10*n+(c.toNat-48)) n<10 ^ (k+w.length)
 |[],n,k,_,h=>h
 |c::w,n,k,hd,h=>by
  rw[EA.foldl_cons];have hc:c.toNat<=57:=by
   have:=hd c (EO ..);unfold digit at this;rw[Gh,FH,FH] at this;exact Io.le_iff_toNat_le.mp this.2
  have z:=rq w (10*n+(c.toNat-48)) (k+1) (λx hx=>hd x (EN _ hx)) (by rw[E1.pow_succ];lia)
  rw[show k+(c::w).length=k+1+w.length by rw[EZ];lia];exact z
theorem sK: ∀(l:FJ),∀c∈l.takeWhile digit,digit c=FB
 |[],_,h=>nomatch h
 |x::l,c,h=>by
  rw[Jp] at h;split at h
  ·rename_i hx
   rcases EW.mp h with z|z
   ·rw[z];exact hx
   ·exact sK l c z
  ·cases h
theorem kO: ∀(k:E1) (p:Pos) (b:FJ),Ed (lex k p b)
 |0,p,b=>by intro x hx n e;unfold lex at hx;rw[Fd.mp hx] at e;cases e
 |k+1,p,[]=>by intro x hx n e;unfold lex at hx;rw[Fd.mp hx] at e;cases e
 |k+1,p,c::r=>by
  have one: ∀ {y:Tok}{t:L9},(∀n,y= .num n->n<1000000000000000000)->Ed t->Ed ((y,p)::t):=λh1 h2 x hx n e=>by
   rcases EW.mp hx with z|z
   ·rw[z] at e;exact h1 n e
   ·exact h2 x z n e
  have nil:Ed []:=λx hx=>nomatch hx
  unfold lex;split
  ·exact kO k _ _
  split
  ·exact kO k _ _
  split
  ·dsimp only
   split
   ·exact one (λn e=>nomatch e) nil
   ·exact one (λn e=>nomatch e) (kO k _ _)
  split
  ·dsimp only
   split
   ·exact one (λn e=>nomatch e) nil
   ·rename_i h
    refine one (λn e=>?_) (kO k _ _);cases e;have z:=rq ((c::r).takeWhile digit) 0 0 (sK _) [01];rw[Vg] at h;exact Fv z (E1.pow_le_pow_right [01] (show 0+((c::r).takeWhile digit).length<=18 by lia))
  ·split
   ·exact one (λn e=>nomatch e) (kO k _ _)
   ·exact one (λn e=>nomatch e) nil
end OS
namespace OS
open Vbemac
def bnd (V:EA FJ):Stmt->EA FJ
 | .bind x _=>x::V
 |_=>V
mutual
def WT:E1->EA FJ->EA (FJ×E1)->Stmt->Prop
 |_,V,F, .bind x e=>x∉V/\WS V F e
 |d,V,F, .loop x lo hi l=>x∉V/\WS V F lo/\WS V F hi/\1<=d/\zo (d-1) (x::V) F l
 |d,V,F, .cond c a b=>WS V F c/\1<=d/\zo (d-1) V F a/\zo (d-1) V F b
 |_,V,F, .step _ z q p top am=>WS V F z/\WS V F q/\WS V F p/\(∀e,top=EQ e->WS V F e)/\WS V F am
 |_,V,F, .block _ _ z p x am _ g=>x∉V/\WS V F z/\WS V F p/\WS (x::V) F am/\ ∀e,g=EQ e->WS V F e
def zo:E1->EA FJ->EA (FJ×E1)->Stmts->Prop
 |_,_,_, .nil=>True
 |d,V,F, .cons s l=>WT d V F s/\zo d (bnd V s) F l
end
def wq:EA FJ->EA (FJ×E1)->Sheet->Prop
 |_,_,[]=>True
 |V,F, .const x e::r=>x∉V/\WS V F e/\wq (x::V) F r
 |V,F, .func x ps e::r=>F.length<=8/\(∀g∈F,g.1≠x)/\ps.Nodup/\ps.length<=6/\WS (ps++V) F e/\wq V ((x,ps.length)::F) r
 |V,F, .desk _ l::r=>zo 6 V F l/\wq V F r
theorem vU:Po side λ_=>True:=λt a r nb e=>by
 unfold side at e;split at e
 ·cases e;exact#[trivial,nb.drop 1]
 split at e
 ·cases e;exact#[trivial,nb.drop 1]
 ·unfold E9 at e;cases e
theorem CJ (w:String):Po (ifKey w) λ_=>True:=λt a r nb e=>by
 unfold ifKey at e;split at e
 ·cases e;exact#[trivial,nb.drop 1]
 ·cases e;exact#[trivial,nb]
theorem kQ {α:Type}(w:String) {p:P α}{Q:α->Prop}(h:Po p Q):Po (behind w p) λo=> ∀a,o=EQ a->Q a:=λt a r nb e=>by
 unfold behind at e;split at e
 ·split at e
  ·cases e
  ·rename_i x s z
   cases e;have:=h _ _ _ (nb.drop 1) z;exact#[λa z=>by cases z;exact this.1,this.2]
 ·cases e;exact#[nofun,nb]
theorem sM {f:FJ->FR} :Po (λt=>match anyName t with
  | .error e=> .error e
  | .ok (w,r)=>if f w=b then fail n t else .ok (w,r):P FJ) λ_=>True:=λt a r nb e=>by
 dsimp only at e;split at e
 ·cases e
 ·rename_i w s h
  split at e
  ·unfold E9 at e;cases e
  ·cases e;exact#[trivial,(ju t _ _ nb h).2]
theorem AI (B:Blocks):Po (knownBlock B) λ_=>True:=λt a r nb e=>by
 unfold knownBlock at e;split at e
 ·cases e
 ·rename_i w s h
  split at e
  ·cases e;exact#[trivial,(ju t _ _ nb h).2]
  ·unfold E9 at e;cases e
theorem BH (B:Blocks):Po (maybeName B) λ_=>True:=λt a r nb e=>by
 unfold maybeName at e;split at e
 ·cases e;exact#[trivial,nb]
 ·split at e
  ·cases e
  ·rename_i w s h
   cases e;exact#[trivial,(sM (f:=λw=>B.contains w) (n:=4) (b:=FB) t _ _ nb h).2]
theorem xk (d:E1):Po (deeper d) λe=>e=d-1/\1<=d:=λt a r nb e=>by
 unfold deeper at e;split at e
 ·unfold E9 at e;cases e
 ·cases e;exact#[#[FS,by lia],nb]
abbrev StQ (d:E1) (K:Known) (r:Stmt×Known×Blocks):Prop:=WT d K.values K.funs r.1/\r.2.1.values=bnd K.values r.1/\r.2.1.funs=K.funs
theorem gK: ∀k d K B,Po (stmts k d K B) (λr=>zo d K.values K.funs r.1)/\Po (stmt k d K B) (StQ d K)
 |0,d,K,B=>#[by unfold stmts;exact Po.fail,by unfold stmt;exact Po.fail]
 |k+1,d,K,B=>by
  have E:=(vA k).expr;constructor
  ·unfold stmts
   refine Po.ite (λt a r nb e=>by cases e;exact#[by unfold zo;trivial,nb.drop 1]) ((gK k d K B).2.bind λs hs=>(gK k d s.2.1 s.2.2).1.bind λl hl=>Po.pure ?_)
   ·unfold zo
    rw[hs.2.1,hs.2.2] at hl;exact#[hs.1,hl]
  ·unfold stmt
   refine Po.ite ?_ (Po.ite ?_ (Po.ite ?_ (Po.ite ?_ ?_)))
   ·refine dF.bind λ_ _=>(dR K).bind λx hx=>(bH _).bind λ_ _=>(E DEEP K).bind λe he=>(bH _).bind λ_ _=>Po.pure #[?_,FS,FS]
    unfold WT;exact#[hx.1,he]
   ·refine(xk d).bind λn hn=>dF.bind λ_ _=>(dR K).bind λx hx=>(fN _).bind λ_ _=>(E DEEP K).bind λlo hlo=>(bH _).bind λ_ _=>(E DEEP K).bind λhi hhi=>(bH _).bind λ_ _=>(gK k n (K.with x) B).1.bind λl hl=>Po.pure #[?_,FS,FS]
    unfold WT;rw[hn.1] at hl;exact#[hx.1,hlo,hhi,hn.2,hl]
   ·refine(xk d).bind λn hn=>dF.bind λ_ _=>(E DEEP K).bind λc hc=>(bH _).bind λ_ _=>(gK k n K B).1.bind λx hx=>(CJ _).bind λm _=>?_
    rw[hn.1] at hx;split
    ·refine(bH _).bind λ_ _=>(gK k n K x.2).1.bind λy hy=>Po.pure #[?_,FS,FS]
     unfold WT;rw[hn.1] at hy;exact#[hc,hn.2,hx,hy]
    ·refine Po.pure #[?_,FS,FS]
     unfold WT;exact#[hc,hn.2,hx,by unfold zo;trivial]
   ·refine dF.bind λ_ _=>(BH B).bind λm _=>vU.bind λ_ _=>(fN _).bind λ_ _=>(E DEEP K).bind λz hz=>(fN _).bind λ_ _=>(E DEEP K).bind λp hp=>(fN _).bind λ_ _=>(dR K).bind λx hx=>(bH _).bind λ_ _=>(E DEEP (K.with x)).bind λq hq=>(kQ _ (AI B)).bind λ_ _=>(kQ _ (E DEEP K)).bind λg hg=>(bH _).bind λ_ _=>Po.pure #[?_,FS,FS]
    unfold WT;exact#[hx.1,hz,hp,hq,hg]
   ·refine vU.bind λ_ _=>(fN _).bind λ_ _=>(E DEEP K).bind λz hz=>(fN _).bind λ_ _=>(E DEEP K).bind λq hq=>(fN _).bind λ_ _=>(E DEEP K).bind λp hp=>(kQ _ (E DEEP K)).bind λtop ht=>(fN _).bind λ_ _=>(E DEEP K).bind λam ha=>(bH _).bind λ_ _=>Po.pure #[?_,FS,FS]
    unfold WT;exact#[hz,hq,hp,ht,ha]
theorem Po.itp {α:Type}{Q:α->Prop}{c:L9->Prop} [∀t,Decidable (c t)] {p q:P α}(h1:Po p Q) (h2:Po q Q):Po (λt=>if c t then p t else q t) Q:=λt a r nb e=>by
 dsimp only at e;split at e
 ·exact h1 t a r nb e
 ·exact h2 t a r nb e
theorem Po.itd {α:Type}{Q:α->Prop}{c:Prop} [Decidable c] {p q:P α}(h1:c->Po p Q) (h2: ¬c->Po q Q):Po (λt=>if c then p t else q t) Q:=λt a r nb e=>by
 dsimp only at e;split at e
 ·rename_i h;exact h1 h t a r nb e
 ·rename_i h;exact h2 h t a r nb e
theorem o7: ∀k n K,Po (params k n K) λps=>ps.Nodup/\ps.length<=n/\ ∀p∈ps,p∉K.values
 |0,n,K=>by unfold params;exact Po.fail
 |k+1,0,K=>by
  unfold params;intro t a r nb e;dsimp only at e;rw[EL rfl] at e;unfold E9 at e;cases e
 |k+1,n+1,K=>by
  unfold params;refine Po.itp (c:=λ_=>n+1=0) Po.fail ((dR K).bind λx hx=>(i9 _).bind λm _=>?_);split
  ·refine(o7 k n (K.with x)).bind λl hl=>Po.pure #[FI.mpr #[λz=>hl.2.2 x z EO,hl.1],G7 hl.2.1,λp hp=>?_]
   rcases EW.mp hp with z|z
   ·rw[z];exact hx.1
   ·exact λy=>hl.2.2 p z (EN _ y)
  ·refine(bH _).bind λ_ _=>Po.pure #[FI.mpr #[nofun, .nil],G7 (Fs _),λp hp=>?_]
   rw[Fd.mp hp];exact hx.1
theorem ml: ∀k K n D,K.funs.length+n=9->Po (tops k K n D) (wq K.values K.funs)
 |0,K,n,D,_=>by unfold tops;exact Po.fail
 |k+1,K,n,D,hn=>by
  have E:=(vA k).expr;unfold tops;refine Po.itp (c:=λt=>peek t= .eof) (λt a r nb e=>by cases e;exact#[by unfold wq;trivial,nb]) (Po.ite ?_ (Po.ite (Po.itd (c:=n=0) (λ_=>Po.fail) λn0=>?_) (Po.ite ?_ Po.fail)))
  ·refine dF.bind λ_ _=>(dR K).bind λx hx=>(bH _).bind λ_ _=>(E DEEP K).bind λe he=>(bH _).bind λ_ _=>(ml k (K.with x) n D hn).bind λl hl=>Po.pure ?_
   unfold wq;exact#[hx.1,he,hl]
  ·refine dF.bind λ_ _=>(dR K).bind λx hx=>(bH _).bind λ_ _=>(i9 _).bind λm _=>(show Po (if m=FB then give [] else params k PARAMS (K.with x)) (λps=>ps.Nodup/\ps.length<=6) by
     split
     ·exact Po.pure #[.nil,Fs _]
     ·exact(o7 k PARAMS (K.with x)).mono λ_ z=>#[z.1,z.2.1]).bind λps hp=>(bH _).bind λ_ _=>(E DEEP { K with values:=ps++K.values }).bind λe he=>(bH _).bind λ_ _=>(ml k { K with funs:=(x,ps.length)::K.funs } (n-1) D (by show K.funs.length+1+(n-1)=9;lia)).bind λl hl=>Po.pure ?_
   unfold wq;exact#[by lia,hx.2,hp.1,hp.2,he,hl]
  ·refine dF.bind λ_ _=>(sM (f:=λw=>D.contains w) (n:=4) (b:=FB)).bind λx _=>(bH _).bind λ_ _=>(gK k NEST K []).1.bind λl hl=>(ml k K n (x::D) hn).bind λr hr=>Po.pure ?_
   unfold wq;exact#[hl,hr]
end OS
namespace OS
open PySem PySem.Spec L2
open PyProof.Rows hiding St
variable {P:Fz}{w:Ga}{K:EF}{mg:Fh->ET EH}{base:Gn}{a:be}
theorem Ow.bas {B H:Hp}{o:HO}(O:Ow B L H) (h:B p≠Fa\/H p=Fa):Ow (aF B p o) L (aF H p o):=by
 refine#[λb u e=>?_,λx hx=>?_,O.nd]
 ·by_cases hb:b=p
  ·rw[hb,ae] at e ⊢; exact e
  ·rw[ac hb] at e ⊢; exact O.same b u e
 ·have h1:=O.at_ x hx
  have ne:x.1≠p:=λz=>by
   rcases h with h|h
   ·exact h (by rw[<-z];exact h1.2)
   ·rw[<-z,h1.1] at h;cases h
  rw[ac ne,ac ne];exact h1
theorem fk.up {a:be}{M:EJ->Prop}{H:Hp}{o:HO}{x:GK}{v:V}(m:M p) (h:fk a M H x v):fk a M (aF H p o) x v:=fk.Hj (λb u e n=>#[n,by rw[ac λz=>n (by rw[z];exact m)];exact e]) x h
theorem D1.up {a:be}{M:EJ->Prop}{B:Hp}{o:HO}(m:M p) (h:D1 a #[M,B] F ff):D1 a #[M,aF B p o] F ff:=by
 refine#[h.1,λf=>?_];have:=h.2 f;split
 ·rename_i g hg
  rw[hg] at this;obtain⟨v,h1,h2⟩:=this;exact#[v,h1,h2.up m]
 ·rename_i hg
  rw[hg] at this;exact this
abbrev aaJ (b:FR):V:= .int (Vbemac.bit b)
def ag2:ET E1->V
 |some k=> .int (k:E1)
 |none=> .int (-1)
abbrev DW (H:Hp) (C:EJ) (fs:EA (Fh×V)) (v:V):Prop:=bD (λ_=>False) H C fs v
def sL (a:be) (ol:EJ) (H:Hp) (v:V):IF->Prop
 | .step d z t b p q am=>DW H a.HI [("desk", .int d),("zone", .int z),("quarter", .int t),("side",aaJ b),("low", .int p),("high", .int q),("amount", .int am)] v
 | .block d z b p g u l=> ∃q,q≠ol/\DW H a.Ho [("desk", .int d),("zone", .int z),("side",aaJ b),("price", .int p),("group", .int g),("parent",ag2 u),("amounts", .ref q)] v/\H q=EQ (.lst (l.map V.int))
abbrev px.at_ (c:px) (z:E1):px:=#[c.wk,c.dw,c.fa,c.sl,c.tl,z]
structure Zx where
 a:be
 E:XK
 x:EJ
 dx:EJ
 m:EJ
 dm:EJ
 ol:EJ
 c:px
 N:Hp
 K:JI
 S:Hr
 F0:EA (EC×E1)
 d:Int
abbrev Zx.M (Z:Zx):EJ->Prop:=λp=>Z.N p=Fa
abbrev xF (m w o:EJ) (d:Int) (nd:EJ):EA (Fh×V):=[("market", .ref m),("worker", .ref w),("orders", .ref o),("desk", .int d),("named", .ref nd)]
abbrev mF (K:JI):EA (Fh×V):=[("zones", .int K.zones),("quarters", .int K.quarters),("low", .int K.lo),("high", .int K.hi)]
structure EB (Z:Zx) (B:Hp) (w:FU) (nd:EJ) (kk:EA (a0×V)) (os:EA V):Prop where
 sm:a9 Z.N B
 hx:B Z.x=EQ (.ins Z.a.FV Z.dx (xF Z.m Z.c.wk Z.ol Z.d nd))
 hm:B Z.m=EQ (.ins Z.a.JB Z.dm (mF Z.K))
 ho:B Z.ol=EQ (.lst os)
 hn:B nd=EQ (.dK kk)
 nx:Z.N Z.x=Fa/\Z.N Z.ol=Fa/\Z.N nd=Fa
 po:Paired (λv o=>sL Z.a Z.ol B v o) os w.orders
 le:w.orders.length<=48
 pn: ∀u,bN kk (nk u)=(w.names.find? λa=>a.1 == u).map λa=>V.int (a.2:E1)
 ln:kk.length<=w.names.length
 nl:w.names.length<=w.orders.length
 q4:Z.K.quarters<=4
inductive cR (Z:Zx) (j:E1) (B H:Hp) (U:EA EC) (en:GL) (w:FU) (n:E1):Prop
 |mk {r:V}{b:E1}{ff:EA (a0×V)}{d:rk}{s:fm}{nd:EJ}{kk:EA (a0×V)}{os:EA V}(FO:gm Z.S Z.F0) (W:eT Z.a ⟨Z.M,B⟩ H (Z.c.at_ (60000-j)) Z.S.funs r b ff [d] [] [] [s] n) (A:Ag Z.S U en [s]) (gs:xE [s]) (eb:EB Z B w nd kk os) (hj:j<=50000):cR Z j B H U en w n
inductive ES (Z:Zx) (j:E1) (H:Hp) (U:EA EC) (en:GL) (w:FU) (n:E1):Prop
 |mk {B:Hp}(_:cR Z j B H U en w n):ES Z j H U en w n
abbrev Qe (Z:Zx) (c:Int):Prop:= ∀H',a9 Z.N H'->oU Z.a Z.E H' c
structure EX (X:Cx) (a:be) (E:XK):Prop where
 T:aU X.K X.mg a
 C:XW X.K a
 KX:ma X.K a
 hr:bW 9 X.A
 up:dg (fW X.prog X.w) X E
section
variable {X:Cx}{Z:Zx}{i j n m k:E1}{B H H':Hp}{U:EA EC}{en:GL}{w:FU}{σ:L2.St}{Q:VK}{o e f:G8}{to te tf:TE}{v:V}{x:ER}{y:EC}{z:Int}{p1 p2 p3 p4:Pos}
theorem eT.zz {a:be}{B:rN}(W:eT a B H c F r b ff ds us ts sc n) (h:b+5*n<=z') (h':z'<=60000):eT a B H (c.at_ z') F r b ff ds us ts sc n:=#[W.O,W.fn,W.sq,W.tk,W.bn.UU,W.bn.tl,W.bn.sl,W.bn.b6,h,h']
theorem cR.same (R:cR Z j B H U en w n):a9 Z.N H:=by
 obtain⟨_,W,_,_,eb,_⟩:=R;exact λb o e=>W.O.same b o (eb.sm b o e)
theorem cR.less (R:cR Z i B H U en w n) (h:j<=i):cR Z j B H U en w n:=by
 obtain⟨FO,W,A,gs,eb,hj⟩:=R;exact#[FO,W.zz (by have:_<=60000-i:=W.bn.bn;lia) (by lia),A,gs,eb,by lia]
theorem cR.unset {B0 H0:Hp}(R:cR Z j B H (y::U) ((y,z)::en) w n) (ny:y∉U) (R0:cR Z j0 B0 H0 U en w0 n0):cR Z j B H U en w n:=by
 obtain⟨FO,W,A,gs,eb,hj⟩:=R;obtain⟨_,_,A0,_,_,_⟩:=R0;exact#[FO,W,A.unset ny A0.big λ_=>A0.low rfl,gs,eb,hj]
theorem cR.wk (R:cR Z j B H U en w n) (T:aU X.K X.mg Z.a) (q:Q (.ref Z.c.wk) H):dL X.K "worker" Q (.ref Z.x) H:=by
 obtain⟨_,W,_,_,eb,_⟩:=R;exact#[Z.x,_,Z.dx,_,_,FS,W.O.same _ _ eb.hx,T.G9,T.J1,FS,q]
theorem mL (Y:EX X Z.a Z.E) (R:cR Z j B H U en w n) (ho:PE X o to) (hvo: ∀Q:VK,Q (.ref Z.c.wk) H->to σ H Q) (he:PE X e te) (hv: ∀Q:VK,Q v H->te σ H Q) (ex:au Z.a Z.M Z.N x v) (ws:WS U Z.F0 x) (hk:3*n+1<=k) (er: ∀c,LQ k Z.S en x n= .error c->Qe Z c) (q: ∀y m H',LQ k Z.S en x n= .ok (y,m)->m<n->dC y->cR Z j B H' U en w m->Q (.int y) H')
  (JS:Fb [e] X.env=[(FM,eval e X.env)]) (ht:eval (.Call (.Attribute o "work_out" p2) [e] [] p4) X.env=(do
   let ov<-eval o X.env
   standAt p2.atName
   let (f,first)<-holding [ov] (Ku ov "work_out" (do return (<-OV o X.env).getD FB))
   MR p4 f first (Ie p4 (Fb [e] X.env)) (Kj p4 (IE [] X.env)))):Pe X (.Call (.Attribute o "work_out" p2) [e] [] p4) σ H Q:=by
 obtain @⟨r,b,ff,d,s,nd,kk,os,FO,W,A,gs,eb,hj⟩:=R;refine#[_,cx ho Y.T.Hw Y.T.YZ.c (sY Y.T Y.C Y.KX) Y.hr Y.up (aa he ag JS) JS rfl ht,hvo _ #[Z.c.wk,Z.c.dw,_,FS,W.ins,FS,hv _ (.mk (B:=#[Z.M,B]) (c:=Z.c.at_ (60000-j)) rfl FO ws (λ_ _ h=>h) A gs #[W] (au.Hj (λb o e m=>#[m,eb.sm b o e]) x ex) hk (λc h H' s'=>er c h H' λb o e=>s' b o (eb.sm b o e)) λy m h hm hb H' b' s' A' gs' W'=>?_)]];obtain @⟨ff',ds',VG,W'⟩:=W';have sq:=W'.sq;have tk:=W'.tk;cases tk;cases sq with
 |cons h1 h2=>cases h2;exact q y m H' h hm hb #[FO,W',A',gs',eb,hj]
theorem uS (Y:EX X Z.a Z.E) (R:cR Z j B H U en w n) (ho:PE X o to) (hvo: ∀Q:VK,Q (.ref Z.c.wk) H->to σ H Q) (j5:j+5<=50000) (er:n=0->Qe Z (-13)) (q: ∀m H',n=m+1->cR Z (j+5) B H' U en w m->Q .HZ H')
  (ht:eval (.Call (.Attribute o "take_step" p2) [] [] p4) X.env=(do
   let ov<-eval o X.env
   standAt p2.atName
   let (f,first)<-holding [ov] (Ku ov "take_step" (do return (<-OV o X.env).getD FB))
   MR p4 f first (Ie p4 (Fb [] X.env)) (Kj p4 (IE [] X.env)))):Pe X (.Call (.Attribute o "take_step" p2) [] [] p4) σ H Q:=by
 obtain @⟨r,b,ff,d,s,nd,kk,os,FO,W,A,gs,eb,hj⟩:=R;refine#[_,bQ ho Y.T.Hw Y.T.Vo.c (gV Y.T Y.C) (Y.hr.mono [01]) Y.up ht,hvo _ #[Z.c.wk,Z.c.dw,_,FS,W.ins,FS, .mk (c:=Z.c.at_ (60000-j)) rfl W (λz=>er z H λb o e=>W.O.same b o (eb.sm b o e)) λm hm H' W'=>q m H' hm #[FO,W'.zz ?_ (by lia),A,gs,eb,j5]]];have:b+5*n<=60000-j:=W.bn.bn;lia
theorem ud (Y:EX X Z.a Z.E) (R:cR Z (j+1) B H U en w n) (ho:PE X o to) (hvo: ∀Q:VK,Q (.ref Z.c.wk) H->to σ H Q) (he:PE X e te) (hv: ∀Q:VK,Q (.str (sb y)) H->te σ H Q) (q:Pe X f σ H λu H'=> ∃(B':Hp) (z:Int) (w':FU) (n':E1),u= .int z/\cR Z (j+1) B' H' U en w' n'/\y∉U/\dC z/\ ∀H2,cR Z j B' H2 (y::U) ((y,z)::en) w' n'->Q .HZ H2)
  (JS:Fb [e,f] X.env=[(FM,eval e X.env),(FM,eval f X.env)]) (US:Fb [f] X.env=[(FM,eval f X.env)]) (ht:eval (.Call (.Attribute o "set_value" p2) [e,f] [] p4) X.env=(do
   let ov<-eval o X.env
   standAt p2.atName
   let (g,first)<-holding [ov] (Ku ov "set_value" (do return (<-OV o X.env).getD FB))
   MR p4 g first (Ie p4 (Fb [e,f] X.env)) (Kj p4 (IE [] X.env)))):Pe X (.Call (.Attribute o "set_value" p2) [e,f] [] p4) σ H Q:=by
 obtain @⟨r,b,ff,d,s,nd,kk,os,FO,W,A,gs,eb,hj⟩:=R;refine#[_,cx ho Y.T.Hw Y.T.Wg.c (j8 Y.T) (Y.hr.mono [01]) aY (aa he (aa dj ag US) (by rw[JS,US])) (by rw[JS,US]) (by rw[US];rfl) ht,hvo _ #[Z.c.wk,Z.c.dw,_,FS,W.ins,FS,hv _ (q.mono λu H' ⟨B',z,w',n',hu,R',ny,bz,k⟩=>?_)]];obtain @⟨r,b,ff,d,s,nd,kk,os,FO,W,A,gs,eb,hj⟩:=R';subst hu;have bn:b+5*n'<=60000-(j+1):=W.bn.bn;exact .mk (c:=Z.c.at_ (60000-j)) rfl (W.zz (c:=Z.c.at_ _) (by lia) (by lia)) (show b+1+5*n'<=60000-j by lia) λH2 W2=>k H2 #[FO,W2,A.set ny bz,zM gs bz,eb,by lia]
end
theorem ag3 {X:Cx}{σ:L2.St}{H:Hp}{R:FR->Hp->Prop}{t1 t2 t3:TE}{lo x hi:Int}(h1:PE X e1 t1) (h2:PE X e2 t2) (h3:PE X e3 t3) (v1: ∀Q:VK,Q (.int lo) H->t1 σ H Q) (v2: ∀Q:VK,Q (.int x) H->t2 σ H Q) (v3: ∀Q:VK,Q (.int hi) H->t3 σ H Q) (q:R (E8 x lo hi) H) (hm:UD [.LtE, .LtE] [e2,e3]=FM:=by with_unfolding_all rfl):
  Pt X (.Compare e1 [.LtE, .LtE] [e2,e3] p) σ H R:=by
 refine#[_,AC eO eO h1 h2 h3 hm,v1 _ (v2 _ #[_,_,FS,FS,_,FS,?_])];unfold E8 at q;by_cases h:lo<=x
 ·rw[Gb h,IK] at q
  rw[Gb h];exact cg (v3 _ #[_,_,FS,FS,_,FS,q])
 ·rw[FA h,Iy] at q
  rw[FA h];exact bK #[_,FS,q]
inductive vJ (a:be) (vs:EA V) (H:Hp) (Q:VK) (E:XK):Prop
 |mk (x lo hi:Int) (_:vs=[.int x, .int lo, .int hi]) (_:E8 x lo hi=FM->oU a E H (-14)) (_:E8 x lo hi=FB->Q .HZ H):vJ a vs H Q E
theorem ag4 (T:aU K mg a) (XC:XW K a):T.Y3.O P w base 4 (vJ a):=by
 refine fP T.Y3.F afX [03] [02];obtain⟨x,lo,hi,rfl,h1,h2⟩:=h;refine bE (jm (ag3 (pv 1) (pv 0) (pv 2) [05] [05] [05] ?_));cases e:E8 x lo hi with
 |true=>exact bK (cc (h2 e))
 |false=>exact cg (aQ (eS eD XC.MV (jF T XC) hr (by rfl) T.NU T.YO.c.b) #[Fs _,_,#[FS,FS],h1 e _ (.tail _ (.tail _ (.tail _ (.head _))))])
theorem Ow.ag5 {B H H':Hp}{p:EJ}{o:HO}(O:Ow B L H) (k:a9 H H') (h:H p=Fa) (e:H' p=EQ o):Ow (aF B p o) L H':=by
 refine#[λb u z=>?_,λx hx=>?_,O.nd]
 ·by_cases hb:b=p
  ·rw[hb,ae] at z;rw[hb,e];exact z
  ·rw[ac hb] at z;exact k _ _ (O.same b u z)
 ·have h1:=O.at_ x hx
  have ne:x.1≠p:=ai h1.1 h;rw[ac ne];exact#[k _ _ h1.1,h1.2]
theorem AQ {B:Hp}{C p:EJ}{fs:EA (Fh×V)}{v:V}{o:HO}(i:DW B C fs v) (h: ∀C d,B p≠EQ (.ins C d fs)):DW (aF B p o) C fs v:=by
 obtain⟨q,dx,rfl,m,e⟩:=i;exact#[q,dx,FS,m,by rw[ac λz=>h _ _ (by rw[<-z];exact e)];exact e]
theorem nA {a:be}{B:Hp}{v:V}{p:EJ}{o:HO} : ∀ {x:IF},sL a ol B v x->(∀C d fs,fs.length=7->B p≠EQ (.ins C d fs))->(p=ol\/ ∀l,B p≠EQ (.lst l))->sL a ol (aF B p o) v x
 | .step ..,h,hi,_=>AQ h λC d=>hi C d _ rfl
 | .block ..,⟨q,nq,h,e⟩,hi,hl=>#[q,nq,AQ h λC d=>hi C d _ rfl,by
  rw[ac λz=>?_]
  ·exact e
  ·rcases hl with hl|hl
   ·exact nq (z.trans hl)
   ·exact hl _ (by rw[<-z];exact e)]
section
variable {B H H':Hp}{w:FU}{Q:VK}
theorem EB.new {nd:EJ}{kk:EA (a0×V)}{os:EA V}(eb:EB Z B w nd kk os) (hB:B p=Fa):EB Z (aF B p o) w nd kk os:=by
 have up: ∀ {b:EJ}{u:HO},B b=EQ u->aF B p o b=EQ u:=λe=>by rw[ac (ai e hB)];exact e
 exact#[λb u e=>up (eb.sm b u e),up eb.hx,up eb.hm,up eb.ho,up eb.hn,eb.nx,dY eb.po λv x z=>nA z (λ_ _ _ _ z=>by rw[hB] at z;cases z) (.inr λ_ z=>by rw[hB] at z;cases z),eb.le,eb.pn,eb.ln,eb.nl,eb.q4]
theorem cR.fresh (R:cR Z j B H U en w n) (h:H p=Fa):B p=Fa/\Z.N p=Fa/\p≠Z.ol:=by
 obtain⟨_,W,_,_,eb,_⟩:=R;have hB:B p=Ss:=by
  cases z:B p with
  |none=>rfl
  |some u=>rw[W.O.same _ _ z] at h;cases h
 refine#[hB,?_,λz=>by rw[z,eb.ho] at hB;cases hB];cases z:Z.N p with
 |none=>rfl
 |some u=>rw[eb.sm _ _ z] at hB;cases hB
theorem cR.new (R:cR Z j B H U en w n) (k:a9 H H') (h:H p=Fa) (e:H' p=EQ o):cR Z j (aF B p o) H' U en w n:=by
 obtain⟨hB,hN,_⟩:=R.fresh h;obtain @⟨r,b,ff,d,s,nd,kk,os,FO,W,A,gs,eb,hj⟩:=R;exact#[FO,#[W.O.ag5 k h e,W.fn.up hN,W.sq, .nil,W.bn],A,gs,eb.new hB,hj]
theorem cR.chg {o':HO}{nd:EJ}{kk:EA (a0×V)}{os:EA V}(R:cR Z j (aF B p o) H U en w n) (hB:B p=Fa) (hN:Z.N p=Fa) (eb:EB Z B w nd kk os):cR Z j (aF B p o') (aF H p o') U en w n:=by
 obtain @⟨r,b,ff,d,s,UW,kk',os',FO,W,A,gs,_,hj⟩:=R;have O:=W.O.bas (p:=p) (o:=o') (.inl (by show aF B p o p≠Fa;rw[ae];exact SK _));have F:=W.fn.up (o:=o') hN;rw[C8] at O F;exact#[FO,#[O,F,W.sq, .nil,W.bn],A,gs,eb.new hB,hj]
end
theorem cR.put {Z:Zx}{j n b:E1}{B H:Hp}{U:EA EC}{en:GL}{w:FU}{r:V}{ff:EA (a0×V)}{d:rk}{s:fm}{nd p:EJ}{kk:EA (a0×V)}{os:EA V}{o o':HO}(FO:gm Z.S Z.F0) (W:eT Z.a #[Z.M,B] H (Z.c.at_ (60000-j)) Z.S.funs r b ff [d] [] [] [s] n) (A:Ag Z.S U en [s]) (gs:xE [s]) (hj:j<=50000) (h:B p=EQ o) (hN:Z.N p=Fa) (eb:EB Z (aF B p o') w nd kk os):cR Z j (aF B p o') (aF H p o') U en w n:=#[FO,#[W.O.bas (.inl (by show B p≠Fa;rw[h];exact SK _)),W.fn.up hN,W.sq, .nil,W.bn],A,gs,eb,hj]
theorem ot {α β:Type}{F:α->β->Prop}{x:α}{y:β}(h:F x y): ∀ {l:EA α}{m:EA β},Paired F l m->Paired F (l++[x]) (m++[y])
 |_,_, .nil=> .cons h .nil
 |_,_, .cons r t=> .cons r (ot h t)
inductive XS (a:be) (vs:EA V) (H:Hp) (Q:VK) (E:XK):Prop
 |mk {Z:Zx}{j:E1}{B:Hp}{U:EA EC}{en:GL}{w:FU}{n:E1}{v:V}{o:IF}(_:vs=[.ref Z.x,v]) (_:Z.a=a) (_:Z.E=E) (_:cR Z j B H U en w n) (_:sL Z.a Z.ol B v o) (_:48<=w.orders.length->Qe Z (-15)) (_:w.orders.length<48-> ∀B' H',cR Z j B' H' U en { w with orders:=w.orders++[o] } n->Q .HZ H'):XS a vs H Q E
theorem ag6 (T:aU K mg a) (XC:XW K a):T.d_T.O P w base 4 (XS a):=by
 refine fP T.d_T.F aku [03] [02];obtain @⟨Z,j,B,U,en,w',n,v,o,rfl,rfl,rfl,R,ho,h1,h2⟩:=h;have sm:=R.same;obtain @⟨r,b,ff,d,s,nd,kk,os,FO,W,A,gs,eb,hj⟩:=R;have hl:=bL eb.po;have fl: ∀ {Q:VK},Q (.ref Z.ol) H->dL K "orders" Q (.ref Z.x) H:=λq=>#[Z.x,_,Z.dx,_,_,FS,W.O.same _ _ eb.hx,T.G9,T.J2,FS,q]
 have QP:=W.O.same _ _ eb.ho;refine bE (jg (iP T.JP QP (ao (pv 0) rfl) (λ_ q=>fl q) #[_,aR (by rfl) T.QB,_,_,FS,FS,dz (λz=>?_) λz=>?_]))
 ·exact aQ (eS eD XC.Lr (ia T XC) hr (by rfl) T.MB T.YQ.c.b) #[Fs _,_,#[FS,FS],h1 (by lia) H sm _ (.tail _ (.tail _ (.tail _ (.tail _ (.head _)))))]
 ·have lt:w'.orders.length<48:=by have:=eb.le;lia
  have ne: ∀ {b:EJ}{u:HO},B b=EQ u->u≠ .lst os->aF B Z.ol (.lst (os++[v])) b=EQ u:=λe n=>by rw[ac (pj e eb.ho n)];exact e
  have ni: ∀C d fs,fs.length=7->B Z.ol≠EQ (.ins C d fs):=λ_ _ _ _ z=>by rw[eb.ho] at z;cases z
  have eb':EB Z (aF B Z.ol (.lst (os++[v]))) { w' with orders:=w'.orders++[o] } nd kk (os++[v]):=#[λb u e=>by rw[ac λz=>by rw[z,eb.nx.2.1] at e;cases e];exact eb.sm b u e,ne eb.hx nofun,ne eb.hm nofun,ae,ne eb.hn nofun,eb.nx,ot (nA ho ni (.inl rfl)) (dY eb.po λv x z=>nA z ni (.inl rfl)),by rw[Fc];exact lt,eb.pn,eb.ln,by rw[Fc];exact ML eb.nl,eb.q4]
  exact ik (ao (pv 0) rfl) (λ_ q=>fl q) QP (bv 1 #[_,QP,by rw[hl,Ht];lia,cc (h2 lt _ _ (cR.put FO W A gs hj eb.ho eb.nx.2.1 eb'))])
inductive Cz (vs:EA V) (H:Hp) (Q:VK) (_E:XK):Prop
 |mk (b:FR) (_:vs=[jJ b]) (_:Q (aaJ b) H):Cz vs H Q _E
theorem ag7 (T:aU K mg a):T.d_K.U P w base 1 Cz:=by
 refine T.d_K.F.ok aka [03] [02];obtain⟨b,rfl,q⟩:=h;refine aJ #[_,dD (a7 b7 (pv 0) dG (aM _)) (aR (by rfl) T.WE) (aR (by rfl) T.Zv),FS,_,FS,?_];cases b with
 |true=>rw[show decide (jJ FB=V.str "sell")=FM by decide+kernel];exact bK q
 |false=>rw[show decide (jJ FM=V.str "sell")=FB by decide+kernel];exact cg q
section
variable {X:Cx}{Z:Zx}{j n m k iw:E1}{B H H':Hp}{U:EA EC}{en:GL}{w:FU}{σ:L2.St}{Q:VK}{D:eJ}{ss:EA Stmt}{e1 e2 e3:G8}{t1 t2 t3:TE}{v u:V}{x:ER}{y nm f:Fh}{C:EJ}{fs:EA (Fh×V)}{lo z hi:Int}{p0 p1 p2 p3 p4 p5 p6:Pos}
theorem Pa.mono {Q Q':EA V->Hp->Prop}(h:Pa X es σ H Q) (im: ∀b H,Q b H->Q' b H):Pa X es σ H Q':=by
 obtain⟨t,ht,q⟩:=h;refine#[λσ H Q'=> ∃Q:EA V->Hp->Prop,(∀b H,Q b H->Q' b H)/\t σ H Q,λpos pins s σ H Q' I h=>?_,Q,im,q];obtain⟨Q,im,q⟩:=h;exact b9 (ht pos pins s σ H Q I q) λc s' ⟨v,H',I',r,q⟩=>#[v,H',I',r,im _ _ q]
theorem aaK {C:EJ}{fs:EA Fh}(nb:NB X c C fs) (hr:bW 2 X.A) (q:Pa X (e::es) σ H λws H1=>ws.length=fs.length/\ ∀x dx H2,H1 x=Fa->a9 H1 H2->H2 x=EQ (.ins C dx (fs.zip ws))->Q (.ref x) H2)
  (hg:Gl X c:=by rfl) (hx:(c == ("__debug__":Fh))=FM:=by decide) (he:Fb (e::es) X.env=(FM,eval e X.env)::Fb es X.env:=by rfl) (Ma:(Ie p4 (Fb es X.env)).any (·.1)=FM:=by rfl):Pe X (.Call (.Name c p1) (e::es) [] p4) σ H Q:=by
 obtain⟨M,G,b,hm⟩:=nb;refine#[_,gX M G hr hg hm b .nil aY sN hx he Ma,q.mono λws H1 ⟨hl,q⟩ x dx h1 h2 ne=>?_];rw[Gw];exact#[x,dx,ws,FS,hl,ae,λH2 e k=>#[FS,q x dx H2 h1 (λb o e=>k b o (by rw[ac (ai e h1),ac (ai e h2)];exact e) (ai e h1)) e]]
theorem fZ (i iw:E1) (Y:EX X Z.a Z.E) (nd:X.N.Nodup) (R:cR Z j B H U en w n) (hw:σ[iw]?=EQ (EQ (.ref Z.c.wk))) (hn:σ[1]?=EQ (EQ v)) (ins:bD Z.M Z.N C fs v) (cl:gw X.K C) (no:ak X.K C f) (hl:fs.lookup f=EQ u) (ex:au Z.a Z.M Z.N x u) (ws:WS U Z.F0 x) (hk:3*n+1<=k) (er: ∀c,LQ k Z.S en x n= .error c->Qe Z c)
  (q: ∀y m H',LQ k Z.S en x n= .ok (y,m)->m<n->dC y->cR Z j B H' U en w m->Bd X ss D (σ.set i (EQ (.int y))) H') (hp:ig p2 p4:=by rfl) (nw:X.N[iw]?=EQ ("worker":Fh):=by rfl) (vw:oH X.env.scope "worker":=by exact Gx rfl) (n1:X.N[1]?=EQ nm:=by rfl) (v1:oH X.env.scope nm:=by exact Gx rfl) (hd:(nm == ("__debug__":Fh))=FM:=by decide) (RG:(nm == ("__classdict__":Fh))=FM:=by decide) (h:Sl X i y:=by exact#[FS,Gx rfl,FS]):
  Bd X (.Assign [.Name y p0] (.Call (.Attribute (.Name "worker" p1) "work_out" p2) [.Attribute (.Name nm p3) f p6] [] p4) p5::ss) D σ H:=
 aN i nd (mL Y R (dX nw vw) (λ_ q=>oA q hw) (ao (dX n1 v1 hd RG) rfl) (λ_ q=>oA (ins.fld R.same cl no hl q) hn) ex ws hk er q rfl (eB hp rfl)) h
theorem oZ (Y:EX X Z.a Z.E) (R:cR Z j B H U en w n) (h1:PE X e1 t1) (h2:PE X e2 t2) (h3:PE X e3 t3) (v1: ∀Q:VK,Q (.int z) H->t1 σ H Q) (v2: ∀Q:VK,Q (.int lo) H->t2 σ H Q) (v3: ∀Q:VK,Q (.int hi) H->t3 σ H Q) (er:E8 z lo hi=FM->Qe Z (-14)) (q:E8 z lo hi=FB->Bd X ss D σ H) (hg:Gl X "need_range":=by rfl) (hs1:Fb [e1,e2,e3] X.env=(FM,eval e1 X.env)::Fb [e2,e3] X.env:=by rfl) (US:Fb [e2,e3] X.env=(FM,eval e2 X.env)::Fb [e3] X.env:=by rfl) (hs3:Fb [e3] X.env=[(FM,eval e3 X.env)]:=by rfl):
  Bd X (.Expr (.Call (.Name "need_range" p1) [e1,e2,e3] [] p4) p5::ss) D σ H:=
 bA #[_,aL (ag4 Y.T Y.C) (Y.hr.mono [01]) hg Y.T.Y3.c Y.up (aa h1 (aa h2 (aa h3 ag hs3) US) hs1) [01] hs1 (by rw[US,hs3];rfl),v1 _ (v2 _ (v3 _ #[z,lo,hi,FS,λh=>er h H R.same,q]))] rfl
theorem cR.WO (R:cR Z j B H U en w n) (T:aU X.K X.mg Z.a) (no:ak X.K Z.a.JB f) (hl:(mF Z.K).lookup f=EQ v) (q:Q v H):dL X.K f Q (.ref Z.m) H:=by
 obtain⟨_,W,_,_,eb,_⟩:=R;exact#[Z.m,_,Z.dm,_,_,FS,W.O.same _ _ eb.hm,T.QO,no,hl,q]
theorem cR.mk2 (R:cR Z j B H U en w n) (T:aU X.K X.mg Z.a) (q:Q (.ref Z.m) H):dL X.K "market" Q (.ref Z.x) H:=by
 obtain⟨_,W,_,_,eb,_⟩:=R;exact#[Z.x,_,Z.dx,_,_,FS,W.O.same _ _ eb.hx,T.G9,T.LF,FS,q]
theorem cR.dk (R:cR Z j B H U en w n) (T:aU X.K X.mg Z.a) (q:Q (.int Z.d) H):dL X.K "desk" Q (.ref Z.x) H:=by
 obtain⟨_,W,_,_,eb,_⟩:=R;exact#[Z.x,_,Z.dx,_,_,FS,W.O.same _ _ eb.hx,T.G9,T.KG,FS,q]
end
inductive jZ (a:be) (lv:E1) (ok:Gv->Prop) (vs:EA V) (H:Hp) (Q:VK) (E:XK):Prop
 |mk {Z:Zx}{B:Hp}{U:EA EC}{en:GL}{w:FU}{n k dk:E1}{st:Gv}{v:V}(_:vs=[.ref Z.x,v]) (_:Z.a=a) (_:Z.E=E) (_:Z.d=dk) (_:ok st) (_:cR Z 5 B H U en w n) (_:aZ Z.a Z.M Z.N st v) (_:WT lv U Z.F0 st) (_:3*n+4<=k) (_: ∀c,Ij k Z.S Z.K dk en st w n= .error c->Qe Z c) (_: ∀u m H',Ij k Z.S Z.K dk en st w n= .ok (u,m)->m<=n->ES Z 0 H' U en u m->Q .HZ H'):jZ a lv ok vs H Q E
theorem vN {x Gz y:Fh}{st:Stmt}{f:EJ}{fd:FL}{N:EA Fh}{lv:E1}{ok:Gv->Prop}(T:aU K mg a) (XC:XW K a) (KX:ma K a) (hk:9<=kl) (F:oF K x Gz st f fd) (S:az N ["expansion",y] (af st))
  (Jc: ∀(Gp:EH) (A:Gk) (outer:EA Env) (s:EM) (H:Hp) (Z:Zx) (B:Hp) (U:EA EC) (en:GL) (w':FU) (n k dk:E1) (sm:Gv) (v:V) (Q:VK),bW kl (A.deeper (Jf Gz (af st) s.heap.objs.size f Gp))->Z.a=a->Z.d=dk->ok sm->cR Z 5 B H U en w' n->aZ Z.a Z.M Z.N sm v->WT lv U Z.F0 sm->3*n+3<=k->(∀c,Ij (k+1) Z.S Z.K dk en sm w' n= .error c->Qe Z c)->(∀u m H',Ij (k+1) Z.S Z.K dk en sm w' n= .ok (u,m)->m<=n->ES Z 0 H' U en u m->Q .HZ H')->
   let X:=fi (fW P w) P w K mg base N Gz (af st) f Gp A outer s H Z.E
   let D:eJ:= { nx:=λ_ H'=>Q .HZ H',rt:=Q }
   EX X Z.a Z.E->Bd X (a8 st) D (L2.start N [.ref Z.x,v]) H):bS P w K mg base (fW P w) (kl+1) f fd ["expansion",y] (jZ a lv ok):=by
 refine fP F S [03] [02];obtain @⟨Z,B,U,en,w',n,k,dk,sm,v,rfl,ha,rfl,hd,ho,R,sa,wt,Z4,er,q⟩:=h;obtain⟨k,rfl⟩: ∃k',k=k'+1:=#[k-1,by lia];exact Jc Gp A outer s H Z B U en w' n k dk sm v Q hr ha hd ho R sa wt (by lia) er q (by subst ha;exact#[T,XC,KX,hr.mono hk,aA])
section
variable {X:Cx}{Z:Zx}{j n m k:E1}{B H H':Hp}{U:EA EC}{en:GL}{w:FU}{σ:L2.St}{Q:VK}{x:ET ER}{u:V}{o e0 e1 e2:G8}{to t0 t1 t2:TE}{z:Int}{p2 p4 p5 p7 p8:Pos}{jj:E1}{R':FR->Hp->Prop}
theorem XU {e:G8}(q:Pe X e σ H λv H1=>R' (decide (v= .HZ)) H1):Pt X (.Compare e [.Is] [.Constant .none jj p7] p8) σ H R':=cP ZR (q.mono λv H1 q=>oB #[FS,_,FS,q]) (aM _)
theorem XX (Y:EX X Z.a Z.E) (R:cR Z j B H U en w n) (ho:PE X o to) (hvo: ∀Q:VK,Q (.ref Z.c.wk) H->to σ H Q) (h1:PE X e1 t1) (v1: ∀Q:VK,Q u H->t1 σ H Q) (h2:PE X e2 t2) (v2: ∀Q:VK,Q u H->t2 σ H Q) (h0:PE X e0 t0) (v0: ∀Q:VK,Q (.int z) H->t0 σ H Q) (ex:jl Z.a Z.M Z.N x u) (ws: ∀e,x=EQ e->WS U Z.F0 e) (hk:3*n+1<=k) (er: ∀c,W4 k Z.S en z x n= .error c->Qe Z c) (q: ∀y m H',W4 k Z.S en z x n= .ok (y,m)->m<=n->cR Z j B H' U en w m->Q (.int y) H')
  (JS:Fb [e2] X.env=[(FM,eval e2 X.env)]) (ht:eval (.Call (.Attribute o "work_out" p2) [e2] [] p4) X.env=(do
   let ov<-eval o X.env
   standAt p2.atName
   let (f,first)<-holding [ov] (Ku ov "work_out" (do return (<-OV o X.env).getD FB))
   MR p4 f first (Ie p4 (Fb [e2] X.env)) (Kj p4 (IE [] X.env)))):Pe X (.IfExp (.Compare e1 [.Is] [.Constant .none jj p7] p8) e0 (.Call (.Attribute o "work_out" p2) [e2] [] p4) p5) σ H Q:=by
 refine#[_,dD jh h0 dj,XU #[_,h1,v1 _ ?_]];cases x with
 |none=>
  obtain rfl:u= .HZ:=ex;exact cg (v0 _ (q z n H rfl (E6 n) R))
 |some e=>
  obtain⟨⟨p,dx,rfl,_⟩,_⟩:=xl ex;exact bK (mL Y R ho hvo h2 v2 ex (ws e rfl) hk er (λy m H' h hm _ R'=>q y m H' h (J6 hm) R') JS ht)
end
section
variable {kl lv:E1}
theorem ag8 (T:aU K mg a) (XC:XW K a) (KX:ma K a) (Sy:9<=kl):T.Y4.O P w base (kl+1) (jZ a lv λs=> ∃b z t p top q,s= .step b z t p top q):=by
 refine vN T XC KX Sy T.Y4.F Xv λGp A outer s H Z B U en w' n k dk sm v Q hr ha hd ho R sa wt hk er q=>?_;intro X D Y;obtain⟨b,ez,et,ep,top,eq,rfl⟩:=ho;have T:=Y.T;unfold aZ at sa;obtain⟨u1,u2,u3,u4,u5,i,a1,a2,a3,a4,a5⟩:=sa;unfold WT at wt;obtain⟨w1,w2,w3,w4,w5⟩:=wt;generalize Gm:Ij (k+1) Z.S Z.K dk en (.step b ez et ep top eq) w' n=res at er q;unfold Ij at Gm;dsimp only at Gm;have nd:=Xv.nd;refine aN 2 nd (ci (bv 0 (R.wk T ?_)) rfl);refine fZ (k:=k) 3 2 Y nd R rfl rfl i T.LJ T.OB rfl a1 w1 (by lia) (λc h=>er c (by rw[<-Gm,h])) λz n1 H h l1 _ R=>?_;rw[h] at Gm;dsimp only at Gm;refine fZ (k:=k) 4 2 Y nd R rfl rfl i T.LJ T.M3 rfl a2 w2 (by lia) (λc h=>er c (by rw[<-Gm,h])) λt n2 H h l2 _ R=>?_;rw[h] at Gm;dsimp only at Gm;refine fZ (k:=k) 5 2 Y nd R rfl rfl i T.LJ T.NW rfl a3 w3 (by lia) (λc h=>er c (by rw[<-Gm,h])) λlo n3 H h l3 _ R=>?_;rw[h] at Gm;dsimp only at Gm;refine aN 6 nd (XX (k:=k) Y R (pv 2) [05] (ao (pv 1) rfl) (λ_ q=>i.fld R.same T.LJ T.K0 rfl q) (ao (pv 1) rfl) (λ_ q=>i.fld R.same T.LJ T.K0 rfl q) (pv 5) [05] a4 w4 (by lia) (λc h=>er c (by rw[<-Gm,h])) (λhi n4 H h l4 R=>?_) rfl (eB rfl rfl));rw[h] at Gm;dsimp only at Gm;refine fZ (k:=k) 7 2 Y nd R rfl rfl i T.LJ T.Nl rfl a5 w5 (by lia) (λc h=>er c (by rw[<-Gm,h])) λam n5 H h l5 _ R=>?_;rw[h] at Gm;dsimp only at Gm;refine aN 8 nd (ci (bv 0 (R.mk2 T ?_)) rfl);have bad:(Il Z.K z&&(E8 t 0 ((Z.K.quarters:Int)-1)&&(E8 lo Z.K.lo Z.K.hi&&(E8 hi lo Z.K.hi&&(decide (hi-lo<=OQ)&&E8 am 0 Ir)))))=FM->Qe Z (-14):=λh=>er (-14) (by rw[<-Gm];unfold VQ;rw[EL h]);subst ha;refine oZ Y R (pv 3) aj (ca cZ (ao (pv 8) rfl) aj) [05] [05] (λ_ q=>R.WO T T.Lm rfl #[_,_,FS,FS,q]) (λh=>bad (by unfold Il;rw[h];rfl)) λc1=>?_;refine oZ Y R (pv 4) aj (ca cZ (ao (pv 8) rfl) aj) [05] [05] (λ_ q=>R.WO T T.Kp rfl #[_,_,FS,FS,q]) (λh=>bad (by simp only[h,Iy,HY])) λc2=>?_;refine oZ Y R (pv 5) (ao (pv 8) rfl) (ao (pv 8) rfl) [05] (λ_ q=>R.WO T T.Mr rfl q) (λ_ q=>R.WO T T.KD rfl q) (λh=>bad (by simp only[h,Iy,HY])) λc3=>?_;refine oZ Y R (pv 6) (pv 5) (ao (pv 8) rfl) [05] [05] (λ_ q=>R.WO T T.KD rfl q) (λh=>bad (by simp only[h,Iy,HY])) λc4=>?_;refine oZ Y R (ca cZ (pv 6) (pv 5)) aj (aR (by rfl) T.QC) (λ_ q=>#[_,_,FS,FS,q]) [05] [05] (λh=>bad ?_) λc5=>?_
 ·unfold E8 at h c4
  rw[Gh,FH] at c4;rw[Gb (show(0:Int)<=hi-lo by lia),IK] at h;rw[show decide (hi-lo<=OQ)=FM from h];simp only[Iy,HY]
 refine oZ Y R (pv 7) aj (aR (by rfl) T.N3) [05] [05] [05] (λh=>bad (by rw[show E8 am 0 Ir=FM from h];simp only[HY])) λc6=>?_;have good: ¬(Il Z.K z&&(E8 t 0 ((Z.K.quarters:Int)-1)&&(E8 lo Z.K.lo Z.K.hi&&(E8 hi lo Z.K.hi&&(decide (hi-lo<=OQ)&&E8 am 0 Ir)))))=FM:=λh=>by
  have c5:decide (hi-lo<=OQ)=FB:=(Gh _ _▸c5:_/\_).2
  have c6:E8 am 0 Ir=FB:=c6
  have c1:Il Z.K z=FB:=c1;rw[c1,c2,c3,c4,c5,c6] at h;cases h
 unfold VQ at Gm;rw[EI good] at Gm;refine cv (cP gj (bv 7 (cM #[_,_,FS,FS,_,FS,dz (λh=>?_) λh=>?_])))
 ·rw[EI (by lia)] at Gm
  refine aN 9 nd #[_,aL (ag7 T) (hr.mono (by lia)) (by rfl) T.d_K.c aY (aa (ao (pv 1) rfl) ag),i.fld R.same T.LJ T.OA rfl #[b,FS,?_]];refine fj (bI (aO (bv 0 (aO (aaK (qQ T) (hr.mono (by lia)) (aO (ci (bv 0 (R.dk T (aO (bv 3 (aO (bv 4 (aO (bv 9 (aO (bv 5 (aO (bv 6 (aO (bv 7 (cC #[FS,λx dx H2 hx sm e=>cC ?_]))))))))))))))) rfl)))))) (ag6 T Y.C) (hr.mono (by lia)) T.d_T.c aA) rfl;have z0:0<=z:=by unfold E8 at c1;rw[Gh,FH] at c1;exact c1.1
  have t0:0<=t:=by unfold E8 at c2;rw[Gh,FH] at c2;exact c2.1
  unfold Wd T9 at Gm;refine .mk (o:= .step dk z.toNat t.toNat b lo hi am) rfl rfl rfl (R.new sm hx e) #[x,dx,FS,λz=>z,?_] (λh=>er (-15) (by rw[<-Gm,EL h])) λh B' H' R'=>q _ n5 H' (by rw[<-Gm,EI (E1.not_le.mpr h)]) (by lia) #[R'.less (Fs _)];rw[ae,hd,LW z0,LW t0]
  rfl
 ·have am0:am=0:=by unfold E8 at c6;rw[Gh,FH] at c6;lia
  rw[EL am0] at Gm;exact cc (q _ n5 H Gm.symm (by lia) #[R.less (Fs _)])
end
section
variable {H:Hp}{te:TE}
theorem Dy (i n:E1) (hp:Pc (model X.prog X.w) X.A X.env X.xe) (nd:X.N.Nodup) (hm:X.mg "range"=Fa) (he:PE X e te) (hv: ∀R:VK,R (.int n) H->te σ H R) (hn:n<=1000) (I:E1->L2.St->Hp->Prop) (h0:I 0 σ H) (hs: ∀j σ H,j<n->I j σ H->Bd X A (D.lp X ss (I (j+1))) (σ.set i (EQ (.int j))) H) (hd: ∀σ H,I n σ H->Bd X ss D σ H)
  (hg:Gl X "range":=by rfl) (hc:X.calm=FB:=by rfl) (h:Sl X i y:=by exact#[FS,Gx rfl,FS]) (JS:Fb [e] X.env=[(FM,eval e X.env)]:=by rfl) (hf: ∀x,Lk (.Call (.Name "range" p1) [e] [] p2) X.env x=pure x:=by intro _;rfl):Bd X (.For (.Name y p0) (.Call (.Name "range" p1) [e] [] p2) A [] p5::ss) D σ H:=
 aQ (uX hp hc (ze hg hm (aa he ag JS) JS) (jR nd h.hi h.hx (.inl h.hf)) ij hf) (hv _ #[n,FS,by lia,by lia,zk (n:=n) I h0 (λj σ H lt z=>by rw[Int.zero_add];exact hs j σ H lt z) hd])
end
structure LB (Z:Zx) (B:Hp) (L:EJ) (l:EA Int):Prop where
 h:B L=EQ (.lst (l.map V.int))
 n:Z.N L=Fa
 o:L≠Z.ol
inductive ag9 (a:be) (vs:EA V) (H:Hp) (Q:VK) (E:XK):Prop
 |mk {Z:Zx}{B:Hp}{U:EA EC}{en:GL}{w:FU}{n k:E1}{x:EC}{e:ER}{v:V}(_:vs=[.ref Z.x,v]) (_:Z.a=a) (_:Z.E=E) (_:cR Z 5 B H U en w n) (_:sZ Z.a Z.M Z.N (x,e) v) (_:x∉U) (_:WS (x::U) Z.F0 e) (_:3*n+1<=k) (_: ∀c,Jm k Z.S en x e (IS Z.K.quarters) n= .error c->Qe Z c)
  (_: ∀l m B' H' L,Jm k Z.S en x e (IS Z.K.quarters) n= .ok (l,m)->m<=n->LB Z B' L l->cR Z 0 B' H' U en w m->Q (.ref L) H'):ag9 a vs H Q E
theorem cR.q4 {B H:Hp}{w:FU}(R:cR Z j B H U en w n):Z.K.quarters<=4:=by
 obtain⟨_,_,_,_,eb,_⟩:=R;exact eb.q4
theorem Ea {e:ER} :Jm k S en x e (t::l) n=(match LQ k S ((x,(t:Int))::en) e n with
  | .error c=> .error c
  | .ok (a,m)=>match Jm k S en x e l m with
   | .error c=> .error c
   | .ok (b,o)=> .ok (a::b,o)):=rfl
theorem alb (T:aU K mg a) (XC:XW K a) (KX:ma K a) (Sy:9<=kl):T.d_C.O P w base (kl+1) (ag9 a):=by
 refine fP T.d_C.F afY [03] [02];obtain @⟨Z,B,U,en,w',n,k,x,e,v,rfl,rfl,rfl,R,⟨u,i,ex⟩,nx,ws,hk,er,q⟩:=h;have nd:=afY.nd;have Y:EX (fi (fW P w) P w K mg base ["expansion","amounts","found","quarter"] "work_out_amounts" (af s_C) Z.a.f_C Gp A outer s H Z.E) Z.a Z.E:=#[T,XC,KX,hr.mono Sy,aA];refine aN 2 nd (mq λL hL=>?_);obtain⟨hB,hN,hO⟩:=R.fresh hL;obtain⟨nn,kk,os,eb⟩: ∃nn kk os,EB Z B w' nn kk os:=by obtain⟨_,_,_,_,eb,_⟩:=R;exact#[_,_,_,eb]
 have R1:=R.new (o:= .lst []) (b3 hL) hL ae
 have q4:=R.q4;refine Dy 3 Z.K.quarters Iq nd T.WG (ao (ao (pv 0) rfl) rfl) (λ_ q=>R1.mk2 T (R1.WO T T.Kp rfl q)) (by lia) (λt σ H=> ∃(done:EA Int) (m:E1) (y:ET V),σ=[EQ (.ref Z.x),EQ v,EQ (.ref L),y]/\done.length=t/\m<=n/\cR Z (5-t) (aF B L (.lst (done.map V.int))) H U en w' m/\(∀c,Jm k Z.S en x e ((IS Z.K.quarters).drop t) m= .error c->Qe Z c)/\ ∀l m',Jm k Z.S en x e ((IS Z.K.quarters).drop t) m= .ok (l,m')->Jm k Z.S en x e (IS Z.K.quarters) n= .ok (done++l,m')) #[[],n,Fa,FS,FS,E6 n,R1,er,λ_ _ h=>h] ?_ ?_
 ·rintro t σ H3 lt ⟨done,m,y,rfl,dl,lm,R3,er3,q3⟩
  have dr:(IS Z.K.quarters).drop t=t::(IS Z.K.quarters).drop (t+1):=by rw[GO (by rw[U7];exact lt),EA.getElem_range]
  rw[dr] at er3 q3;rw[Ea] at er3 q3;rw[show 5-t=(4-t)+1 by lia] at R3;refine bA (ud Y R3 (ao (pv 0) rfl) (λ_ q=>R3.wk T q) (ao (pv 1) rfl) (λ_ q=>i.fld R3.same T.N6 T.M4 rfl q) (bv 3 #[_,(t:Int),w',m,FS,R3,nx,by unfold dC JR;lia,λH4 R4=>?_]) rfl rfl rfl);have hl4:H4 L=EQ (.lst (done.map V.int)):=by obtain⟨_,W,_,_,_,_⟩:=R4;exact W.O.same _ _ ae
  refine ik (pv 2) [05] hl4 (mL (k:=k) Y R4 (ao (pv 0) rfl) (λ_ q=>R4.wk T q) (ao (pv 1) rfl) (λ_ q=>i.fld R4.same T.N6 T.Nm rfl q) ex ws (by lia) (λc h=>er3 c (by rw[h])) (λz m5 H5 h hm _ R5=>?_) rfl rfl);rw[h] at er3 q3;dsimp only at er3 q3;have hl5:H5 L=EQ (.lst (done.map V.int)):=by obtain⟨_,W,_,_,_,_⟩:=R5;exact W.O.same _ _ ae
  refine#[_,hl5,by rw[EY,dl,Ht];lia,fY #[done++[z],m5,_,FS,by rw[Fc,dl];rfl,by lia,?_,λc h=>er3 c (by rw[h]),λl m' h=>?_]]
  ·have R6:=(R5.unset nx R).chg (o':= .lst ((done++[z]).map V.int)) hB hN eb
   rw[GG] at R6 ⊢;rw[show 5-(t+1)=4-t by lia];exact R6
  ·rw[q3 (z::l) m' (by rw[h]),F4]
   rfl
 ·rintro σ H3 ⟨done,m,y,rfl,dl,lm,R3,er3,q3⟩
  rw[JE (by rw[U7];exact E6 _)] at q3;have:=q3 [] m rfl;rw[Gw] at this;exact aJ (bv 2 (q done m _ H3 L this lm #[ae,hN,hO] (R3.less (Fs _))))
def yu (w:FU):ET EC->Except Int (ET E1)
 |none=> .ok Fa
 |some u=>match w.names.find? λa=>a.1 == u with
  |some a=> .ok (EQ a.2)
  |none=> .error (-16)
def Ao (w:FU) (o:IF):ET EC->FU
 |some x=> { w with orders:=w.orders++[o],names:=(x,w.orders.length)::w.names }
 |none=> { w with orders:=w.orders++[o] }
inductive XY (a:be) (vs:EA V) (H:Hp) (Q:VK) (E:XK):Prop
 |mk {Z:Zx}{j:E1}{B:Hp}{U:EA EC}{en:GL}{w:FU}{n:E1}{fs:EA (Fh×V)}{un:ET EC}{v:V}(_:vs=[.ref Z.x,v]) (_:Z.a=a) (_:Z.E=E) (_:cR Z j B H U en w n) (_:bD Z.M Z.N Z.a.Jb fs v) (_:fs.lookup ("under":Fh)=EQ (hU un)) (_: ∀c,yu w un= .error c->Qe Z c) (_: ∀p,yu w un= .ok p->Q (ag2 p) H):XY a vs H Q E
theorem aha (T:aU K mg a) (XC:XW K a):T.Y6.O P w base 4 (XY a):=by
 refine fP T.Y6.F afZ [03] [02];obtain @⟨Z,j,B,U,en,w',n,fs,un,v,rfl,rfl,rfl,R,i,hl,er,q⟩:=h;have fl: ∀ {Q:VK},Q (hU un) H->dL K "under" Q v H:=λq=>i.fld R.same T.J9 T.Nq hl q
 have sm:=R.same;obtain⟨_,W,_,_,eb,_⟩:=R
 have nm: ∀ {Q:VK},Q (.ref _) H->dL K "named" Q (.ref Z.x) H:=λq=>#[Z.x,_,Z.dx,_,_,FS,W.O.same _ _ eb.hx,T.G9,T.Jz,FS,q]
 refine bE (XU (ci (bv 1 (fl ?_)) rfl));cases un with
 |none=>exact cg (aJ #[_,dJ cG aj,_,FS,q Fa rfl])
 |some u=>
  have g:=gv.k (k:=nk u) (W.O.same _ _ eb.hn);rw[eb.pn] at g;refine bK (bE #[_,fC (iW (dq hr) (ao (pv 1) rfl) (ao (pv 0) rfl)),fl (nm #[_,_,FS,g,_,FS,?_])]);cases hf:w'.names.find? λa=>a.1 == u with
  |none=>exact cg (aQ (eS eD XC.Od (kK T XC) hr (by rfl) T.Pp T.YR.c.b) #[Fs _,_,#[FS,FS],er (-16) (by unfold yu;dsimp only;rw[hf]) H sm _ (.tail _ (.tail _ (.tail _ (.tail _ (.tail _ (.head _))))))])
  |some p=>
   rw[hf] at g;exact bK (aJ #[_,jL (dq hr) (ao (pv 0) rfl) (ao (pv 1) rfl) (λ_ _=>rfl),nm (fl #[_,_,FS,g,q (EQ p.2) (by unfold yu;dsimp only;rw[hf])])])
inductive CN (a:be) (vs:EA V) (H:Hp) (Q:VK) (E:XK):Prop
 |mk {Z:Zx}{j:E1}{B:Hp}{U:EA EC}{en:GL}{w:FU}{n:E1}{v:V}{nm:ET EC}{o:IF}(_:vs=[.ref Z.x,hU nm,v]) (_:Z.a=a) (_:Z.E=E) (_:cR Z j B H U en w n) (_:sL Z.a Z.ol B v o) (_:48<=w.orders.length->Qe Z (-15)) (_:w.orders.length<48-> ∀B' H',cR Z j B' H' U en (Ao w o nm) n->Q .HZ H'):CN a vs H Q E
theorem ahb (T:aU K mg a) (XC:XW K a):T.Y7.O P w base 5 (CN a):=by
 refine fP T.Y7.F af0 [03] [02];obtain @⟨Z,j,B,U,en,w',n,v,nm,o,rfl,rfl,rfl,R,ho,h1,h2⟩:=h;refine bA (bI (aO (bv 0 (aO (bv 2 (cC (.mk rfl rfl rfl R ho h1 λlt B' H' R'=>?_)))))) (ag6 T XC) hr T.d_T.c aA);have h2:=h2 lt;have nl:w'.names.length<=w'.orders.length:=by obtain⟨_,_,_,_,eb,_⟩:=R;exact eb.nl
 refine cv (cP Er (bv 1 (oB #[FS,_,FS,?_])));cases nm with
 |none=>exact bK (cc (h2 _ _ R'))
 |some x=>
  obtain @⟨r,b,ff,d,s,nd,kk,os,FO,W,A,gs,eb,hj⟩:=R';have QP:=W.O.same _ _ eb.ho;have kl:kk.length<=48:=Fj eb.ln (Fj eb.nl eb.le);have ne: ∀ {b:EJ}{u:HO},B' b=EQ u->(∀k,u≠ .dK k)->aF B' nd (.dK (dy kk (nk x) (.int w'.orders.length))) b=EQ u:=λe n=>by rw[ac (pj e eb.hn (n _))];exact e
  have ni: ∀C d fs,fs.length=7->B' nd≠EQ (.ins C d fs):=λ_ _ _ _ z=>by rw[eb.hn] at z;cases z
  have eb':EB Z (aF B' nd (.dK (dy kk (nk x) (.int w'.orders.length)))) (Ao w' o (EQ x)) nd (dy kk (nk x) (.int w'.orders.length)) os:=by
   refine#[λb u e=>by rw[ac λz=>by rw[z,eb.nx.2.2] at e;cases e];exact eb.sm b u e,ne eb.hx nofun,ne eb.hm nofun,ne eb.ho nofun,ae,eb.nx,dY eb.po λv x z=>nA z ni (.inr λ_ z=>by rw[eb.hn] at z;cases z),eb.le,λu=>?_,Fj (cD _ _ _) (G7 eb.ln),?_,eb.q4]
   ·rw[gB]
    show _=ET.map _ (EA.find? _ ((x,w'.orders.length)::w'.names))
    rw[GF];by_cases hu:x=u
    ·rw[EL (by rw[hu]),show(x == u)=FB from beq_iff_eq.mpr hu];rfl
    ·rw[EI λz=>hu (eE (Ja z)).symm,show(x == u)=FM from beq_eq_false_iff_ne.mpr hu];exact eb.pn u
   ·show _+1<=(w'.orders++[o]).length;rw[Fc];exact G7 nl
  refine cg (eA (gQ (dq hr) (ao (pv 0) rfl) (pv 1) (ca cZ (bF bM (by rfl) T.JP Hl (aa (ao (pv 0) rfl) ag)) aj) rfl) #[Z.x,_,Z.dx,_,_,FS,W.O.same _ _ eb.hx,T.G9,T.J2,FS,Z.ol,_,FS, .inl (cO.of QP),_,_,FS,FS,Z.x,_,Z.dx,_,_,FS,W.O.same _ _ eb.hx,T.G9,T.Jz,FS,nd,_,FS,rp.k (k:=nk x) (W.O.same _ _ eb.hn) (by rw[Ht];lia),?_]);have e:(os.length:Int)-1=w'.orders.length:=by rw[bL eb.po];show((w'.orders++[o]).length:Int)-1=_;rw[Fc];show((w'.orders.length+1:E1):Int)-1=_;lia
  rw[e];exact h2 _ _ (cR.put FO W A gs hj eb.hn eb.nx.2.2 eb')
theorem mr (h:E8 x 0 hi=FB):0<=x:=by unfold E8 at h;rw[Gh,FH] at h;exact h.1
theorem Ah {w:FU}(h:(Il M z&&(E8 p M.lo M.hi&&(l.all (λq=>E8 q 0 Ir)&&E8 g 0 9)))=FM):Kl M d nm b z p l un g w= .error (-14):=by unfold Kl;rw[EL h]
theorem yH {w:FU}(h: ¬(Il M z&&(E8 p M.lo M.hi&&(l.all (λq=>E8 q 0 Ir)&&E8 g 0 9)))=FM) (h0:l.all (λq=>q == 0)=FB):Kl M d nm b z p l un g w= .ok w:=by unfold Kl;rw[EI h,EL h0]
theorem CZ {w:FU}(h: ¬(Il M z&&(E8 p M.lo M.hi&&(l.all (λq=>E8 q 0 Ir)&&E8 g 0 9)))=FM) (h0: ¬l.all (λq=>q == 0)=FB):
  Kl M d nm b z p l un g w=(match yu w un with
   | .error c=> .error c
   | .ok par=>if 48<=w.orders.length then .error (-15) else .ok (Ao w (.block d z.toNat b p g.toNat par l) nm)):=by
 unfold Kl yu;rw[EI h,EI h0];unfold Wd T9;cases un with
 |none=>
  dsimp only;split
  ·rename_i h;split at h<;>cases h;rename_i z;rw[EL z]
  ·rename_i h;split at h<;>cases h;rename_i z;rw[EI z];cases nm<;>rfl
 |some u=>
  dsimp only;cases w.names.find? λa=>a.1 == u with
  |none=>rfl
  |some a=>
   dsimp only;split
   ·rename_i h;split at h<;>cases h;rename_i z;rw[EL z]
   ·rename_i h;split at h<;>cases h;rename_i z;rw[EI z];cases nm<;>rfl
theorem xr: ∀ {l:EA Int},(∀q∈l,0<=q)->(0<l.sum ↔ ¬l.all (λq=>q == 0)=FB)/\0<=l.sum
 |[],_=>by simp
 |x::l,h=>by
  obtain⟨h1,h2⟩:=xr λq hq=>h q (EN _ hq);have hx:=h x EO;rw[Yr,MO,Gh,beq_iff_eq];refine#[#[λz y=>h1.mp (by lia) y.2,λz=>?_],by lia];by_cases y:x=0
  ·have:=h1.mpr λw=>z #[y,w];lia
  ·lia
theorem ahc (T:aU K mg a) (XC:XW K a) (KX:ma K a) (Sy:10<=kl):T.Y5.O P w base (kl+1) (jZ a lv λs=> ∃nm b z p x q u g,s= .block nm b z p x q u g):=by
 refine vN T XC KX (KS Sy) T.Y5.F Xw λGp A outer s H Z B U en w' n k dk sm v Q hr ha hd ho R sa wt hk er q=>?_;intro X D Y;subst ha;obtain⟨nm,b,ez,ep,x,eq,un,eg,rfl⟩:=ho;unfold aZ at sa;obtain⟨u1,u2,u3,u4,i,a1,a2,a3,a4⟩:=sa;unfold WT at wt;obtain⟨nx,w1,w2,w3,w4⟩:=wt;generalize Gm:Ij (k+1) Z.S Z.K dk en (.block nm b ez ep x eq un eg) w' n=res at er q;unfold Ij at Gm;dsimp only at Gm;have nd:=Xw.nd;refine aN 2 nd (ci (bv 0 (R.wk T ?_)) rfl);refine fZ (k:=k) 3 2 Y nd R rfl rfl i T.J9 T.NZ rfl a1 w1 (by lia) (λc h=>er c (by rw[<-Gm,h])) λz n1 H h l1 _ R=>?_;rw[h] at Gm;dsimp only at Gm;refine fZ (k:=k) 4 2 Y nd R rfl rfl i T.J9 T.Np rfl a2 w2 (by lia) (λc h=>er c (by rw[<-Gm,h])) λp n2 H h l2 _ R=>?_;rw[h] at Gm;dsimp only at Gm;refine aN 5 nd (bI (aO (bv 0 (aO (ci (bv 1 (i.fld R.same T.J9 T.MH rfl (cC (.mk (k:=k) rfl rfl rfl R a3 nx w3 (by lia) (λc h=>er c (by rw[<-Gm,h])) λl n3 B H L h l3 hL R=>?_)))) rfl)))) (alb T XC KX (E6 9)) (hr.mono Sy) T.d_C.c aA);rw[h] at Gm;dsimp only at Gm;refine aN 6 nd (XX (k:=k) Y R (pv 2) [05] (ao (pv 1) rfl) (λ_ q=>i.fld R.same T.J9 T.LS rfl q) (ao (pv 1) rfl) (λ_ q=>i.fld R.same T.J9 T.LS rfl q) aj [05] a4 w4 (by lia) (λc h=>er c (by rw[<-Gm,h])) (λg n4 H h l4 R=>?_) rfl (eB rfl rfl));rw[h] at Gm;dsimp only at Gm;have bad:(Il Z.K z&&(E8 p Z.K.lo Z.K.hi&&(l.all (λq=>E8 q 0 Ir)&&E8 g 0 9)))=FM->Qe Z (-14):=λh=>er (-14) (by rw[<-Gm,Ah h])
 refine oZ Y R (pv 3) aj (ca cZ (ao (ao (pv 0) rfl) rfl) aj) [05] [05] (λ_ q=>R.mk2 T (R.WO T T.Lm rfl #[_,_,FS,FS,q])) (λh=>bad (by unfold Il;rw[h];rfl)) λc1=>?_;refine oZ Y R (pv 4) (ao (ao (pv 0) rfl) rfl) (ao (ao (pv 0) rfl) rfl) [05] (λ_ q=>R.mk2 T (R.WO T T.Mr rfl q)) (λ_ q=>R.mk2 T (R.WO T T.KD rfl q)) (λh=>bad (by rw[h,Iy,HY])) λc2=>?_;have hL':H L=EQ (.lst (l.map V.int)):=by obtain⟨_,W,_,_,_,_⟩:=R;exact W.O.same _ _ hL.h
 refine jH 7 Iq nd (pv 5) [05] (λj σ H'=>H'=H/\(∃y,σ=[EQ (.ref Z.x),EQ v,EQ (.ref Z.c.wk),EQ (.int z),EQ (.int p),EQ (.ref L),EQ (.int g),y,Fa,Fa])/\ ∀q∈l.take j,E8 q 0 Ir=FB) #[FS,#[_,FS],by rw[EA.take_zero];exact nofun] (λj σ H' _ h=>by rw[h.1];exact hL') ?_ ?_
 ·rintro j y σ H' hj ⟨rfl,⟨y',rfl⟩,ha⟩
  rw[FQ] at hj;obtain⟨c,hc,rfl⟩:=FG.mp hj;refine oZ Y R (pv 7) aj (aR (by rfl) T.N3) [05] [05] [05] (λh=>bad ?_) λc3=>fY #[FS,#[_,FS],λq hq=>?_]
  ·rw[show l.all (λq=>E8 q 0 Ir)=FM by
    rw[EA.all_eq_false];exact#[c,Gs hc,by rw[show E8 c 0 Ir=FM from h];exact EE],Iy,HY,HY]
  ·rw[Mw,hc] at hq
   rcases Fp.mp hq with z|z
   ·exact ha q z
   ·rw[Fd.mp z];exact c3
 ·rintro σ H' ⟨rfl,⟨y',rfl⟩,ha⟩
  rw[EY,MX] at ha;refine oZ Y R (pv 6) aj (aR (by rfl) T.Rf) [05] [05] [05] (λh=>bad (by rw[h,HY,HY,HY])) λc4=>?_;have al:l.all (λq=>E8 q 0 Ir)=FB:=Lf.mpr ha
  have good: ¬(Il Z.K z&&(E8 p Z.K.lo Z.K.hi&&(l.all (λq=>E8 q 0 Ir)&&E8 g 0 9)))=FM:=λh=>by
   rw[show Il Z.K z=FB from c1,c2,al,c4] at h;cases h
  obtain⟨sp,_⟩:=xr (l:=l) λq hq=>mr (ha q hq);refine cv (cP gj #[_,bF (Z0 rfl) (by rfl) T.aeE boot_sum (aa (pv 5) ag),L,l,FS,cO.of hL',cM #[_,_,FS,FS,_,FS,dz (λh=>?_) λh=>?_]])
  ·rw[CZ good (sp.mp h)] at Gm
   refine aN 8 nd (bI (aO (bv 0 (aO (bv 1 (cC (.mk rfl rfl rfl R i rfl (λc h=>er c (by rw[<-Gm,h])) λpar h=>?_)))))) (aha T XC) (hr.mono (by lia)) T.Y6.c aA);rw[h] at Gm;dsimp only at Gm;refine aN 9 nd #[_,aL (ag7 T) (hr.mono (by lia)) (by rfl) T.d_K.c aY (aa (ao (pv 1) rfl) ag),i.fld R.same T.J9 T.NY rfl #[b,FS,?_]];refine fj (bI (aO (bv 0 (aO (ci (bv 1 (i.fld R.same T.J9 T.NX rfl ?_)) rfl)))) (ahb T XC) (hr.mono (by lia)) T.Y7.c aA) rfl;refine aO (aaK (o5 T) (hr.mono (by lia)) (aO (ci (bv 0 (R.dk T ?_)) rfl)));refine aO (bv 3 (aO (bv 9 (aO (bv 4 (aO (bv 6 (aO (bv 8 (aO (bv 5 (cC #[FS,λy dx H2 hy sm e=>cC ?_]))))))))))));have hB:=(R.fresh hy).1;refine .mk (nm:=nm) (o:= .block dk z.toNat b p g.toNat par l) rfl rfl rfl (R.new sm hy e) #[L,hL.o,#[y,dx,FS,λz=>z,?_],?_] (λh=>er (-15) (by rw[<-Gm,EL h])) λh B' H' R'=>q _ n4 H' (by rw[<-Gm,EI (E1.not_le.mpr h)]) (by lia) #[R'.less (Fs _)]
   ·rw[ae,hd,LW (mr c1),LW (mr c4)]
    rfl
   ·rw[ac (ai hL.h hB)];exact hL.h
  ·rw[yH good (Classical.byContradiction λz=>h (sp.mpr z))] at Gm
   exact cc (q _ n4 H' Gm.symm (by lia) #[R.less (Fs _)])
section
open Vbemac (ev runOne)
def uW (k:E1) (S:Hr) (M:JI) (d:E1) (v:GL) (s:Gv) (w:FU) (n:E1):Vbemac.Res (GL×FU):=match s with
 | .bind x e=>(match ev k S v e n with
  | .error c=> .error c
  | .ok (a,m)=> .ok (((x,a)::v,w),m))
 |s=>(match runOne k S M d v s w n with
  | .error c=> .error c
  | .ok (u,m)=> .ok ((v,u),m))
theorem zG {w:FU} :Jh (k+1) S M d v (.cons s r) w (n+1)=(match uW k S M d v s w n with
  | .error c=> .error c
  | .ok (x,m)=>Jh k S M d x.1 r x.2 m):=by
 conv=>lhs;unfold Jh
 unfold uW;cases s<;>dsimp only
 ·cases ev k S v _ n<;>rfl
 all_goals cases runOne k S M d v _ w n<;>rfl
inductive Dv (S:Hr) (U:EA EC) (en:GL):EA EC->GL->Prop
 |refl:Dv S U en U en
 |cons {U':EA EC}{Te:GL}{x:EC}{z:Int}(_:Dv S U en U' Te) (_:x∉U') (_: ∀y,dC (Qq Te y)) (_: ∀y∈S.consts.map (·.1),y∈U'):Dv S U en (x::U') ((x,z)::Te)
theorem cR.back {Z:Zx}{U:EA EC}{en:GL}{U':EA EC}{Te:GL}(x:Dv Z.S U en U' Te): ∀ {j n:E1}{B H:Hp}{w:FU},cR Z j B H U' Te w n->cR Z j B H U en w n:=by
 induction x with
 |refl=>exact λR=>R
 |cons _ ny bg lo ih=>
  intro j n B H w R;obtain⟨FO,W,A,gs,eb,hj⟩:=R;exact ih #[FO,W,A.unset ny bg λ_=>lo,gs,eb,hj]
theorem cR.ext {B H:Hp}{w:FU}(E:Dv Z.S U en U' Te) (R:cR Z j B H U' Te w n) (ny:x∉U'):Dv Z.S U en (x::U') ((x,z)::Te):=by
 obtain⟨_,_,A,_,_,_⟩:=R;exact .cons E ny A.big (A.low rfl)
inductive Cj (K:EF) (a:be) (vs:EA V) (H:Hp) (Q:VK) (E:XK):Prop
 |mk {Z:Zx}{j:E1}{B:Hp}{U:EA EC}{en:GL}{w:FU}{n k:E1}{C:EJ}{x:EC}{e:ER}{u v:V}(_:vs=[.ref Z.c.wk,v]) (_:Z.a=a) (_:Z.E=E) (_:cR Z (j+1) B H U en w n) (_:bD Z.M Z.N C [("name", .str (sb x)),("exp",u)] v) (_:gw K C) (_:ak K C "name") (_:ak K C "exp") (_:au Z.a Z.M Z.N e u) (_:x∉U) (_:WS U Z.F0 e) (_:3*n+1<=k) (_: ∀c,ev k Z.S en e n= .error c->Qe Z c) (_: ∀y m H',ev k Z.S en e n= .ok (y,m)->m<n->dC y->cR Z j B H' (x::U) ((x,y)::en) w m->Q .HZ H'):Cj K a vs H Q E
theorem ahd (T:aU K mg a) (XC:XW K a) (KX:ma K a) (Sy:9<=kl):T.d_x.O P w base (kl+1) (Cj K a):=by
 refine fP T.d_x.F aks [03] [02];obtain @⟨Z,j,B,U,en,w',n,k,C,x,e,u,v,rfl,rfl,rfl,R,i,cl,n1,n2,ex,nx,ws,hk,er,q⟩:=h;have Y:EX (fi (fW P w) P w K mg base ["worker","given"] "give_value" (af s_x) Z.a.f_x Gp A outer s H Z.E) Z.a Z.E:=#[T,XC,KX,hr.mono Sy,aA];exact fj (ud Y R (pv 0) [05] (ao (pv 1) rfl) (λ_ q=>i.fld R.same cl n1 rfl q) (mL (k:=k) Y R (pv 0) [05] (ao (pv 1) rfl) (λ_ q=>i.fld R.same cl n2 rfl q) ex ws hk er (λy m H' h hm hb R'=>#[B,y,w',m,FS,R',nx,hb,λH2 R2=>q y m H2 h hm hb R2]) rfl (eB rfl rfl)) rfl rfl (eB rfl rfl)) rfl
inductive sD (a:be) (lv:E1) (vs:EA V) (H:Hp) (Q:VK) (E:XK):Prop
 |mk {Z:Zx}{j:E1}{B:Hp}{U:EA EC}{en:GL}{w:FU}{n k dk:E1}{l:Ip}{v:V}(_:vs=[.ref Z.x,v]) (_:Z.a=a) (_:Z.E=E) (_:Z.d=dk) (_:cR Z j B H U en w n) (_:mt Z.a Z.M Z.N l v) (_:zo lv U Z.F0 l) (_:3*n+2<=k) (_: ∀c,Jh k Z.S Z.K dk en l w n= .error c->Qe Z c) (_: ∀u m B' H',Jh k Z.S Z.K dk en l w n= .ok (u,m)->m<=n->cR Z 0 B' H' U en u m->Q .HZ H'):sD a lv vs H Q E
inductive Bz (a:be) (lv:E1) (vs:EA V) (H:Hp) (Q:VK) (E:XK):Prop
 |mk {Z:Zx}{B:Hp}{U:EA EC}{en:GL}{w:FU}{n k dk:E1}{st:Gv}{v:V}(_:vs=[.ref Z.x,v]) (_:Z.a=a) (_:Z.E=E) (_:Z.d=dk) (_:cR Z 5 B H U en w n) (_:aZ Z.a Z.M Z.N st v) (_:WT lv U Z.F0 st) (_:3*n+4<=k) (_: ∀c,uW k Z.S Z.K dk en st w n= .error c->Qe Z c) (_: ∀x m B' H',uW k Z.S Z.K dk en st w n= .ok (x,m)->m<=n->cR Z 0 B' H' (bnd U st) x.1 x.2 m->(∀ {U0 en0},Dv Z.S U0 en0 U en->Dv Z.S U0 en0 (bnd U st) x.1)->Q .HZ H'):Bz a lv vs H Q E
theorem alc (T:aU K mg a) (XC:XW K a) (KX:ma K a) (Sy:9<=kl) (G:T.Wi.O P w base kl (sD a (lv-1))):T.d_B.O P w base (kl+1) (jZ a lv λs=> ∃c x y,s= .cond c x y):=by
 refine vN T XC KX Sy T.d_B.F afW λGp A outer s H Z B U en w' n k dk sm v Q hr ha hd ho R sa wt hk er q=>?_;intro X D Y;subst ha;obtain⟨ec,l1,l2,rfl⟩:=ho;unfold aZ at sa;obtain⟨u,q1,us,q2,vs,i,ex,h1,h2,h3,h4⟩:=sa;unfold WT at wt;obtain⟨w1,lv1,w2,w3⟩:=wt;generalize Gm:runOne (k+1) Z.S Z.K dk en (.cond ec l1 l2) w' n=res at er q;unfold runOne at Gm;dsimp only at Gm;refine cv (cP pK (mL (k:=k) Y R (ao (pv 0) rfl) (λ_ q=>R.wk T q) (ao (pv 1) rfl) (λ_ q=>i.fld R.same T.RN T.M0 rfl q) ex w1 (by lia) (λc h=>er c (by rw[<-Gm,h])) (λz m H h hm _ R=>cM #[FS,_,FS,?_]) rfl rfl));rw[h] at Gm;dsimp only at Gm;rw[cn,<-decide_not];refine dz (λhz=>?_) λhz=>?_
 ·rw[EL hz] at Gm
  exact fj (bI (aO (bv 0 (aO (ci (bv 1 (i.fld R.same T.RN T.MG rfl (cC (.mk (k:=k) rfl rfl rfl hd R #[us,h1,h2] w2 (by lia) (λc h=>er c (Gm.symm.trans h)) λu m' B' H' h O9 R'=>q u m' H' (Gm.symm.trans h) (by lia) #[R'])))) rfl)))) G hr T.Wi.c aA) rfl
 ·rw[EI hz] at Gm
  exact fj (bI (aO (bv 0 (aO (ci (bv 1 (i.fld R.same T.RN T.KR rfl (cC (.mk (k:=k) rfl rfl rfl hd R #[vs,h3,h4] w3 (by lia) (λc h=>er c (Gm.symm.trans h)) λu m' B' H' h O9 R'=>q u m' H' (Gm.symm.trans h) (by lia) #[R'])))) rfl)))) G hr T.Wi.c aA) rfl
end
def stx:Gv->E1
 | .bind .. =>7
 | .loop .. =>8
 | .cond .. =>9
 | .step .. =>10
 | .block .. =>11
theorem Az {a:be}{M:EJ->Prop}{H:Hp}(h:aZ a M H s v):Nd1 a M H (stx s) v:=by
 cases s<;>unfold aZ at h
 ·obtain⟨_,h,_⟩:=h;exact#[h,FS]
 ·obtain⟨_,_,_,_,h,_⟩:=h;exact#[h,FS]
 ·obtain⟨_,_,_,_,_,h,_⟩:=h;exact#[h,FS]
 ·obtain⟨_,_,_,_,_,h,_⟩:=h;exact#[h,FS]
 ·obtain⟨_,_,_,_,h,_⟩:=h;exact#[h,FS]
theorem ald (T:aU K mg a) (XC:XW K a) (KX:ma K a) (Sy:9<=kl) (G:T.Wi.O P w base kl (sD a (lv-1))):T.d_y.O P w base (kl+1) (jZ a lv λs=> ∃x lo hi l,s= .loop x lo hi l):=by
 refine vN T XC KX Sy T.d_y.F aai λGp A outer s H Z B U en w' n k dk sm v Q hr ha hd ho R sa wt hk er q=>?_;intro X D Y;subst ha;obtain⟨x,lo,hi,l,rfl⟩:=ho;unfold aZ at sa;obtain⟨u1,u2,ql,us,i,a1,a2,h1,h2⟩:=sa;unfold WT at wt;obtain⟨nx,w1,w2,lv1,w3⟩:=wt;generalize Gm:Ij (k+1) Z.S Z.K dk en (.loop x lo hi l) w' n=res at er q;unfold Ij at Gm;dsimp only at Gm;have nd:=aai.nd;refine aN 2 nd (ci (bv 0 (R.wk T ?_)) rfl);refine fZ (k:=k) 3 2 Y nd R rfl rfl i T.O4 T.Oz rfl a1 w1 (by lia) (λc h=>er c (by rw[<-Gm,h])) λt n1 H h l1 bt R=>?_;rw[h] at Gm;dsimp only at Gm;refine fZ (k:=k) 4 2 Y nd R rfl rfl i T.O4 T.Py rfl a2 w2 (by lia) (λc h=>er c (by rw[<-Gm,h])) λlast n2 H h l2 bl R=>?_;rw[h] at Gm;dsimp only at Gm;clear h;refine fU Iq (λi σ H=> ∃(t:Int) (B:Hp) (w'':FU) (k:E1),σ=[EQ (.ref Z.x),EQ v,EQ (.ref Z.c.wk),EQ (.int t),EQ (.int last)]/\ -JR<=t/\i<=n/\3*i+3<=k/\cR Z 0 B H U en w'' i/\VR k Z.S Z.K dk en x t last l w'' i=res) n2 #[t,B,w',k,FS,bt.1,by lia,by lia,R.less (Fs _),Gm] ?_;rintro m σ H3 ⟨t,B,w3',k,rfl,bt,hm,hk,R,Gm⟩;obtain⟨k,rfl⟩: ∃k',k=k'+1:=#[k-1,by lia];unfold VR at Gm;refine cP eO (bv 3 (bv 4 #[_,_,FS,FS,_,FS,dz (λz=>?_) λz=>?_]))
 ·rw[EI (by lia)] at Gm
  refine bA (uS Y R (pv 2) [05] [01] (λh=>er (-13) (by rw[<-Gm,h])) (λm' H' h R'=>?_) (eB rfl rfl));subst h;dsimp only at Gm;refine bA (ud (j:=4) Y R' (pv 2) [05] (ao (pv 1) rfl) (λ_ q=>i.fld R'.same T.O4 T.Px rfl q) (bv 3 #[_,t,w3',m',FS,R',nx,#[bt,Int.le_trans z bl.2],λH2 R2=>?_]) rfl rfl (eB rfl rfl));refine bA (bI (aO (bv 0 (aO (ci (bv 1 (i.fld R2.same T.O4 T.Mf rfl (cC (.mk (k:=k) rfl rfl rfl hd R2 #[us,h1,h2] w3 (by lia) (λc h=>er c (by rw[<-Gm,h])) λu m2 B2 H4 h hm2 R4=>?_)))) rfl)))) G hr T.Wi.c aA);rw[h] at Gm;dsimp only at Gm;exact aQ (kL (i:=3) nd rfl (Gx rfl) aj lf) #[_,FS,_,_,FS,FS,cc #[m2,by lia,t+1,B2,u,k,FS,by lia,by lia,by lia,R4.unset nx R,Gm]]
 ·rw[EL (by lia)] at Gm
  exact cc (q w3' m H3 Gm.symm hm #[R])
theorem BI {w:FU}(h:stx s≠7):uW k S M d v s w n=(match Ij k S M d v s w n with
  | .error c=> .error c
  | .ok (u,m)=> .ok ((v,u),m))/\ ∀U,bnd U s=U:=by
 cases s<;>first|exact E7 rfl h|exact#[FS,λ_=>rfl]
theorem ahe (T:aU K mg a) (XC:XW K a) (KX:ma K a) (Sy:11<=kl)
  (G1:T.d_y.O P w base kl (jZ a lv λs=> ∃x lo hi l,s= .loop x lo hi l))
  (G2:T.d_B.O P w base kl (jZ a lv λs=> ∃c x y,s= .cond c x y)):
  T.d_S.O P w base (kl+1) (Bz a lv):=by
 refine okL T.d_S.F akt [03] [02];intro X D;obtain @⟨Z,B,U,en,w',n,k,dk,st,v,rfl,rfl,rfl,hd,R,sa,wt,hk,er,q⟩:=h;have nd:=Az sa;have one: ∀ {ok:Gv->Prop},ok st->stx st≠7->jZ Z.a lv ok [.ref Z.x,v] H (λ_ H'=>Q .HZ H') Z.E:=λho h7=>by
  obtain⟨e1,e2⟩:=BI (k:=k) (S:=Z.S) (M:=Z.K) (d:=dk) (v:=en) (w:=w') (n:=n) h7;refine .mk (k:=k) rfl rfl rfl hd ho R sa wt hk (λc h=>er c (by rw[e1,h])) λu m H' h hm ⟨R'⟩=>q (en,u) m _ H' (by rw[e1,h]) hm (by rw[e2];exact R') λx=>by rw[e2];exact x
 have is: ∀ {cl:Fh}{C:EJ}{A' Tb:EA Stmt}{p1 p2 p3 p4 p5:Pos}(j:E1),mg cl=EQ (.ref C)->(zc Z.a)[j]?=EQ C->Gl X cl->(cl == ("__debug__":Fh))=FM->(stx st=j->Bd X A' D [EQ (.ref Z.x),EQ v] H)->(stx st≠j->Bd X Tb D [EQ (.ref Z.x),EQ v] H)->Bd X [.If (.Call (.Name "isinstance" p1) [.Name "statement" p2, .Name cl p3] [] p4) A' Tb p5] D [EQ (.ref Z.x),EQ v] H:=λj hm hj hg hx yes no=>cv (vD KX T.LK nd R.same hj hm (pv 1) [05] (dz yes no) (by rfl) hg hx)
 refine is 7 T.SS rfl rfl [01] (λz=>?_) λz7=>?_
 ·cases st<;>first|cases z|skip
  rename_i x e;unfold aZ at sa;obtain⟨u,i,ex⟩:=sa;unfold WT at wt;refine fj (bI (aO (ci (bv 0 (R.wk T (aO (bv 1 (cC (.mk (k:=k) (j:=4) rfl rfl rfl R i T.Q4 T.Nk T.P8 ex wt.1 wt.2 (by lia) (λc h=>er c (by unfold uW;dsimp only;rw[h])) λy m H' h hm hb R'=>?_)))))) rfl)) (ahd T XC KX (E6 9)) (hr.mono (by lia)) T.d_x.c aA) rfl;exact q ((x,y)::en,w') m _ H' (by unfold uW;dsimp only;rw[h]) (by lia) (R'.less (Fs _)) λX=>cR.ext X R wt.1
 refine is 8 T.Vl rfl rfl [01] (λz=>?_) λz8=>?_
 ·exact fj (bI (aO (bv 0 (aO (bv 1 (cC (one (by cases st<;>first|exact#[_,_,_,_,FS]|cases z) z7)))))) G1 hr T.d_y.c aA) rfl
 refine is 9 T.Xa rfl rfl [01] (λz=>?_) λz9=>?_
 ·exact fj (bI (aO (bv 0 (aO (bv 1 (cC (one (by cases st<;>first|exact#[_,_,_,FS]|cases z) z7)))))) G2 hr T.d_B.c aA) rfl
 refine is 10 T.TC rfl rfl [01] (λz=>?_) λz10=>?_
 ·exact fj (bI (aO (bv 0 (aO (bv 1 (cC (one (by cases st<;>first|exact#[_,_,_,_,_,_,FS]|cases z) z7)))))) (ag8 T XC KX (E6 9)) (hr.mono (by lia)) T.Y4.c aA) rfl
 exact fj (bI (aO (bv 0 (aO (bv 1 (cC (one (by cases st<;>first|exact#[_,_,_,_,_,_,_,_,FS]|exact E7 rfl z7|exact E7 rfl z8|exact E7 rfl z9|exact E7 rfl z10) z7)))))) (ahc T XC KX (E6 10)) (hr.mono Sy) T.Y5.c aA) rfl
theorem ahf (T:aU K mg a) (XC:XW K a) (KX:ma K a) (Sy:9<=kl) (G:T.d_S.O P w base kl (Bz a lv)):
  T.Wi.O P w base (kl+1) (sD a lv):=by
 refine okL T.Wi.F afV [03] [02];intro X D;obtain @⟨Z,j,B,U,en,w',n,k,dk,l,v,rfl,rfl,rfl,hd,R,⟨us,⟨L,rfl,_,hL⟩,sa⟩,wt,hk,er,q⟩:=h;have Y:EX X Z.a Z.E:=#[T,XC,KX,hr.mono Sy,aA];generalize Gm:Jh k Z.S Z.K dk en l w' n=res at er q;refine jH 2 Iq afV.nd (pv 1) [05] (λi σ H=> ∃(U':EA EC) (Te:GL) (B:Hp) (w'':FU) (n' k':E1) (r:Ip) (y:ET V),σ=[EQ (.ref Z.x),EQ (.ref L),y]/\Dv Z.S U en U' Te/\cR Z 0 B H U' Te w'' n'/\bw Z.a Z.M Z.N r (us.drop i)/\zo lv U' Z.F0 r/\3*n'+2<=k'/\n'<=n/\Jh k' Z.S Z.K dk Te r w'' n'=res) #[U,en,B,w',n,k,l,_,FS, .refl,R.less (Fs _),sa,wt,hk,E6 n,Gm] (λi σ H _ ⟨_,_,_,_,_,_,_,_,_,_,R,_⟩=>R.same _ _ hL) ?_ ?_
 ·rintro i v σ H2 hi ⟨U',Te,B,w2,n2,k2,r,y,rfl,xt,R,sa,wt,hk,hn,Gm⟩
  obtain⟨lt,hv⟩:=FF.mp hi;rw[GO lt,hv] at sa;cases r with
  |nil=>unfold bw at sa;cases sa
  |cons st r=>
  unfold bw at sa;obtain⟨u,vs,e,s1,s2⟩:=sa;cases e;unfold zo at wt;obtain⟨k,rfl⟩: ∃k',k2=k'+1:=#[k2-1,by lia];refine bA (uS Y R (ao (pv 0) rfl) (λ_ q=>R.wk T q) [01] (λh=>er (-13) (by rw[<-Gm,h];unfold Jh;rfl)) (λm' H' h R'=>?_) rfl);subst h;rw[zG] at Gm;refine bA (bI (aO (bv 0 (aO (bv 2 (cC (.mk (k:=k) rfl rfl rfl hd R' s1 wt.1 (by lia) (λc h=>er c (by rw[<-Gm,h])) λx m B' H' h hm R2 xt'=>?_)))))) G hr T.d_S.c aA);rw[h] at Gm;exact fY #[_,x.1,B',x.2,m,k,r,_,FS,xt' xt,R2,s2,wt.2,by lia,by lia,Gm]
 ·rintro σ H2 ⟨U',Te,B,w2,n2,k2,r,y,rfl,xt,R,sa,wt,hk,hn,Gm⟩
  rw[JE (E6 _)] at sa;cases r with
  |cons st r=>unfold bw at sa;obtain⟨_,_,e,_⟩:=sa;cases e
  |nil=>
  obtain⟨k,rfl⟩: ∃k',k2=k'+1:=#[k2-1,by lia];unfold Jh at Gm;exact cc (q w2 n2 B H2 Gm.symm hn (R.back xt))
theorem zx (T:aU K mg a) (XC:XW K a) (KX:ma K a): ∀lv,T.Wi.O P w base (13+3*lv) (sD a lv)
 |0=>ahf T XC KX (by decide) (ahe T XC KX (E6 11)
   (fP T.d_y.F aai (λvs H Q E h=>by obtain⟨rfl,_⟩:=h;rfl) λGp A outer s H vs Q E hr h=>by
    obtain⟨_,_,_,_,⟨x,lo,hi,l,rfl⟩,_,_,wt,_⟩:=h;unfold WT at wt;exact E7 wt.2.2.2.1 [01])
   (fP T.d_B.F afW (λvs H Q E h=>by obtain⟨rfl,_⟩:=h;rfl) λGp A outer s H vs Q E hr h=>by
    obtain⟨_,_,_,_,⟨c,x,y,rfl⟩,_,_,wt,_⟩:=h;unfold WT at wt;exact E7 wt.2.1 [01]))
 |lv+1=>by
  have G:=zx T XC KX lv
  have:=ahf T XC KX (by lia) (ahe T XC KX (by lia) (ald (lv:=lv+1) T XC KX (by lia) G) (alc (lv:=lv+1) T XC KX (by lia) G));exact this.mono (by lia)
section
open Vbemac (ev runAll DOWN)
def Ax (M:JI) (t:GK) (d:E1) (S:Hr) (l:EA IF) (n:E1):Vbemac.Res (E1×Hr×EA IF):=match t with
 | .const x e=>(match n with
  |0=> .error (-13)
  |n+1=>match ev DOWN S S.consts e n with
   | .error c=> .error c
   | .ok (a,m)=> .ok ((d,{ S with consts:=(x,a)::S.consts },l),m))
 | .func x ps e=> .ok ((d,{ S with funs:=(x,ps,e)::S.funs },l),n)
 | .desk _ b=>match runAll DOWN S M d S.consts b ⟨l,[]⟩ n with
  | .error c=> .error c
  | .ok (w,m)=> .ok ((d+1,S,w.orders),m)
theorem yl {d n:E1} :Mn M (t::r) d S l n=(match Ax M t d S l n with
  | .error c=> .error c
  | .ok (x,m)=>Mn M r x.1 x.2.1 x.2.2 m):=by
 conv=>lhs;unfold Mn
 unfold Ax;cases t with
 |const x e=>
  cases n with
  |zero=>rfl
  |succ n=>dsimp only;cases ev DOWN S S.consts e n<;>rfl
 |func x ps e=>rfl
 |desk x b=>dsimp only;cases runAll DOWN S M d S.consts b #[l,[]] n<;>rfl
theorem ahg {s:fm} :look [s] x=s x:=by
 show(match s x with|some a=>EQ a|none=>s x)=s x
 cases s x<;>rfl
abbrev Zx.to (Z:Zx) (S:Hr) (F:EA (EC×E1)) (d:Int):Zx:= { Z with S:=S,F0:=F,d:=d }
theorem yy {Z:Zx}{j n:E1}{B H:Hp}{U:EA EC}{w:FU}(R:cR Z j B H (x::U) ((x,y)::Z.S.consts) w n) (lo: ∀z∈Z.S.consts.map (·.1),z∈U):cR (Z.to { Z.S with consts:=(x,y)::Z.S.consts } Z.F0 Z.d) j B H (x::U) ((x,y)::Z.S.consts) w n:=by
 obtain @⟨r,b,ff,d,s,nd,kk,os,FO,W,A,gs,eb,hj⟩:=R;have sub: ∀z∈(((x,y)::Z.S.consts).map λa:EC×Int=>a.1),z∈x::U:=λz hz=>by
  rcases EW.mp hz with h|h
  ·rw[h];exact EO
  ·exact EN _ (lo z h)
 refine#[#[λf p hf=>?_,A.big],W,#[A.val,λz hz=>?_,λ_=>sub,A.big],gs,#[eb.sm,eb.hx,eb.hm,eb.ho,eb.hn,eb.nx,eb.po,eb.le,eb.pn,eb.ln,eb.nl,eb.q4],hj]
 ·rcases FO.all f p hf with⟨g,h1,h2,⟨Kg,Fg,h3,h4,h5⟩,h6,h7⟩|h
  ·exact .inl #[g,h1,h2,#[Kg,Fg,h3,λz hz=>EN _ (h4 z hz),h5],h6,h7]
  ·exact .inr h
 ·have:=A.val z (sub z hz)
  rw[ahg] at this;exact this
theorem gH {α:Type}{F:EA (EC×α)}{x f:EC}{y:α} :(((x,y)::F).find? λh=>h.1 == f)=if x=f then EQ (x,y) else F.find? λh=>h.1 == f:=by
 rw[GF];by_cases h:x=f
 ·rw[EL h,show((x,y).1 == f)=FB from beq_iff_eq.mpr h]
 ·rw[EI h,show((x,y).1 == f)=FM from beq_eq_false_iff_ne.mpr h]
theorem xT {S:Hr}{F:EA (EC×E1)}{x:EC}{ps:EA EC}{e:ER}{U:EA EC}(FO:gm S F) (nx: ∀g∈F,g.1≠x) (nd:ps.Nodup) (l6:ps.length<=6) (ws:WS (ps++U) F e) (vc: ∀z∈U,z∈S.consts.map (·.1)):gm { S with funs:=(x,ps,e)::S.funs } ((x,ps.length)::F):=by
 have sub:Sub F ((x,ps.length)::F):=λf p h=>by
  rw[gH,EI λz=>nx p (J3 h) (by have:=Qp h;rw[z];exact beq_iff_eq.mp this)];exact h
 refine#[λf p hf=>?_,FO.agQ];rw[gH] at hf;by_cases h:x=f
 ·rw[EL h] at hf
  cases hf;exact .inl #[(x,ps,e),by show EA.find? _ ((x,ps,e)::S.funs)=_;rw[gH,EL h],FS,#[U,F,ws,vc,sub],nd,l6]
 ·rw[EI h] at hf
  have e1:(((x,ps,e)::S.funs).find? λh=>h.1 == f)=S.funs.find? λh=>h.1 == f:=by rw[gH,EI h]
  rcases FO.all f p hf with⟨g,h1,h2,⟨Kg,Fg,h3,h4,h5⟩,h6,h7⟩|⟨h1,h2⟩
  ·exact .inl #[g,e1.trans h1,h2,#[Kg,Fg,h3,h4,λf p h=>sub f p (h5 f p h)],h6,h7]
  ·exact .inr #[e1.trans h1,h2]
section
variable {B H:Hp}{w:FU}
theorem EB.ahh {nd UW:EJ}{kk kk':EA (a0×V)}{os:EA V}{w':FU}{d':Int}(eb:EB Z B w nd kk os) (hn:aF B Z.x (.ins Z.a.FV Z.dx (xF Z.m Z.c.wk Z.ol d' UW)) UW=EQ (.dK kk')) (hN:Z.N UW=Fa) (ho:w'.orders=w.orders) (pn: ∀u,bN kk' (nk u)=(w'.names.find? λa=>a.1 == u).map λa=>V.int (a.2:E1)) (ln:kk'.length<=w'.names.length) (nl:w'.names.length<=w'.orders.length):EB (Z.to Z.S Z.F0 d') (aF B Z.x (.ins Z.a.FV Z.dx (xF Z.m Z.c.wk Z.ol d' UW))) w' UW kk' os:=by
 have ne: ∀ {b:EJ}{u:HO},B b=EQ u->(∀C d fs,fs.length=5->u≠ .ins C d fs)->aF B Z.x (.ins Z.a.FV Z.dx (xF Z.m Z.c.wk Z.ol d' UW)) b=EQ u:=λe n=>by rw[ac (pj e eb.hx (n _ _ _ rfl))];exact e
 have n7: ∀C d fs,fs.length=7->B Z.x≠EQ (.ins C d fs):=λC d fs hl z=>by
  rw[eb.hx] at z;have:=FN NP (HO.ins.inj (E5 z)).2.2;rw[hl] at this;cases this
 refine#[λb u e=>by rw[ac λz=>by rw[z,eb.nx.1] at e;cases e];exact eb.sm b u e,ae,ne eb.hm λC d fs hl z=>?_,ne eb.ho nofun,hn,#[eb.nx.1,eb.nx.2.1,hN],by rw[ho];exact dY eb.po λv x z=>nA z n7 (.inr λ_ z=>by rw[eb.hx] at z;cases z),by rw[ho];exact eb.le,pn,ln,nl,eb.q4]
 ·have:=FN NP (HO.ins.inj z).2.2
  rw[hl] at this;cases this
theorem cR.desk (R:cR Z j B H U en w n): ∃nd,H Z.x=EQ (.ins Z.a.FV Z.dx (xF Z.m Z.c.wk Z.ol Z.d nd))/\ ∀d',cR (Z.to Z.S Z.F0 d') j (aF B Z.x (.ins Z.a.FV Z.dx (xF Z.m Z.c.wk Z.ol d' nd))) (aF H Z.x (.ins Z.a.FV Z.dx (xF Z.m Z.c.wk Z.ol d' nd))) U en w n:=by
 obtain @⟨r,b,ff,d,s,nd,kk,os,FO,W,A,gs,eb,hj⟩:=R;refine#[nd,W.O.same _ _ eb.hx,λd'=>cR.put (Z:=Z.to Z.S Z.F0 d') FO W A gs hj eb.hx eb.nx.1 (eb.ahh (by rw[ac (pj eb.hn eb.hx nofun)];exact eb.hn) eb.nx.2.2 rfl eb.pn eb.ln eb.nl)]
theorem cR.reset (R:cR Z j B H U en w n) (h:H p=Fa): ∃nd,aF H p (.dK []) Z.x=EQ (.ins Z.a.FV Z.dx (xF Z.m Z.c.wk Z.ol Z.d nd))/\ ∃B',cR Z j B' (aF (aF H p (.dK [])) Z.x (.ins Z.a.FV Z.dx (xF Z.m Z.c.wk Z.ol Z.d p))) U en #[w.orders,[]] n:=by
 obtain⟨hB,hN,_⟩:=R.fresh h;have R:=R.new (o:= .dK []) (b3 h) h ae;obtain @⟨r,b,ff,d,s,nd,kk,os,FO,W,A,gs,eb,hj⟩:=R;exact#[nd,W.O.same _ _ eb.hx,_,cR.put FO W A gs hj eb.hx eb.nx.1 (eb.ahh (Z:=Z) (d':=Z.d) (w':=#[w.orders,[]]) (kk':=[]) (by rw[ac (pj ae eb.hx nofun),ae]) hN rfl (λ_=>rfl) (Fs _) (Fs _))]
end
def tpx:GK->E1
 | .const .. =>12
 | .func .. =>13
 | .desk .. =>14
theorem DE {a:be}{M:EJ->Prop}{H:Hp} : ∀ {t:GK}{v:V},fk a M H t v->Nd1 a M H (tpx t) v
 | .const ..,_,⟨_,h,_⟩=>#[h,FS]
 | .func ..,_,⟨_,_,h,_⟩=>#[h,FS]
 | .desk ..,_,⟨_,_,h,_⟩=>#[h,FS]
inductive TS (Z:Zx) (H:Hp) (U:EA EC) (l:EA IF) (n d:E1) (r:IG):Prop
 |mk (B:Hp) (nm:EA (EC×E1)) (_:cR Z 0 B H U Z.S.consts ⟨l,nm⟩ n) (_: ∀z∈U,z∈Z.S.consts.map (·.1)) (_:Z.d+1=d) (_:Z.S.funs.length<=Z.F0.length) (_:wq U Z.F0 r):TS Z H U l n d r
inductive XZ (a:be) (vs:EA V) (H:Hp) (Q:VK) (E:XK):Prop
 |mk {Z:Zx}{U:EA EC}{l:EA IF}{n d:E1}{t:GK}{r:IG}{v:V}(_:vs=[.ref Z.x,v]) (_:Z.a=a) (_:Z.E=E) (_:TS Z H U l n d (t::r)) (_:n<=10000) (_:fk Z.a Z.M Z.N t v) (_: ∀c,Ax Z.K t d Z.S l n= .error c->Qe Z c) (_: ∀x m H' U' F',Ax Z.K t d Z.S l n= .ok (x,m)->m<=n->TS (Z.to x.2.1 F' ((x.1:Int)-1)) H' U' x.2.2 m x.1 r->Q .HZ H'):XZ a vs H Q E
theorem ahi (T:aU K mg a) (XC:XW K a) (KX:ma K a):T.Y2.O P w base 32 (XZ a):=by
 refine okL T.Y2.F afU [03] [02];intro X D;obtain @⟨Z,U,l,n,d,t,r,v,rfl,rfl,rfl,⟨B,nm,R,vc,hd,fl,wt⟩,hn,ta,er,q⟩:=h;have Y:EX X Z.a Z.E:=#[T,XC,KX,hr.mono [01],aA];have nd:=DE ta;have is: ∀ {cl:Fh}{C:EJ}{A' Tb:EA Stmt}{p1 p2 p3 p4 p5:Pos}(j:E1),mg cl=EQ (.ref C)->(zc Z.a)[j]?=EQ C->Gl X cl->(cl == ("__debug__":Fh))=FM->(tpx t=j->Bd X A' D [EQ (.ref Z.x),EQ v] H)->(tpx t≠j->Bd X Tb D [EQ (.ref Z.x),EQ v] H)->Bd X [.If (.Call (.Name "isinstance" p1) [.Name "top" p2, .Name cl p3] [] p4) A' Tb p5] D [EQ (.ref Z.x),EQ v] H:=λj hm hj hg hx yes no=>cv (vD KX T.LK nd R.same hj hm (pv 1) [05] (dz yes no) (by rfl) hg hx)
 generalize Gm:Ax Z.K t d Z.S l n=res at er q;refine is 12 T.RK rfl rfl [01] (λz=>?_) λz12=>?_
 ·cases t<;>first|cases z|skip
  rename_i x e;obtain⟨u,i,ex⟩:=ta;unfold wq at wt;obtain⟨nx,ws,wr⟩:=wt;unfold Ax at Gm;dsimp only at Gm;refine bA (uS Y R (ao (pv 0) rfl) (λ_ q=>R.wk T q) [01] (λh=>er (-13) (by rw[<-Gm,h])) (λm H1 h R1=>?_) rfl);subst h;dsimp only at Gm;refine fj (bI (aO (ci (bv 0 (R1.wk T (aO (bv 1 (cC (.mk (k:=DOWN) (j:=4) rfl rfl rfl R1 i T.P9 T.N0 T.OC ex nx ws (by show 3*m+1<=34000;lia) (λc h=>er c (by rw[<-Gm,h])) λy m' H' h hm hb R'=>?_)))))) rfl)) (ahd T XC KX (E6 9)) (hr.mono [01]) T.d_x.c aA) rfl;rw[h] at Gm;have lo: ∀z∈Z.S.consts.map (·.1),z∈U:=by obtain⟨_,_,A,_,_,_⟩:=R;exact A.low rfl
  have e1:((d:Int)-1)=Z.d:=by lia
  refine q (d,_,l) m' H' (x::U) Z.F0 Gm.symm (by lia) #[B,nm,?_,λz hz=>?_,?_,fl,wr]
  ·show cR (Z.to _ Z.F0 ((d:Int)-1)) 0 B H' _ _ _ m'
   rw[e1];exact(yy R' lo).less (Fs _)
  ·rcases EW.mp hz with h|h
   ·rw[h];exact EO
   ·exact EN _ (vc z h)
  ·show(d:Int)-1+1=d;lia
 refine is 13 T.Vn rfl rfl [01] (λz=>?_) λz13=>?_
 ·cases t<;>first|cases z|skip
  rename_i x ps e;have ta':=ta;obtain⟨ql,u,i,_⟩:=ta;unfold wq at wt;obtain⟨f8,nx,UW,l6,ws,wr⟩:=wt;unfold Ax at Gm;have wk: ∀ {Q:VK},Q (.ref Z.c.wk) H->dL K "worker" Q (.ref Z.x) H:=λq=>R.wk (X:=X) T q
  have sm:=R.same;obtain @⟨r',b,ff,sd,sco,nn,kk,os,FO,W,A,gs,eb,hj⟩:=R
  have e1:((d:Int)-1)=Z.d:=by lia
  refine eA (gQ (dq hr) (ao (ao (pv 0) rfl) rfl) (ao (pv 1) rfl) (pv 1) rfl) (wk (W.fld T T.JZ rfl (i.fld sm T.Qa T.Pz rfl #[Z.c.fa,_,FS,rp.k (k:=nk x) (W.O.get 3 rfl) (by rw[Ht];have:=W.fn.1;lia),?_])));refine q (d,_,l) n _ U ((x,ps.length)::Z.F0) Gm.symm (E6 n) #[B,nm,?_,vc,?_,G7 fl,wr]
  ·show cR (Z.to _ _ ((d:Int)-1)) 0 B _ _ _ _ n
   rw[e1];refine#[xT FO nx UW l6 ws vc,#[W.O.put (L1:=[_,_,_]),#[Fj (cD _ _ _) (G7 W.fn.1),λf=>?_],W.sq, .nil,W.bn],#[A.val,A.bot,A.low,A.big],gs,#[eb.sm,eb.hx,eb.hm,eb.ho,eb.hn,eb.nx,eb.po,eb.le,eb.pn,eb.ln,eb.nl,eb.q4],hj];rw[gH,gB];by_cases hf:x=f
   ·rw[EL hf,EL (by rw[hf])]
    exact#[v,FS,fk.Hj (λb o e m=>#[m,eb.sm b o e]) _ ta']
   ·rw[EI hf,EI λz=>hf (eE (Ja z)).symm]
    exact W.fn.2 f
  ·show(d:Int)-1+1=d;lia
 ·cases t<;>first|exact E7 rfl z12|exact E7 rfl z13|skip
  rename_i x b;obtain⟨ql,us,i,h1,h2⟩:=ta;unfold wq at wt;unfold Ax at Gm;dsimp only at Gm;refine is 14 T.TF rfl rfl [01] (λ_=>?_) λz=>E7 rfl z;obtain⟨nn,hx,R1⟩:=R.desk;have R1:=R1 d;refine aQ (gP (pv 0) aj my) #[Z.x,_,Z.dx,_,_,FS,hx,T.G9,T.KG,FS,_,_,FS,FS,Z.dx,_,hx,(by show 5<1000;decide),?_];rw[hd];refine aQ (b5 (pv 0) e9 rfl) λUW Xj=>?_;obtain⟨nn',hx',B',R2⟩:=R1.reset Xj;refine#[Z.x,_,Z.dx,_,FS,hx',T.G9,T.Jz,(by show 5<1000;decide),?_];refine fj (bI (aO (bv 0 (aO (ci (bv 1 (i.fld R2.same T.Q5 T.LU rfl (cC (.mk (Z:=Z.to Z.S Z.F0 d) (k:=DOWN) rfl rfl rfl rfl R2 #[us,h1,h2] wt.1 (by show 3*n+2<=34000;lia) (λc h=>er c (by rw[<-Gm,h])) λu m B2 H2 h hm R3=>?_)))) rfl)))) (zx T XC KX 6) hr T.Wi.c aA) rfl;rw[h] at Gm;refine q (d+1,Z.S,u.orders) m H2 U Z.F0 Gm.symm hm #[B2,u.names,?_,vc,?_,fl,wt.2]
  ·show cR (Z.to _ _ (((d+1:E1):Int)-1)) 0 B2 _ _ _ _ m
   rw[show(((d+1:E1):Int)-1)=d by lia];exact R3
  ·show((d+1:E1):Int)-1+1=_;lia
end
section
variable {B N H H':Hp}
theorem Ow.Tf (O:Ow B (c::L) H) (h:H p=Fa):Ow B (c::(p,o)::L) (aF H p o):=
 (O.adds (N:=[(p,o)]) (b3 h) (λx hx=>by rw[Fd.mp hx];exact#[h,ae]) (FI.mpr #[nofun, .nil])).perm (.swap _ _ _)
theorem Ow.toB (O:Ow B (c::L) H):Ow (aF B c.1 c.2) L H:=by
 have h0:=O.at_ c EO;obtain⟨n1,n2⟩:=FI.mp O.nd;refine#[λb u e=>?_,λx hx=>#[(O.at_ x (EN _ hx)).1,?_],n2]
 ·by_cases hb:b=c.1
  ·rw[hb,ae] at e;rw[hb,<-e];exact h0.1
  ·rw[ac hb] at e;exact O.same b u e
 ·rw[ac λz=>n1 (by show c.1∈_;rw[<-z];exact Kc (f:=λx:k8=>x.1) hx)]
  exact(O.at_ x (EN _ hx)).2
end
abbrev wk0 (a:be) (c:px) (sd:EJ):EA k8:=wkL a c 10000 (.int 0) [] [(sd,[])] []
inductive X0 (a:be) (vs:EA V) (H:Hp) (Q:VK) (_E:XK):Prop
 |mk {N:Hp}{L:EA k8}{p dx:EJ}(_:vs=[.ref p]) (_:Ow N ((p, .ins a.GY dx [])::L) H) (_: ∀fa sd sl tl H',Ow N (wk0 a ⟨p,dx,fa,sl,tl,0⟩ sd++L) H'->Q .HZ H'):X0 a vs H Q _E
theorem mM (T:aU K mg a):T.YW.U P w mg base 1 (X0 a):=by
 refine T.YW.F.ok afJ [03] [02];obtain @⟨N,L,p,dx,rfl,O,q⟩:=h;refine aQ (b5 (pv 0) aj rfl) #[p,_,dx,_,FS,O.get 0 rfl,T.Hw,T.Kh,(by show 0<1000;decide),?_];have O:=O.put (L1:=[]) (o':= .ins a.GY dx (Hs "taken" (.int 0) []));refine aQ (b5 (pv 0) e9 rfl) λfa hfa=>#[p,_,dx,_,FS,(O.Tf (c:=(_,_)) hfa).get 0 rfl,T.Hw,T.JZ,(by show 1<1000;decide),?_];have O:=(O.Tf (c:=(_,_)) (o:= .dK []) hfa).put (L1:=[]) (o':= .ins a.GY dx (Hs "functions" (.ref fa) (Hs "taken" (.int 0) [])));refine aQ (b5 (pv 0) (iG (aa e9 ag)) rfl) λsd hsd=>#[by show 1<=FE;decide,λsl hsl=>?_];have O:=(O.Tf (c:=(_,_)) (o:= .dK []) hsd).Tf (c:=(_,_)) (o:= .lst [.ref sd]) hsl;refine#[p,_,dx,_,FS,O.get 0 rfl,T.Hw,T.Jk,(by show 2<1000;decide),?_];have O:=O.put (L1:=[]) (o':= .ins a.GY dx (Hs "scopes" (.ref sl) (Hs "functions" (.ref fa) (Hs "taken" (.int 0) []))));refine aQ (b5 (pv 0) (iG ag) rfl) #[Fs _,λtl htl=>?_];have O:=O.Tf (c:=(_,_)) (o:= .lst []) htl;refine#[p,_,dx,_,FS,O.get 0 rfl,T.Hw,T.Ia,(by show 3<1000;decide),?_];have O:=O.put (L1:=[]) (o':= .ins a.GY dx (Hs "tasks" (.ref tl) (Hs "scopes" (.ref sl) (Hs "functions" (.ref fa) (Hs "taken" (.int 0) [])))));refine eA (b5 (pv 0) aj rfl) #[p,_,dx,_,FS,O.get 0 rfl,T.Hw,T.K3,(by show 4<1000;decide),q fa sd sl tl _ ?_];have O:=O.put (L1:=[]) (o':= .ins a.GY dx (Hs "result" (.int 0) (Hs "tasks" (.ref tl) (Hs "scopes" (.ref sl) (Hs "functions" (.ref fa) (Hs "taken" (.int 0) []))))));exact O.perm (.cons _ (.cons _ (.cons _ (.swap _ _ _))))
inductive X2 (a:be) (vs:EA V) (H:Hp) (Q:VK) (_E:XK):Prop
 |mk {N:Hp}{L:EA k8}{p dx m:EJ}(_:vs=[.ref p, .ref m]) (_:Ow N ((p, .ins a.FV dx [])::L) H) (_: ∀c sd ol nd H',Ow N ((p, .ins a.FV dx (xF m c.wk ol (-1) nd))::(nd, .dK [])::(ol, .lst [])::(wk0 a c sd++L)) H'->Q .HZ H'):X2 a vs H Q _E
theorem j3 (T:aU K mg a):T.Y1.U P w mg base 3 (X2 a):=by
 refine T.Y1.F.ok afT [03] [02];obtain @⟨N,L,p,dx,m,rfl,O,q⟩:=h;refine aQ (b5 (pv 0) (pv 1) rfl) #[p,_,dx,_,FS,O.get 0 rfl,T.G9,T.LF,(by show 0<1000;decide),?_];have O:=O.put (L1:=[]) (o':= .ins a.FV dx (Hs "market" (.ref m) []));refine aQ (b5 (pv 0) (CP T.Ul (mM T) hr (by rfl) T.Ug T.YW.c.b .nil aY) rfl) λx dw hx hdw ne=>?_;have O:=O.adds (N:=[(x, .ins a.GY dw [])]) (H':=aF (aF (aF H p (.ins a.FV dx (Hs "market" (.ref m) []))) dw (.own x)) x (.ins a.GY dw [])) (λb o e=>by rw[ac (ai e hx),ac (ai e hdw)];exact e) (λy hy=>by rw[Fd.mp hy];exact#[hx,ae]) (FI.mpr #[nofun, .nil]);refine .mk rfl O λfa sd sl tl H2 O=>#[FS,?_];have O:=O.perm (VL (l₁:=wk0 a #[x,dw,fa,sl,tl,0] sd));refine#[p,_,dx,_,FS,O.get 0 rfl,T.G9,T.J1,(by show 1<1000;decide),?_];have O:=O.put (L1:=[]) (o':= .ins a.FV dx (Hs "worker" (.ref x) (Hs "market" (.ref m) [])));refine aQ (b5 (pv 0) (iG ag) rfl) #[Fs _,λol hol=>?_];have O:=O.Tf (c:=(_,_)) (o:= .lst []) hol;refine#[p,_,dx,_,FS,O.get 0 rfl,T.G9,T.J2,(by show 2<1000;decide),?_];have O:=O.put (L1:=[]) (o':= .ins a.FV dx (Hs "orders" (.ref ol) (Hs "worker" (.ref x) (Hs "market" (.ref m) []))));refine aQ (b5 (pv 0) (dJ cG aj) rfl) #[_,FS,p,_,dx,_,FS,O.get 0 rfl,T.G9,T.KG,(by show 3<1000;decide),?_];have O:=O.put (L1:=[]) (o':= .ins a.FV dx (Hs "desk" (.int (-1)) (Hs "orders" (.ref ol) (Hs "worker" (.ref x) (Hs "market" (.ref m) [])))));refine eA (b5 (pv 0) e9 rfl) λnd CY=>?_;have O:=O.Tf (c:=(_,_)) (o:= .dK []) CY;refine#[p,_,dx,_,FS,O.get 0 rfl,T.G9,T.Jz,(by show 4<1000;decide),q #[x,dw,fa,sl,tl,0] sd ol nd _ ?_];exact O.put (L1:=[]) (o':= .ins a.FV dx (Hs "named" (.ref nd) (Hs "desk" (.int (-1)) (Hs "orders" (.ref ol) (Hs "worker" (.ref x) (Hs "market" (.ref m) []))))))
theorem aaL:gm #[[],[]] KI:=#[λf p h=> .inr #[FS,h],λx=>by unfold Qq;exact#[by show-JR<=0;decide,by show 0<=JR;decide]]
theorem Dq:Ag #[[],[]] [] [] [λ_=>Fa]:=#[nofun,nofun,(λ_ x h=>by cases h),λx=>by unfold Qq;exact#[by show-JR<=0;decide,by show 0<=JR;decide]]
def dk1:GK->E1
 | .desk .. =>1
 |_=>0
theorem Dg:IJ (t::r)=dk1 t+IJ r:=by
 unfold IJ;cases t with
 |desk x b=>show _+1=_;rw[J7];rfl
 |const x e=>exact(J8 _).symm
 |func x p e=>exact(J8 _).symm
theorem ahj (h:Ax M t d S l n= .ok (x,m)):x.1=d+dk1 t:=by
 unfold Ax at h;cases t with
 |func y p e=>cases h;rfl
 |const y e=>
  dsimp only at h;split at h
  ·cases h
  ·split at h
   ·cases h
   ·cases h;rfl
 |desk y b=>
  dsimp only at h;split at h
  ·cases h
  ·cases h;rfl
inductive zN (a:be) (vs:EA V) (H:Hp) (Q:VK) (E:XK):Prop
 |mk {m dm l:EJ}{us:EA V}{ss:IG}{G:JI}(_:vs=[.ref m, .ref l]) (_:H m=EQ (.ins a.JB dm (mF G))) (_:G.quarters<=4) (_:H l=EQ (.lst us)) (_:Paired (λs v=>fk a (λp=>H p=Fa) H s v) ss us) (_:wq [] KI ss) (_: ∀c,LX G ss= .error c-> ∀H',a9 H H'->oU a E H' c) (_: ∀Z H' U o n,LX G ss= .ok (o,n)->Z.a=a->Z.N=H->TS Z H' U o n (IJ ss) []->Q (.ref Z.x) H'):zN a vs H Q E
theorem ale (T:aU K mg a) (XC:XW K a) (KX:ma K a):T.d_R.O P w base 33 (zN a):=by
 refine okL T.d_R.F aah [03] [02];intro X D;obtain @⟨m,dm,l,us,ss,G,rfl,hm,q4,hl,tl,wt,er,q⟩:=h;refine aQ (cH (i:=2) aah.nd rfl (.inl rfl) (gX T.Q9 (j3 T) (hr.mono [01]) (by rfl) T.Q2 T.Y1.c.b .nil aY (aa (pv 0) ag))) λx dx hx Ur ne=>?_;have O:Ow H [(x, .ins a.FV dx [])] (aF (aF H dx (.own x)) x (.ins a.FV dx [])):=#[λb o e=>by rw[ac (ai e hx),ac (ai e Ur)];exact e,λy hy=>by rw[Fd.mp hy];exact#[ae,hx],FI.mpr #[nofun, .nil]];refine .mk rfl O λc sd ol nd H1 O=>#[FS,?_];have nn: ∀ {c:k8},c∈_->H c.1=Fa:=λh=>(O.at_ _ h).2
 have n1:=(O.at_ _ (EO)).2
 have n2:=(O.at_ _ (EN _ EO)).2
 have n3:=(O.at_ _ (EN _ (EN _ EO))).2
 have UW:=O.nd
 have O1:=O.toB.toB.toB;rw[Gw] at O1
 let Z:Zx:=#[a,E,x,dx,m,dm,ol,c,H,G,#[[],[]],KI,-1]
 have T0:TS Z H1 [] [] 10000 0 ss:=by
  obtain⟨m1,nd2⟩:=FI.mp UW;obtain⟨m2,_⟩:=FI.mp nd2;have x1:x≠nd:=λz=>m1 (by show x∈_;rw[z];exact .head _);have x2:x≠ol:=λz=>m1 (by show x∈_;rw[z];exact .tail _ (.head _));have x3:nd≠ol:=λz=>m2 (by show nd∈_;rw[z];exact .head _);have sm:a9 H (aF (aF (aF H x (.ins a.FV dx (xF m c.wk ol (-1) nd))) nd (.dK [])) ol (.lst [])):=λb o e=>by rw[ac (ai e n3),ac (ai e n2),ac (ai e n1)];exact e
  have eb:EB Z (aF (aF (aF H x (.ins a.FV dx (xF m c.wk ol (-1) nd))) nd (.dK [])) ol (.lst [])) ⟨[],[]⟩ nd [] []:=#[sm,by show aF _ _ _ x=_;rw[ac x2,ac x1,ae],sm _ _ hm,ae,by rw[ac x3,ae],#[n1,n3,n2], .nil,Fs _,λ_=>rfl,E6 _,E6 _,q4]
  refine#[_,[],#[aaL,#[O1,#[Fs _,λf=>rfl], .cons #[λ_=>rfl,Fs 6] .nil, .nil,#[by decide,nofun,by show 1+10000<=10002;decide,by decide,by show 6+5*10000<=60000-0;decide,by show 60000-0<=60000;decide]],Dq,λs hs y z hz=>?_,eb,Fs _],nofun,FS,Fs _,wt];rw[Fd.mp hs] at hz;cases hz
 generalize Gm:LX G ss=res at er q;refine jH (L:=l) (xs:=us) 3 Iq aah.nd (pv 1) [05] (λj σ H'=> ∃y S F d U o n e,σ=[EQ (.ref m),EQ (.ref l),EQ (.ref x),y]/\TS (Z.to S F d) H' U o n e (ss.drop j)/\n<=10000/\e+IJ (ss.drop j)=IJ ss/\Mn G (ss.drop j) e S o n=res) #[_,_,_,_,_,_,_,_,FS,T0,E6 _,J8 _,Gm] ?_ ?_ ?_
 ·rintro j σ H2 _ ⟨y,S,F,d,U,o,n,e,rfl,⟨B,nm,R,_⟩,_⟩
  exact R.same _ _ hl
 ·rintro j v σ H2 hv ⟨y,S,F,d,U,o,n,e,rfl,TS1,hn,he,ht⟩
  obtain⟨t,ht',at_⟩:=iU tl hv;have dr:ss.drop j=t::ss.drop (j+1):=(FF.mp ht').elim λh z=>by rw[<-z];exact GO h
  rw[dr] at TS1 he ht;rw[yl] at ht;rw[Dg] at he;refine fj (bI (aO (bv 2 (aO (bv 3 (cC (.mk (Z:=Z.to S F d) rfl rfl rfl TS1 hn at_ (λc h=>er c ?_) λx' m' H3 U' F' h O9 TS2=>?_)))))) (ahi T XC KX) (hr.mono [01]) T.Y2.c aA) rfl
  ·rw[<-ht]
   show(match Ax G t e S o n with| .error c=>_| .ok (x,m)=>_)=_
   rw[h]
  ·rw[h] at ht
   have:=ahj h;exact#[_,_,_,_,_,_,_,_,FS,TS2,by lia,by lia,ht]
 ·rintro σ H2 ⟨y,S,F,d,U,o,n,e,rfl,TS1,hn,he,ht⟩
  have dr:ss.drop us.length=[]:=by rw[<-bL tl,PX]
  rw[dr] at TS1 he ht;have:e=IJ ss:=he;subst this;exact aJ (bv 2 (q (Z.to S F d) H2 U o n ht.symm rfl rfl TS1))
end OS
namespace OS
open Vbemac
def W {α:Type}(p:P α) (t:L9) (Qo:α->L9->Prop) (Qe:E1->Pos->Prop):Prop:=match p t with
 | .ok (a,r)=>Qo a r
 | .error e=>Qe e.1 e.2
section
variable {α β:Type}{p:P α}{f:α->P β}{Qo Qo':α->L9->Prop}{Qe Qe':E1->Pos->Prop}{Ro:β->L9->Prop}
theorem xM {a:α}(e:p t= .ok (a,r)):W p t Qo Qe=Qo a r:=by unfold W;rw[e]
theorem iZ (h:p t= .error e):W p t Qo Qe=Qe e.1 e.2:=by unfold W;rw[h]
theorem jy:W (p>>=f) t Ro Qe=W p t (λa r=>W (f a) r Ro Qe) Qe:=by
 have e:(p>>=f) t=(match p t with
  | .error x=> .error x
  | .ok (a,r)=>f a r):=by
  show(Fi p f) t=_
  unfold Fi;show(Except.bind (p t) _)=_;cases p t with
  |error x=>rfl
  |ok z=>rfl
 unfold W;rw[e];cases h:p t with
 |error x=>rfl
 |ok z=>rfl
theorem A3 {a:α} :W (pure a:P α) t Qo Qe=Qo a t:=rfl
theorem aaM:W (fail n:P α) t Qo Qe=Qe (if peek t= .bad then 1 else n) (place t):=rfl
theorem W.mono (h:W p t Qo Qe) (ho: ∀a r,Qo a r->Qo' a r) (he: ∀n q,Qe n q->Qe' n q):W p t Qo' Qe':=by
 unfold W at h ⊢;cases e:p t with
 |error x=>rw[e] at h;exact he _ _ h
 |ok z=>rw[e] at h;exact ho _ _ h
end
def aI {α:Type}(p:P α):Prop:= ∀t,peek t= .bad->p t= .error (1,place t)
def gZ {α:Type}(p:P α):Prop:= ∀t,peek t= .bad->p t= .error (1,place t)\/ ∃a,p t= .ok (a,t)
theorem aI.ON {α:Type}{p:P α}(h:aI p):gZ p:=λt e=> .inl (h t e)
section
variable {α β:Type}{p:P α}{f:α->P β}{Qo:α->L9->Prop}{Qe:E1->Pos->Prop}{Ro:β->L9->Prop}
theorem aI.bind (h:aI p):aI (p>>=f):=λt e=>by
 show(Fi p f) t=_
 unfold Fi;rw[h t e]
 rfl
theorem gZ.bind (h:gZ p) (k: ∀a,gZ (f a)):gZ (p>>=f):=λt e=>by
 show(Fi p f) t=_\/ ∃a,(Fi p f) t=_
 unfold Fi;rcases h t e with z|⟨a,z⟩
 ·rw[z];exact .inl rfl
 ·rw[z];exact k a t e
theorem gZ.strict (h:gZ p) (k: ∀a,aI (f a)):aI (p>>=f):=λt e=>by
 show(Fi p f) t=_
 unfold Fi;rcases h t e with z|⟨a,z⟩
 ·rw[z];rfl
 ·rw[z];exact k a t e
theorem aI.K6 (h:aI p) (e:peek t= .bad) (w:W p t Qo Qe):Qe 1 (place t):=by
 rw[iZ (h t e)] at w;exact w
end
theorem cq {t:L9}(e:peek t= .bad) (w:String):He t w=FM:=by unfold He;rw[e];rfl
theorem cX {t:L9}(e:peek t= .bad) (w:String):Ll t w=FM:=by unfold Ll;rw[e];rfl
theorem aG {α:Type}(n:E1):aI (fail n:P α):=λt e=>by unfold fail;rw[EL e]
theorem eW (w:String):aI (key w):=λt e=>by unfold key;rw[cq e];exact aG 2 t e
theorem bf (w:String):aI (sign w):=λt e=>by unfold sign;rw[cX e];exact aG 2 t e
theorem eI:aI anyName:=λt e=>by unfold anyName;rw[e];exact aG 2 t e
theorem fT (K:Known):aI (newName K):=λt e=>by unfold newName;rw[eI t e]
theorem kN (B:Blocks):aI (blockName B):=λt e=>by unfold blockName;rw[eI t e]
theorem jS (B:Blocks):aI (knownBlock B):=λt e=>by unfold knownBlock;rw[eI t e]
theorem lD:aI side:=λt e=>by unfold side;rw[cq e,cq e];exact aG 2 t e
theorem gL (B:Blocks):aI (maybeName B):=λt e=>by
 unfold maybeName;rw[cq e,cq e,EI (by simp),kN B t e]
theorem fK {α:Type}(a:α):gZ (pure a:P α):=λt _=> .inr #[a,FS]
theorem lF (w:String):gZ (ifSign w):=λt e=>by unfold ifSign;rw[cX e];exact .inr #[_,FS]
theorem so (l:EA String):gZ (KW l):=λt e=>by unfold KW;rw[e];exact .inr #[_,FS]
theorem ga {α:Type}(w:String) (p:P α):gZ (behind w p):=λt e=>by unfold behind;rw[cq e];exact .inr #[_,FS]
theorem iM (k d:E1) (K:Known):aI (primary k d K):=λt e=>by
 cases k with
 |zero=>rw[primary];exact aG 6 t e
 |succ k=>rw[primary];simp only[e];exact aG 2 t e
theorem kj (k d:E1) (K:Known):aI (unary k d K):=λt e=>by
 cases k with
 |zero=>rw[unary];exact aG 6 t e
 |succ k=>rw[unary];simp only[cX e,Ii,L5];exact iM k d K t e
theorem qO (k d:E1) (K:Known):aI (times k d K):=by
 cases k with
 |zero=>rw[times];exact aG 6
 |succ k=>rw[times];exact(kj k d K).bind
theorem ki (k d:E1) (K:Known):aI (added k d K):=by
 cases k with
 |zero=>rw[added];exact aG 6
 |succ k=>rw[added];exact(qO k d K).bind
theorem lS (k d:E1) (K:Known):aI (compared k d K):=by
 cases k with
 |zero=>rw[compared];exact aG 6
 |succ k=>rw[compared];exact(ki k d K).bind
theorem rG (k d:E1) (K:Known):aI (ands k d K):=by
 cases k with
 |zero=>rw[ands];exact aG 6
 |succ k=>rw[ands];exact(lS k d K).bind
theorem lM (k d:E1) (K:Known):aI (expr k d K):=λt e=>by
 cases k with
 |zero=>rw[expr];exact aG 6 t e
 |succ k=>rw[expr];simp only[cq e,Ii,L5];exact(rG k d K).bind t e
theorem k6 (k d:E1) (K:Known) (n:E1):aI (arguments k d K n):=λt e=>by
 cases k with
 |zero=>rw[arguments];exact aG 6 t e
 |succ k=>rw[arguments];simp only[cX e,Ii,L5];exact(lM k d K).bind t e
theorem nU (k d:E1) (K:Known):gZ (moreTimes k d K):=by
 cases k with
 |zero=>rw[moreTimes];exact(aG 6).ON
 |succ k=>
  rw[moreTimes];intro t e;refine .inr #[.nil,?_];show(Fi _ _) t=_;unfold Fi KW;rw[e]
  rfl
theorem mJ (k d:E1) (K:Known):gZ (moreAdded k d K):=by
 cases k with
 |zero=>rw[moreAdded];exact(aG 6).ON
 |succ k=>
  rw[moreAdded];intro t e;refine .inr #[.nil,?_];show(Fi _ _) t=_;unfold Fi KW;rw[e]
  rfl
theorem qG (k d:E1) (K:Known):gZ (moreAnd k d K):=by
 cases k with
 |zero=>rw[moreAnd];exact(aG 6).ON
 |succ k=>
  rw[moreAnd];intro t e;refine .inr #[.nil,?_];show(Fi _ _) t=_;unfold Fi ifSign;rw[cX e]
  rfl
theorem sG (k d:E1) (K:Known):gZ (moreOr k d K):=by
 cases k with
 |zero=>rw[moreOr];exact(aG 6).ON
 |succ k=>
  rw[moreOr];intro t e;refine .inr #[.nil,?_];show(Fi _ _) t=_;unfold Fi ifSign;rw[cX e]
  rfl
theorem lH (k d:E1) (K:Known) (B:Blocks):aI (stmt k d K B):=λt e=>by
 cases k with
 |zero=>rw[stmt];exact aG 6 t e
 |succ k=>rw[stmt];simp only[cq e,Ii,L5];exact lD.bind t e
theorem jM (k d:E1) (K:Known) (B:Blocks):aI (stmts k d K B):=λt e=>by
 cases k with
 |zero=>rw[stmts];exact aG 6 t e
 |succ k=>rw[stmts];simp only[cX e,Ii,L5];exact(lH k d K B).bind t e
theorem ji (k n:E1) (K:Known):aI (params k n K):=λt e=>by
 cases k with
 |zero=>rw[params];exact aG 6 t e
 |succ k=>
  rw[params];dsimp only;by_cases h:n=0
  ·rw[EL h];exact aG 7 t e
  ·rw[EI h];exact(fT K).bind t e
theorem tT (k:E1) (K:Known) (n:E1) (D:EA FJ):aI (tops k K n D):=λt e=>by
 cases k with
 |zero=>rw[tops];exact aG 6 t e
 |succ k=>rw[tops];simp only[e,reduceCtorEq,L5,cq e,Ii];exact aG 2 t e
end OS
namespace OS
open PySem PySem.Spec L2
open PyProof.Rows hiding St
variable {P:Fz}{w:Ga}{K:EF}{mg:Fh->ET EH}{base:Gn}{a:be}
structure X3 where
 p:EJ
 c:EA (a0×V)
 x:EJ->EA V->Prop
instance:Coe X3 EJ:=#[X3.p]
structure Rb where
 r:EJ
 q:EJ
 kd:EJ
 fn:EJ
 ds:X3
 bl:X3
def eQ (B:Rb) (b:EJ):Prop:=b=B.r\/b=B.kd\/b=B.fn\/b=B.ds.p\/b=B.bl.p\/ ∃xs,B.bl.x b xs
inductive X4 (H:Hp) (kd:EJ) (Kn:EK):Prop
 |mk (kk:EA (a0×V)) (_:H kd=EQ (.dK kk)) (_:kk.length<=Kn.values.length) (_: ∀u,has kk u=Kn.values.contains u):X4 H kd Kn
inductive X5 (H:Hp) (fn:EJ) (Kn:EK):Prop
 |mk (ff:EA (a0×V)) (_:H fn=EQ (.dK ff)) (_: ∀u,bN ff (nk u)=(Kn.funs.find? λf=>f.1 == u).map λf=>V.int (f.2:E1)):X5 H fn Kn
inductive Dif (k f d b:EJ):Prop
 |mk (_:k≠f) (_:k≠d) (_:k≠b) (_:f≠d) (_:f≠b) (_:d≠b):Dif k f d b
structure aaN (H:Hp) (kd fn:EJ) (Kn:EK) (room:E1):Prop where
 vals:X4 H kd Kn
 funs:X5 H fn Kn
 len:Kn.values.length+room<=4000
 alf: ∃ff,H fn=EQ (.dK ff)/\ff.length=Kn.funs.length
theorem aaN.fl {H:Hp}(h:aaN H kd fn Kn room) (e:H fn=EQ (.dK ff)):ff.length=Kn.funs.length:=by
 obtain⟨gg,g1,g2⟩:=h.alf;rw[e] at g1;cases g1;exact g2
structure fo (a:be) (B:Rb) (H:Hp) (n:E1) (t:EG) (Kn:EK):Prop where
 rd:mw a H B.r B.q B.kd B.fn B.ds.p B.bl.p n t
 wh:fV t
 kn:aaN H B.kd B.fn Kn t.length
 R8:H B.ds.p=EQ (.dK B.ds.c)
 RB:H B.bl.p=EQ (.dK B.bl.c)
 O8:Dif B.kd B.fn B.ds.p B.bl.p
 fr: ∀b xs,B.bl.x b xs->H b=EQ (.lst xs)
theorem qK (kk:EA (a0×V)) (u v:EC) (y:V):has (dy kk (nk u) y) v=(decide (v=u)||has kk v):=by
 unfold has;rw[gB];by_cases e:v=u
 ·rw[EL (by rw[e]),Gb e];rfl
 ·rw[EI (λz=>e (eE (Ja z))),FA e];rfl
theorem vb (kk:EA (a0×V)) (k j:a0):bN (fD kk k) j=if j=k then Fa else bN kk j:=by
 induction kk with
 |nil=>unfold fD bN;split<;>rfl
 |cons p r ih=>
  unfold fD at ih ⊢;rw[PU];by_cases e:p.1=k
  ·rw[EI (by simp [e]),ih]
   by_cases j1:j=k
   ·rw[EL j1,EL j1]
   ·rw[EI j1,EI j1,bX λz=>j1 (z.symm.trans e)]
  ·rw[EL (by simp [e])]
   by_cases j1:p.1=j
   ·rw[cf j1,cf j1,EI λz=>e (j1.trans z)]
   ·rw[bX j1,bX j1,ih]
theorem r9 (kk:EA (a0×V)) (u v:EC):has (fD kk (nk u)) v=(!decide (v=u)&&has kk v):=by
 unfold has;rw[vb];by_cases e:v=u
 ·rw[EL (by rw[e]),Gb e];rfl
 ·rw[EI (λz=>e (eE (Ja z))),FA e];rfl
theorem ms:lU v k=decide (vq k=EQ v):=by
 unfold lU;cases k with
 |word u=>exact decide_eq_decide.mpr #[λz=>FN EQ (V.str.inj z),λz=>FN V.str (E5 z)]
 |num n=>exact decide_eq_decide.mpr #[(λz=>nomatch z),(λz=>nomatch z)]
 |sign u=>exact decide_eq_decide.mpr #[λz=>FN EQ (V.str.inj z),λz=>FN V.str (E5 z)]
 |eof=>exact decide_eq_decide.mpr #[λz=>FN EQ (V.str.inj z),λz=>FN V.str (E5 z)]
 |bad=>exact decide_eq_decide.mpr #[λz=>FN EQ (V.str.inj z),λz=>FN V.str (E5 z)]
theorem bZ (ok:f7 k) (h:cU x u):lU x k=(k == .word u):=by
 rw[ms,GD,FH,beq_iff_eq];exact AT ok h
theorem cQ (ok:f7 k) (h:d7 x u):lU x k=(k == .sign u):=by
 rw[ms,GD,FH,beq_iff_eq];exact rD ok h
inductive X6 (t:EG):Prop
 |mk (x:F5×FT) (r:EG) (_:t=x::r) (_:f7 x.1) (_:E4 t=x.1) (_:HC t=x.2) (_: ¬js x->fV r):X6 t
theorem fV.first (w:fV t):X6 t:=by
 cases t with
 |nil=>exact E7 rfl w.ne
 |cons x r=>
  refine#[x,r,FS,?_,FS,FS,λh=>(w.tail h).2];by_cases h:js x
  ·rcases h with h|h
   ·rw[h];exact GH
   ·rw[h];exact GH
  ·exact(w.tail h).1.2.2
section
variable {H H' H2:Hp}{M:EJ->Prop}
theorem a9.keeps (s:a9 H H'):db M H H':=λb o e _=>s b o e
theorem db.trans (k:db M H H') (l:db M H' H2):db M H H2:=λb o e m=>l b o (k b o e m) m
theorem db.refl:db M H H:=λ_ _ e _=>e
theorem mw.same (R:mw a H r q kd fn ds bl n t) (s:a9 H H'):mw a H' r q kd fn ds bl n t:=by
 obtain⟨dr,e⟩:=R.ins;obtain⟨as,all,h1,h2,h3⟩:=R.toks;exact#[#[dr,s _ _ e],as,all,s _ _ h1,Paired.M7 h2 λb z k=>k.keep λb' o e _=>s b' o e,h3]
theorem fo.same (S:fo a B H n t Kn) (s:a9 H H'):fo a B H' n t Kn:=by
 obtain⟨kk,k1,k2,k3⟩:=S.kn.vals;obtain⟨ff,f1,f2⟩:=S.kn.funs;exact#[S.rd.same s,S.wh,#[#[kk,s _ _ k1,k2,k3],#[ff,s _ _ f1,f2],S.kn.len,#[ff,s _ _ f1,S.kn.fl f1]],s _ _ S.R8,s _ _ S.RB,S.O8,λb xs h=>s _ _ (S.fr b xs h)]
theorem uE (h:past a H B.r B.q B.kd B.fn B.ds.p B.bl.p n H'):db (eQ B) H H':=λb o e m=>by
 obtain⟨dr,e1,rfl⟩:=h;rw[ac λz=>m (.inl z)];exact e
theorem fo.past (S:fo a B H n (x::t) Kn) (hx: ¬js x) (h:OS.past a H B.r B.q B.kd B.fn B.ds.p B.bl.p n H'):fo a B H' (n+1) t Kn:=by
 have R:=S.rd.step h;obtain⟨dr,e1,rfl⟩:=h;obtain⟨kk,k1,k2,k3⟩:=S.kn.vals;obtain⟨ff,f1,f2⟩:=S.kn.funs
 have hy:=S.R8
 have hz:=S.RB
 have nk:B.kd≠B.r:=λw=>by rw[w,e1] at k1;cases k1
 have nf:B.fn≠B.r:=λw=>by rw[w,e1] at f1;cases f1
 have nd:B.ds.p≠B.r:=λw=>by rw[w,e1] at hy;cases hy
 have nb:B.bl.p≠B.r:=λw=>by rw[w,e1] at hz;cases hz
 refine#[R,(S.wh.tail hx).2,#[#[kk,by rw[ac nk];exact k1,k2,k3],#[ff,by rw[ac nf];exact f1,f2],?_,#[ff,by rw[ac nf];exact f1,S.kn.fl f1]],(by rw[ac nd];exact hy),(by rw[ac nb];exact hz),S.O8,λb xs h=>by
  have e2:=S.fr b xs h;rw[ac λw=>by rw[w,e1] at e2;cases e2]
  exact e2]
 have:=S.kn.len;rw[EZ] at this;lia
theorem fo.ahk (S:fo a B H n t Kn) (free:Kn.values.contains u=FM) (room:Kn.values.length+1+t.length<=4000) (e:H B.kd=EQ (.dK kk)):
  fo a B (aF H B.kd (.dK (dy kk (nk u) (.bl FB)))) n t (Kn.with u):=by
 obtain⟨dr,er⟩:=S.rd.ins;obtain⟨as,all,h1,h2,h3⟩:=S.rd.toks;obtain⟨kk',k1,k2,k3⟩:=S.kn.vals;obtain⟨ff,f1,f2⟩:=S.kn.funs;have hy:=S.R8;have hz:=S.RB;obtain rfl:kk'=kk:=by rw[e] at k1;cases k1;rfl
 obtain⟨d1,d2,d3,d4,d5,d6⟩:=S.O8;have nr:B.r≠B.kd:=λw=>by rw[w,e] at er;cases er
 have nq:B.q≠B.kd:=λw=>by rw[w,e] at h1;cases h1
 refine#[#[#[dr,by rw[ac nr];exact er],as,all,by rw[ac nq];exact h1,Paired.M7 h2 λb x ⟨dx,ex⟩=>#[dx,?_],h3],S.wh,#[#[_,ae,?_,λv=>?_],#[ff,by rw[ac d1.symm];exact f1,f2],by show Kn.values.length+1+t.length<=4000;exact room,#[ff,by rw[ac d1.symm];exact f1,S.kn.fl f1]],(by rw[ac d2.symm];exact hy),(by rw[ac d3.symm];exact hz),S.O8,λb xs h=>by
  have e2:=S.fr b xs h;rw[ac λw=>by rw[w,e] at e2;cases e2]
  exact e2]
 ·rw[ac λw=>by rw[w,e] at ex;cases ex]
  exact ex
 ·have:=cD kk' (nk u) (.bl FB)
  show _<=Kn.values.length+1
  lia
 ·rw[qK,k3]
  show _=(u::Kn.values).contains v
  rw[FY]
  congr 1
  rw[GD,FH,beq_iff_eq]
theorem fo.forget (S:fo a B H n t (Kn.with u)) (free:Kn.values.contains u=FM) (e:H B.kd=EQ (.dK kk)):
  has kk u=FB/\fo a B (aF H B.kd (.dK (fD kk (nk u)))) n t Kn:=by
 obtain⟨dr,er⟩:=S.rd.ins;obtain⟨as,all,h1,h2,h3⟩:=S.rd.toks;obtain⟨kk',k1,k2,k3⟩:=S.kn.vals;obtain⟨ff,f1,f2⟩:=S.kn.funs;have hy:=S.R8;have hz:=S.RB;obtain rfl:kk'=kk:=by rw[e] at k1;cases k1;rfl
 obtain⟨d1,d2,d3,d4,d5,d6⟩:=S.O8;have nr:B.r≠B.kd:=λw=>by rw[w,e] at er;cases er
 have nq:B.q≠B.kd:=λw=>by rw[w,e] at h1;cases h1
 have hu:has kk' u=FB:=by
  rw[k3];show(u::Kn.values).contains u=FB;rw[FY,Gr]
  rfl
 have len:Kn.values.length+1+t.length<=4000:=S.kn.len
 have k2:kk'.length<=Kn.values.length+1:=k2;refine#[hu,#[#[dr,by rw[ac nr];exact er],as,all,by rw[ac nq];exact h1,Paired.M7 h2 λb x ⟨dx,ex⟩=>#[dx,?_],h3],S.wh,#[#[_,ae,?_,λv=>?_],#[ff,by rw[ac d1.symm];exact f1,f2],by lia,#[ff,by rw[ac d1.symm];exact f1,S.kn.fl f1]],(by rw[ac d2.symm];exact hy),(by rw[ac d3.symm];exact hz),S.O8,λb xs h=>by
  have e2:=S.fr b xs h;rw[ac λw=>by rw[w,e] at e2;cases e2]
  exact e2]
 ·rw[ac λw=>by rw[w,e] at ex;cases ex]
  exact ex
 ·have:(fD kk' (nk u)).length<kk'.length:=by
   unfold fD;refine UZ (Nz _ _) λw=>?_;rw[Pb] at w;unfold has bN at hu;rw[Hv,Mx] at hu;obtain⟨p,hp,e1⟩:=hu;have:=w p hp;simp only[M9] at this e1;exact this e1
  lia
 ·rw[r9,k3]
  show(!decide (v=u)&&(u::Kn.values).contains v)=_
  rw[FY];by_cases w:v=u
  ·rw[w,Gb rfl,free];rfl
  ·rw[FA w,show(v == u)=FM from beq_eq_false_iff_ne.mpr w];rfl
theorem fo.fresh (S:fo a B H n t Kn) (h:H b=Fa): ¬eQ B b:=by
 obtain⟨dr,e1⟩:=S.rd.ins;obtain⟨kk,k1,_⟩:=S.kn.vals;obtain⟨ff,f1,_⟩:=S.kn.funs;have hy:=S.R8;have hz:=S.RB;rintro(rfl|rfl|rfl|rfl|rfl|⟨xs,hx⟩)
 ·rw[e1] at h;cases h
 ·rw[k1] at h;cases h
 ·rw[f1] at h;cases h
 ·rw[hy] at h;cases h
 ·rw[hz] at h;cases h
 ·rw[S.fr _ _ hx] at h;cases h
end
section
variable {H H' H0:Hp}{B:Rb}{n:E1}{t:EG}{Kn:EK}{M M':EJ->Prop}
def Rb.more (B:Rb) (l:EJ) (xs:EA V):Rb:= { B with bl:=#[B.bl.p,B.bl.c,λb ys=>B.bl.x b ys\/(b=l/\ys=xs)] }
theorem fo.more (S:fo a B H n t Kn) (h:H l=EQ (.lst xs)):fo a (B.more l xs) H n t Kn:=
 #[S.rd,S.wh,S.kn,S.R8,S.RB,S.O8,λb ys z=>z.elim (S.fr b ys) λ⟨e1,e2⟩=>by rw[e1,e2];exact h]
theorem fo.less (S:fo a (B.more l xs) H n t Kn):fo a B H n t Kn:=
 #[S.rd,S.wh,S.kn,S.R8,S.RB,S.O8,λb ys z=>S.fr b ys (.inl z)]
theorem fo.P0 (S:fo a (B.more l xs) H n t Kn):H l=EQ (.lst xs):=S.fr l xs (.inr #[FS,FS])
theorem cr (m:eQ B b):eQ (B.more l xs) b:=by
 rcases m with h|h|h|h|h|⟨ys,h⟩
 ·exact .inl h
 ·exact .inr (.inl h)
 ·exact .inr (.inr (.inl h))
 ·exact .inr (.inr (.inr (.inl h)))
 ·exact .inr (.inr (.inr (.inr (.inl h))))
 ·exact .inr (.inr (.inr (.inr (.inr #[ys, .inl h]))))
theorem c9 (m:eQ (B.more l xs) b):b=l\/eQ B b:=by
 rcases m with h|h|h|h|h|⟨ys,h|⟨h,_⟩⟩
 ·exact .inr (.inl h)
 ·exact .inr (.inr (.inl h))
 ·exact .inr (.inr (.inr (.inl h)))
 ·exact .inr (.inr (.inr (.inr (.inl h))))
 ·exact .inr (.inr (.inr (.inr (.inr (.inl h)))))
 ·exact .inr (.inr (.inr (.inr (.inr (.inr #[ys,h])))))
 ·exact .inl h
theorem e8:eQ (B.more l xs) l:= .inr (.inr (.inr (.inr (.inr #[xs, .inr #[FS,FS]]))))
theorem eR (h:M l):db M H (aF H l o):=λb o' e m=>by
 rw[ac λz=>m (by rw[z];exact h)];exact e
theorem fo.write (S:fo a (B.more l xs) H n t Kn) (apart: ∀zs,¬B.bl.x l zs) (hq:l≠B.q):fo a (B.more l ys) (aF H l (.lst ys)) n t Kn:=by
 have hl:=S.P0;obtain⟨dr,er⟩:=S.rd.ins;obtain⟨as,all,h1,h2,h3⟩:=S.rd.toks;obtain⟨kk,k1,k2,k3⟩:=S.kn.vals;obtain⟨ff,f1,f2⟩:=S.kn.funs
 have up: ∀ {b:EJ}{o:HO},H b=EQ o->(∀zs,o≠ .lst zs)->aF H l (.lst ys) b=EQ o:=λe no=>by
  rw[ac λw=>by rw[w,hl] at e;exact no _ (E5 e).symm];exact e
 refine#[#[#[dr,up er (λ_ z=>nomatch z)],as,all,(by show aF H l (.lst ys) B.q=_;rw[ac hq.symm];exact h1),Paired.M7 h2 λb x ⟨dx,ex⟩=>#[dx,up ex (λ_ z=>nomatch z)],h3],S.wh,
  #[#[kk,up k1 (λ_ z=>nomatch z),k2,k3],#[ff,up f1 (λ_ z=>nomatch z),f2],S.kn.len,#[ff,up f1 (λ_ z=>nomatch z),S.kn.fl f1]],up S.R8 (λ_ z=>nomatch z),up S.RB (λ_ z=>nomatch z),S.O8,λb zs z=>?_]
 rcases z with z|⟨e1,e2⟩
 ·rw[ac λw=>apart zs (by rw[<-w];exact z)]
  exact S.fr b zs (.inl z)
 ·rw[e1,e2]
  exact ae
end
theorem yJ:aaw=FZ.map λu=>V.str (sb u):=by decide+kernel
theorem dB:cN (.word u)=!Vbemac.KEYS.contains u:=by
 show(!tZ (.str (sb u)) aaw)=_
 congr 1
 rw[yJ];unfold tZ;rw[Sr,EA.contains_eq_any_beq]
 congr 1
 funext z
 show(sb z == sb u)=(u == z)
 rw[GD,beq_iff_eq,beq_iff_eq];exact#[λe=>(eE e).symm,λe=>by rw[e]]
theorem AK (T:aU K mg a) (XC:XT K a):T.Zd.O P w mg base 6 (vQ a):=by
 have G_p:=mi (P:=P) (w:=w) (base:=base) T XC;refine fP T.Zd.F agf [03] [02];obtain⟨r,q,kd,fn,ds,bl,n,x,t,v,rfl,R,hb,hf,hg⟩:=h;obtain⟨dr,er⟩:=R.ins;refine#[_,(ax (cy (kY (di (cx (pv 0) T.Fy T.d_p.c G_p (hr.mono [01]) aA (aa (pv 1) ag)))) (ah (aK tR)) br)
   (ax (gP (pv 0) aj my)
   (ah (aK tR)))),?_]
 refine#[r,dr,_,FS,er,FS,r,q,kd,fn,ds,bl,n,x,t,v,FS,R,hb,λnb=>#[_,FS,?_]];cases e:lU v x.1 with
 |false=>exact cg (hf nb e)
 |true=>
  refine bK ?_;exact#[r,_,dr,_,_,FS,er,T.Fy,T.JY,FS,_,_,FS,FS,dr,_,er,(by show 6<1000;decide),hg nb e _ #[dr,er,FS]]
theorem jb (T:aU K mg a) (XC:XT K a):T.Zg.O P w mg base 7 (w8 a):=by
 have G_z:=g7 (P:=P) (w:=w) (base:=base) T XC
 have Tc:=c7 (P:=P) (w:=w) (base:=base) T XC
 have Us:=fE (P:=P) (w:=w) (base:=base) T XC
 have G_t:=qW (P:=P) (w:=w) (base:=base) T XC;refine fP T.Zg.F agg [03] [02];obtain⟨r,q,kd,fn,ds,bl,g,n,⟨x,xp⟩,t,gg,rfl,R,eg,hb,hn,h4,hg⟩:=h;obtain⟨dr,er⟩:=R.ins;refine#[_,(ax (bi (bQ (pv 0) T.Fy T.d_z.c G_z (hr.mono [01]) aA))
   (ax (cy (fC (mZ (dq hr) (ao (bQ (pv 0) T.Fy T.Vp.c Tc (hr.mono [01]) aA) rfl) (pv 1))) (ah (bi (cx (pv 0) T.Fy T.Vq.c Us (hr.mono [01]) aA (aa (aR (by rfl) T.Ob) ag)))) br)
   (ah (aK (bQ (pv 0) T.Fy T.d_t.c G_t (hr.mono [01]) aA))))),?_]
 refine#[r,dr,_,FS,er,FS,r,q,kd,fn,ds,bl,n,(x,xp),t,FS,R,hb,hn,λnb e=>?_];cases x with
 |word u=>
  refine#[r,dr,_,FS,er,FS,r,q,kd,fn,ds,bl,n,(.word u,xp),t,FS,R,hb,λ_ p ⟨dx,et⟩=>#[p,_,dx,_,_,FS,et,T.HU,T.IP,FS,?_]];refine#[g,_,FS,gv.k (k:=nk u) eg,_,FS,aP (λe1=>?_) λe1=>?_]
  ·refine#[r,dr,_,FS,er,FS,r,q,kd,fn,ds,bl,n,(.word u,xp),t,4,FS,R,?_]
   rw[EI nb];exact h4 u rfl e e1
  ·exact#[r,dr,_,FS,er,FS,r,q,kd,fn,ds,bl,n,(.word u,xp),t,FS,R,hb,λ_=>hg u rfl e e1]
 |num m=>cases e
 |sign u=>cases e
 |eof=>cases e
 |bad=>exact E7 rfl nb
theorem fF {α:Type}{p:EU α}{n:E1}{t:EG}{Qo:α->EG->Prop}{Qe:E1->FT->Prop}(e:p t=E9 n t) (nb:E4 t≠ .bad) (h:W p t Qo Qe):Qe n (HC t):=by
 have e:p t= .error (n,HC t):=by rw[e];unfold E9;rw[EI nb]
 rw[iZ e] at h;exact h
theorem ahl {α:Type}{p p':EU α}{t:EG}{Qo:α->EG->Prop}{Qe:E1->FT->Prop}(e:p t=p' t) (h:W p t Qo Qe):W p' t Qo Qe:=by
 unfold W at h ⊢;rw[<-e];exact h
abbrev QE (a:be) (B:Rb) (H0:Hp) (E:XK):E1->FT->Prop:=λk x=> ∀H',db (eQ B) H0 H'->nX a.Hd E H' k x
theorem cT {t:EG} :VS ((.word u,xp)::t)=if FZ.contains u=FB then E9 2 ((.word u,xp)::t) else .ok (u,t):=rfl
theorem iu {Kn:EK}{t:EG}(h:FZ.contains u=FB):Ge Kn ((.word u,xp)::t)=E9 2 ((.word u,xp)::t):=by
 unfold Ge;rw[cT,EL h]
 rfl
theorem eu {Kn:EK}{t:EG}(h:FZ.contains u=FM):Ge Kn ((.word u,xp)::t)=if Kn.taken u=FB then E9 4 ((.word u,xp)::t) else .ok (u,t):=by
 unfold Ge;rw[cT,EI (by rw[h];exact EE)]
structure Zf (β:Type) where
 a:be
 E:XK
 B:Rb
 L:E1
 H0:Hp
 Ro:β->EG->Prop
inductive CB (X:Cx) (x:Fh) (ps:EA Fh) (sp:Sp):Prop
 |mk {k:E1}{f:EJ}{fd:FL}(F:bS X.prog X.w X.K X.mg X.base (fW X.prog X.w) k f fd ps sp) (hr:bW k X.A) (d:CD X.K X.mg x f fd ps) (hg:Gl X x):CB X x ps sp
structure RX (X:Cx) (a:be) (E:XK):Prop where
 T:aU X.K X.mg a
 C:XT X.K a
 hr:bW 8 X.A
 up:dg (fW X.prog X.w) X E
 lv:Pc (model X.prog X.w) X.A X.env X.xe
 nd:X.N.Nodup
 n0:X.N[0]?=EQ ("reader":Fh)
 v0:oH X.env.scope "reader"
structure RS {β:Type}(Z:Zf β) (F:EA (Fk×V)) (b:FR) (H:Hp) (t:EG) (Kn:EK) (p:EU β):Prop where
 S: ∃n,fo Z.a Z.B H n t Kn
 k:db (eQ Z.B) Z.H0 H
 f: ∀ {i:E1}{x:Fk×V},F[i]?=EQ x->jc Z.a (eQ Z.B) H x
 l:t.length+b.toNat<=Z.L
 w:W p t Z.Ro (QE Z.a Z.B Z.H0 Z.E)
section
variable {β:Type}{Z:Zf β}{H H':Hp}{p p':EU β}
theorem RS.go (R:RS Z F b H t Kn p) (S:fo Z.a Z.B H' n t' WQ) (k:db (eQ Z.B) H H') (l:t'.length+b'.toNat<=Z.L) (w:W p' t' Z.Ro (QE Z.a Z.B Z.H0 Z.E)):RS Z F b' H' t' WQ p':=
 #[#[n,S],R.k.trans k,λe=>jc.Hj k.two (R.f e),l,w]
theorem RS.and (R:RS Z F b H t Kn p) (h:jc Z.a (eQ Z.B) H e):RS Z (e::F) b H t Kn p:=
 #[R.S,R.k,λ{i x} q=>match i,q with
  |0,q=>by cases q;exact h
  |i+1,q=>R.f (i:=i) q,R.l,R.w]
theorem RS.as (R:RS Z F b H t Kn p) (e:p t=p' t):RS Z F b H t Kn p':=#[R.S,R.k,R.f,R.l,ahl e R.w]
theorem RS.one (R:RS Z F b H (x::t) Kn p):t.length+1<=Z.L:=Fj (Ju _ _) R.l
theorem RS.past (R:RS Z F b H (x::t) Kn p) (S:fo Z.a Z.B H n (x::t) Kn) (hx: ¬js x) (h:OS.past Z.a H Z.B.r Z.B.q Z.B.kd Z.B.fn Z.B.ds.p Z.B.bl.p n H') (w:W p' t Z.Ro (QE Z.a Z.B Z.H0 Z.E)):RS Z F FB H' t Kn p':=
 R.go (S.past hx h) (uE h) R.one w
end
structure XpP (v:Fh) (p:EU Mo) (x:F5×FT) (r:EG):Prop where
 bad:x.1= .bad->p (x::r)= .error (1,x.2)
 no:x.1≠ .bad->lU v x.1=FM->p (x::r)= .error (2,x.2)
 yes:x.1≠ .bad->lU v x.1=FB->p (x::r)= .ok ((),r)/\ ¬js x
theorem d7.p {v:Fh}{s:String}(l:d7 v (ED s)) (r:EG) (ok:f7 x.1):XpP v (FC s) x r:=by
 refine#[λb=>bf s (x::r) b,λnb e=>?_,λnb e=>?_]
 ·rw[cQ ok l] at e
  show(if FD (x::r) s=FB then _ else E9 2 (x::r))=_
  rw[EI (by show¬(x.1 == .sign (ED s))=FB;rw[e];exact EE)];unfold E9;rw[EI (show¬E4 (x::r)= .bad from nb)]
  rfl
 ·rw[cQ ok l] at e
  refine#[?_,λz=>?_]
  ·show(if FD (x::r) s=FB then _ else E9 2 (x::r))=_
   rw[EL (by show(x.1 == .sign (ED s))=FB;exact e)]
   rfl
  ·have:=beq_iff_eq.mp e
   exact z.elim (λz=>by rw[this] at z;cases z) nb
theorem cU.p {v:Fh}{s:String}(l:cU v (ED s)) (r:EG) (ok:f7 x.1):XpP v (GN s) x r:=by
 refine#[λb=>eW s (x::r) b,λnb e=>?_,λnb e=>?_]
 ·rw[bZ ok l] at e
  show(if EV (x::r) s=FB then _ else E9 2 (x::r))=_
  rw[EI (by show¬(x.1 == .word (ED s))=FB;rw[e];exact EE)];unfold E9;rw[EI (show¬E4 (x::r)= .bad from nb)]
  rfl
 ·rw[bZ ok l] at e
  refine#[?_,λz=>?_]
  ·show(if EV (x::r) s=FB then _ else E9 2 (x::r))=_
   rw[EL (by show(x.1 == .word (ED s))=FB;exact e)]
   rfl
  ·have:=beq_iff_eq.mp e
   exact z.elim (λz=>by rw[this] at z;cases z) nb
theorem zS {v:Fh}(r:EG) (e:lU v x.1=FB) (nb:x.1≠ .bad) (nf: ¬js x):XpP v F3 x r:=
 #[λb=>E7 b nb,λ_ z=>(by rw[e] at z;cases z),λ_ _=>#[FS,nf]]
theorem RS.tok {β:Type}{Z:Zf β}{F:EA (Fk×V)}{b:FR}{H:Hp}{t:EG}{Kn:EK}{p:EU β}(R:RS Z F b H t Kn p):f7 (E4 t):=by
 obtain⟨n,S⟩:=R.S;obtain⟨x,t',rfl,tok,Ql,_,_⟩:=S.wh.first;exact tok
section
variable {X:Cx}{β:Type}{Z:Zf β}{F:EA (Fk×V)}{b:FR}{H:Hp}{t:EG}{Kn:EK}{D:eJ}{ss:EA Stmt}{σ:L2.St}{p0 p1 p2 p3 p4 p5:Pos}{j:E1}{v y:Fh}{s:String}{E:XK}{Q:VK}{B:Rb}{n:E1}{m:Fh}{f:EJ}{fd:FL}{ps:EA Fh}{sp:Sp}{k:E1}{CX:pS}{E':XK}{p:EU β}
theorem RX.rd (Y:RX X a E):PE X (.Name "reader" p1) (lj 0):=dX Y.n0 Y.v0
theorem RX.m1 (Y:RX X a E) (d:MD X.K a.FX m f fd ps) (G:bS X.prog X.w X.K X.mg X.base CX k f fd ps sp) (hk:k<=8) (up:dg CX X E') (S:fo a B H n t Kn) (hm:(qT B.q B.kd B.fn B.ds.p B.bl.p n).lookup m=Fa) (q:Pe X e (EQ (.ref B.r)::σ) H λv H1=>sp [.ref B.r,v] H1 Q E')
  (hp:ig p2 p4) (JS:Fb [e] X.env=[(FM,eval e X.env)]):Pe X (.Call (.Attribute (.Name "reader" p1) m p2) [e] [] p4) (EQ (.ref B.r)::σ) H Q:=by
 obtain⟨dr,er⟩:=S.rd.ins;exact#[_,cx Y.rd Y.T.Fy d G (Y.hr.mono hk) up (aa dj ag JS) JS rfl (eB hp (by rw[JS];rfl)),B.r,dr,_,FS,er,hm,q]
theorem RX.m0 (Y:RX X a E) (d:MD X.K a.FX m f fd ps) (G:bS X.prog X.w X.K X.mg X.base CX k f fd ps sp) (hk:k<=8) (up:dg CX X E') (S:fo a B H n t Kn) (hm:(qT B.q B.kd B.fn B.ds.p B.bl.p n).lookup m=Fa) (q:sp [.ref B.r] H Q E')
  (hp:ig p2 p4):Pe X (.Call (.Attribute (.Name "reader" p1) m p2) [] [] p4) (EQ (.ref B.r)::σ) H Q:=by
 obtain⟨dr,er⟩:=S.rd.ins;exact#[_,bQ Y.rd Y.T.Fy d G (Y.hr.mono hk) up (eB hp rfl),B.r,dr,_,FS,er,hm,q]
theorem xh {e:G8}{te:TE}{u:EU Mo}{g:Mo->EU β}(Y:RX X Z.a Z.E) (R:RS Z F b H t Kn (u>>=g)) (he:PE X e te) (hv: ∀Q:VK,Q (.str v) H->te (EQ (.ref Z.B.r)::σ) H Q) (l: ∀ {x:F5×FT} r,t=x::r->f7 x.1->XpP v u x r) (q: ∀H' t',RS Z F FB H' t' Kn (g ())->Bd X ss D (EQ (.ref Z.B.r)::σ) H') (hp:ig p2 p4:=by rfl) (JS:Fb [e] X.env=[(FM,eval e X.env)]:=by rfl):
  Bd X (.Expr (.Call (.Attribute (.Name "reader" p1) "expect" p2) [e] [] p4) p5::ss) D (EQ (.ref Z.B.r)::σ) H:=by
 obtain⟨n,S⟩:=R.S;obtain⟨x,t',rfl,tok,Ql,Ma,_⟩:=S.wh.first;have hW:=R.w;rw[jy] at hW;have l:=l t' rfl tok;refine bA (Y.m1 Y.T.Zc.c (xy Y.T Y.C) [01] Y.up S rfl #[_,he,hv _ #[Z.B.r,Z.B.q,Z.B.kd,Z.B.fn,Z.B.ds,Z.B.bl,n,x,t',v,FS,S.rd,λb=>?_,λnb e=>?_,λnb e H' hp=>?_]] hp JS)
 ·rw[iZ (l.bad b)] at hW;exact hW H R.k
 ·rw[iZ (l.no nb e)] at hW;exact hW H R.k
 ·obtain⟨h1,h2⟩:=l.yes nb e
  rw[xM h1] at hW;exact q H' t' (R.past S h2 hp hW)
theorem me {te:TE}(Y:RX X Z.a Z.E) (R:RS Z F b H t Kn p) (he:PE X e te) (hv: ∀Q:VK,Q (.str v) H->te (EQ (.ref Z.B.r)::σ) H Q) (hb:E4 t= .bad->QE Z.a Z.B Z.H0 Z.E 1 (HC t)) (q:E4 t≠ .bad->Q (.bl (lU v (E4 t))) H) (hp:ig p2 p4:=by rfl) (JS:Fb [e] X.env=[(FM,eval e X.env)]:=by rfl):
  Pe X (.Call (.Attribute (.Name "reader" p1) "sees" p2) [e] [] p4) (EQ (.ref Z.B.r)::σ) H Q:=by
 obtain⟨n,S⟩:=R.S;obtain⟨x,t',rfl,tok,Ql,Ma,_⟩:=S.wh.first;exact Y.m1 Y.T.d_p.c (mi Y.T Y.C) [01] Y.up S rfl #[_,he,hv _ #[Z.B.r,Z.B.q,Z.B.kd,Z.B.fn,Z.B.ds,Z.B.bl,n,x,t',v,FS,S.rd,λb=>hb (Ql.trans b) H R.k,q]] hp JS
theorem rf {u:EU Mo}{g:Mo->EU β}(Y:RX X Z.a Z.E) (R:RS Z F b H t Kn (u>>=g)) (l: ∀ {x:F5×FT} r,t=x::r->f7 x.1->XpP v u x r) (q: ∀H' t',RS Z F FB H' t' Kn (g ())->Bd X ss D (EQ (.ref Z.B.r)::σ) H') (hp:ig p2 p4:=by rfl):
  Bd X (.Expr (.Call (.Attribute (.Name "reader" p1) "expect" p2) [.Constant (.str v) j p3] [] p4) p5::ss) D (EQ (.ref Z.B.r)::σ) H:=xh Y R dG [05] l q hp
theorem cB {g:Mo->EU β}(Y:RX X Z.a Z.E) (lit:d7 v (ED s)) (R:RS Z F b H t Kn (FC s>>=g)) (q: ∀H' t',RS Z F FB H' t' Kn (g ())->Bd X ss D (EQ (.ref Z.B.r)::σ) H') (hp:ig p2 p4:=by rfl):
  Bd X (.Expr (.Call (.Attribute (.Name "reader" p1) "expect" p2) [.Constant (.str v) j p3] [] p4) p5::ss) D (EQ (.ref Z.B.r)::σ) H:=rf Y R (λr _ ok=>lit.p r ok) q hp
theorem kP {g:Mo->EU β}(Y:RX X Z.a Z.E) (lit:cU v (ED s)) (R:RS Z F b H t Kn (GN s>>=g)) (q: ∀H' t',RS Z F FB H' t' Kn (g ())->Bd X ss D (EQ (.ref Z.B.r)::σ) H') (hp:ig p2 p4:=by rfl):
  Bd X (.Expr (.Call (.Attribute (.Name "reader" p1) "expect" p2) [.Constant (.str v) j p3] [] p4) p5::ss) D (EQ (.ref Z.B.r)::σ) H:=rf Y R (λr _ ok=>lit.p r ok) q hp
theorem io (Y:RX X Z.a Z.E) (R:RS Z F b H t Kn p) (st:aI p) (q:E4 t≠ .bad->Q (.bl (lU v (E4 t))) H) (hp:ig p2 p4:=by rfl):
  Pe X (.Call (.Attribute (.Name "reader" p1) "sees" p2) [.Constant (.str v) j p3] [] p4) (EQ (.ref Z.B.r)::σ) H Q:=me Y R dG [05] (λb=>st.K6 b R.w) q hp
theorem iV (Y:RX X Z.a Z.E) (R:RS Z F b H t Kn p) (nb:E4 t≠ .bad) (q:Q (.bl (lU v (E4 t))) H) (hp:ig p2 p4:=by rfl):
  Pe X (.Call (.Attribute (.Name "reader" p1) "sees" p2) [.Constant (.str v) j p3] [] p4) (EQ (.ref Z.B.r)::σ) H Q:=me Y R dG [05] (λb=>E7 b nb) (λ_=>q) hp
theorem X7 {c:F5->FR}(Y:RX X Z.a Z.E) (d:MD X.K Z.a.FX m f fd ps) (G:bS X.prog X.w X.K X.mg X.base (fW X.prog X.w) k f fd ps (sB Z.a c)) (hk:k<=8) (hm: ∀n,(qT Z.B.q Z.B.kd Z.B.fn Z.B.ds.p Z.B.bl.p n).lookup m=Fa) (R:RS Z F b H t Kn p) (st:aI p) (q:E4 t≠ .bad->Q (.bl (c (E4 t))) H) (hp:ig p2 p4:=by rfl):
  Pe X (.Call (.Attribute (.Name "reader" p1) m p2) [] [] p4) (EQ (.ref Z.B.r)::σ) H Q:=by
 obtain⟨n,S⟩:=R.S;obtain⟨x,t',rfl,tok,Ql,Ma,_⟩:=S.wh.first;exact Y.m0 d G hk Y.up S (hm n) #[Z.B.r,Z.B.q,Z.B.kd,Z.B.fn,Z.B.ds,Z.B.bl,n,x,t',FS,S.rd,λb=>st.K6 (Ql.trans b) R.w H R.k,q] hp
theorem iA {g:Mo->EU β}(Y:RX X Z.a Z.E) (R:RS Z F b H (x::r) Kn (F3>>=g)) (nf: ¬js x) (q: ∀H',RS Z F FB H' r Kn (g ())->Q (ie x.1) H') (hp:ig p2 p4:=by rfl):
  Pe X (.Call (.Attribute (.Name "reader" p1) "take" p2) [] [] p4) (EQ (.ref Z.B.r)::σ) H Q:=by
 obtain⟨n,S⟩:=R.S;exact Y.m0 Y.T.d_t.c (qW Y.T Y.C) [01] Y.up S rfl #[Z.B.r,Z.B.q,Z.B.kd,Z.B.fn,Z.B.ds,Z.B.bl,n,x,r,FS,S.rd,λb=>E7 (.inr b) nf,λ_ H' hp=>q H' (R.past S nf hp R.w)] hp
theorem qU {e:G8}{i:E1}(Y:RX X Z.a Z.E) (he:PE X e (tC (.int i))) (R:RS Z F b H t Kn p) (nb:E4 t≠ .bad) (h:p t=E9 i t) (hp:ig p2 p4:=by rfl) (JS:Fb [e] X.env=[(FM,eval e X.env)]:=by rfl):
  Pe X (.Call (.Attribute (.Name "reader" p1) "fail" p2) [e] [] p4) (EQ (.ref Z.B.r)::σ) H Q:=by
 obtain⟨n,S⟩:=R.S;obtain⟨x,t',rfl,tok,Ql,Ma,_⟩:=S.wh.first;refine Y.m1 Y.T.Vq.c (fE Y.T Y.C) [01] Y.up S rfl #[_,he,Z.B.r,Z.B.q,Z.B.kd,Z.B.fn,Z.B.ds,Z.B.bl,n,x,t',i,FS,S.rd,?_] hp JS;rw[EI (show¬x.1= .bad from nb)];exact fF h nb R.w H R.k
theorem p_g (Y:RX X Z.a Z.E) (R:RS Z F b H t Kn p) (st:aI p) (h:E4 t≠ .bad->cN (E4 t)=FM->p t=E9 2 t) (q:E4 t≠ .bad->cN (E4 t)=FB->Q .HZ H) (hp:ig p2 p4:=by rfl):
  Pe X (.Call (.Attribute (.Name "reader" p1) "need_name" p2) [] [] p4) (EQ (.ref Z.B.r)::σ) H Q:=by
 obtain⟨n,S⟩:=R.S;obtain⟨x,t',rfl,tok,Ql,Ma,_⟩:=S.wh.first;exact Y.m0 Y.T.d_z.c (g7 Y.T Y.C) [01] Y.up S rfl #[Z.B.r,Z.B.q,Z.B.kd,Z.B.fn,Z.B.ds,Z.B.bl,n,x,t',FS,S.rd,λb=>st.K6 (Ql.trans b) R.w H R.k,λnb e=>fF (h nb e) nb R.w H R.k,q] hp
theorem vx (Y:RX X Z.a Z.E) (R:RS Z F b H t Kn p) (hb:E4 t= .bad->QE Z.a Z.B Z.H0 Z.E 1 (HC t)) (q:E4 t≠ .bad->Q (ie (E4 t)) H) (hp:ig p2 p4:=by rfl):
  Pe X (.Attribute (.Call (.Attribute (.Name "reader" p1) "current" p2) [] [] p4) "value" p5) (EQ (.ref Z.B.r)::σ) H Q:=by
 obtain⟨n,S⟩:=R.S;obtain⟨x,t',rfl,tok,Ql,Ma,_⟩:=S.wh.first;refine#[_,ao dj rfl,Y.m0 Y.T.Vp.c (c7 Y.T Y.C) [01] Y.up S rfl #[Z.B.r,Z.B.q,Z.B.kd,Z.B.fn,Z.B.ds,Z.B.bl,n,x,t',FS,S.rd,λb=>hb (Ql.trans b) H R.k,λnb c ⟨dx,et⟩=>#[c,_,dx,_,_,FS,et,Y.T.HU,Y.T.IP,FS,q nb]] hp]
theorem ahm (Y:RX X Z.a Z.E) (R:RS Z F b H t Kn p) (st:aI p) (q:E4 t≠ .bad->Q (ie (E4 t)) H) (hp:ig p2 p4:=by rfl):
  Pe X (.Attribute (.Call (.Attribute (.Name "reader" p1) "current" p2) [] [] p4) "value" p5) (EQ (.ref Z.B.r)::σ) H Q:=vx Y R (λb=>st.K6 b R.w) q hp
theorem RS.cons (R:RS Z F b H t Kn p): ∃x r,t=x::r:=by
 obtain⟨n,S⟩:=R.S;obtain⟨x,t',e,_⟩:=S.wh.first;exact#[x,t',e]
theorem aaO (Y:RX X Z.a Z.E) (R:RS Z F b H (x::r) Kn p) (nf: ¬js x) (q:Q (.bl (lK (E4 r))) H) (hp:ig p2 p4:=by rfl):
  Pe X (.Call (.Attribute (.Name "reader" p1) "number_follows" p2) [] [] p4) (EQ (.ref Z.B.r)::σ) H Q:=by
 obtain⟨n,S⟩:=R.S;obtain⟨y,r',rfl,_⟩:=(S.wh.tail nf).2.first;exact Y.m0 Y.T.Zb.c (jY Y.T) [01] aY S rfl #[Z.B.r,Z.B.q,Z.B.kd,Z.B.fn,Z.B.ds,Z.B.bl,n,x,y,r',FS,S.rd,q] hp
theorem aaP {te:TE}{C:FR->Hp->Prop}(Y:RX X Z.a Z.E) (R:RS Z F b H t Kn p) (he:PE X e te) (hv: ∀Q:VK,Q (.str (sb u)) H->te (EQ (.ref Z.B.r)::σ) H Q) (q:C ((Kn.funs.find? λf=>f.1 == u).isSome) H):
  Pt X (.Compare e [.In] [.Attribute (.Name "reader" p1) "functions" p2] p3) (EQ (.ref Z.B.r)::σ) H C:=by
 obtain⟨n,S⟩:=R.S;obtain⟨dr,er⟩:=S.rd.ins;obtain⟨ff,f1,f2⟩:=S.kn.funs;refine#[_,fC (mZ (dq Y.hr) he (ao Y.rd rfl)),hv _ #[Z.B.r,_,dr,_,_,FS,er,Y.T.Fy,Y.T.HV,FS,Z.B.fn,_,FS,gv.k (k:=nk u) f1,_,FS,?_]];rw[f2,Hv];exact q
theorem aaQ {te:TE}{C:FR->Hp->Prop}(Y:RX X Z.a Z.E) (R:RS Z F b H t Kn p) (he:PE X e te) (hv: ∀Q:VK,Q (.str (sb u)) H->te (EQ (.ref Z.B.r)::σ) H Q) (q:C (!Kn.values.contains u) H):
  Pt X (.Compare e [.NotIn] [.Attribute (.Name "reader" p1) "known" p2] p3) (EQ (.ref Z.B.r)::σ) H C:=by
 obtain⟨n,S⟩:=R.S;obtain⟨dr,er⟩:=S.rd.ins;obtain⟨kk,k1,k2,k3⟩:=S.kn.vals;refine#[_,fC (iW (dq Y.hr) he (ao Y.rd rfl)),hv _ #[Z.B.r,_,dr,_,_,FS,er,Y.T.Fy,Y.T.JC,FS,Z.B.kd,_,FS,gv.k (k:=nk u) k1,_,FS,?_]];have:=k3 u;unfold has at this;rw[this];exact q
theorem tq (i:E1) {g:EC->EU β}(Y:RX X Z.a Z.E) (R:RS Z F b H t Kn (Ge Kn>>=g)) (q: ∀u H' t',cU (sb u) u->FZ.contains u=FM->Kn.taken u=FM->RS Z F FB H' t' Kn (g u)->Bd X ss D ((EQ (.ref Z.B.r)::σ).set i (EQ (.str (sb u)))) H')
  (h:Sl X i y:=by exact#[FS,Gx rfl,FS]) (hp:ig p2 p4:=by rfl):
  Bd X (.Assign [.Name y p0] (.Call (.Attribute (.Name "reader" p1) "take_free_name" p2) [] [] p4) p5::ss) D (EQ (.ref Z.B.r)::σ) H:=by
 obtain⟨n,S⟩:=R.S;obtain⟨dr,er⟩:=S.rd.ins;obtain⟨⟨x,xp⟩,t',rfl,tok,Ql,Ma,_⟩:=S.wh.first;obtain⟨kk,k1,k2,k3⟩:=S.kn.vals;obtain⟨ff,f1,f2⟩:=S.kn.funs;have hW:=R.w;rw[jy] at hW;have tk: ∀u,(has kk u||has ff u)=Kn.taken u:=λu=>by
  unfold Na;rw[k3]
  congr 1
  unfold has;rw[f2,Hv,GD,Mx,Lh]
 refine aN i Y.nd (Y.m0 Y.T.Ze.c (kq Y.T Y.C) [01] Y.up S rfl #[Z.B.r,Z.B.q,Z.B.kd,Z.B.fn,Z.B.ds,Z.B.bl,n,(x,xp),t',kk,ff,FS,S.rd,k1,f1,λb=>(fT Kn).K6 (Ql.trans b) hW H R.k,λnb e=>?_,λu ex e e4=>?_,λu ex e e4 H' hp=>?_] hp) h
 ·refine fF (p:=Ge Kn) (n:=2) (t:=(x,xp)::t') ?_ nb hW H R.k
  cases x with
  |word u=>
   rw[dB] at e;have Rm:FZ.contains u=FB:=by cases h:FZ.contains u;rw[h] at e;cases e;rfl
   exact iu Rm
  |num m=>rfl
  |sign s=>rfl
  |eof=>rfl
  |bad=>exact E7 rfl nb
 ·obtain rfl:x= .word u:=ex
  rw[dB] at e;have Rm:FZ.contains u=FM:=by cases h:FZ.contains u;rfl;rw[h] at e;cases e
  refine fF (p:=Ge Kn) (n:=4) (t:=(.word u,xp)::t') ?_ (λz=>nomatch z) hW H R.k
  rw[eu Rm,EL (by rw[<-tk];exact e4)]
 ·obtain rfl:x= .word u:=ex
  rw[dB] at e;have Rm:FZ.contains u=FM:=by cases h:FZ.contains u;rfl;rw[h] at e;cases e
  have ft:Kn.taken u=FM:=by rw[<-tk];exact e4
  have en:Ge Kn ((.word u,xp)::t')= .ok (u,t'):=by
   rw[eu Rm,EI (by rw[ft];exact EE)]
  rw[xM en] at hW;exact q u H' t' #[FS,tok.1,tok.2] Rm ft (R.past S (λz=>z.elim (λz=>nomatch z) λz=>nomatch z) hp hW)
theorem i4 (i:E1) {g:EC->EU β}(Y:RX X Z.a Z.E) (R:RS Z F b H t Kn (Ge Kn>>=g)) (q: ∀u H' t',Kn.taken u=FM->RS Z F FB H' t' Kn (g u)->Bd X ss D ((EQ (.ref Z.B.r)::σ).set i (EQ (.str (sb u)))) H')
  (h:Sl X i y:=by exact#[FS,Gx rfl,FS]) (hp:ig p2 p4:=by rfl):
  Bd X (.Assign [.Name y p0] (.Call (.Attribute (.Name "reader" p1) "take_free_name" p2) [] [] p4) p5::ss) D (EQ (.ref Z.B.r)::σ) H:=tq i Y R (λu H' t' _ _=>q u H' t') h hp
theorem jB (h:Kn.taken u=FM):Kn.values.contains u=FM:=(Lx.mp h).1
theorem gG {te:TE}(Y:RX X Z.a Z.E) (he:PE X e te) (hv: ∀Q:VK,Q (.str (sb u)) H->te (EQ (.ref Z.B.r)::σ) H Q) (ft:Kn.taken u=FM) (hm:Kn.values.length+Z.L<=4000) (R:RS Z F FB H t Kn p)
  (q: ∀H',RS Z F FB H' t (Kn.with u) p->Bd X ss D (EQ (.ref Z.B.r)::σ) H') (hp:ig p2 p4:=by rfl) (JS:Fb [e] X.env=[(FM,eval e X.env)]:=by rfl):
  Bd X (.Expr (.Call (.Attribute (.Name "reader" p1) "learn" p2) [e] [] p4) p5::ss) D (EQ (.ref Z.B.r)::σ) H:=by
 obtain⟨n,S⟩:=R.S;obtain⟨dr,er⟩:=S.rd.ins;obtain⟨kk,k1,k2,k3⟩:=S.kn.vals;have l:=R.l;have l:t.length+1<=Z.L:=l;refine bA (Y.m1 Y.T.Zh.c (Cm Y.T) [01] aY S rfl #[_,he,hv _ #[Z.B.r,dr,Z.B.q,Z.B.kd,Z.B.fn,Z.B.ds,Z.B.bl,n,u,kk,FS,er,k1,FP (show kk.length<=4000 by lia) [01],?_]] hp JS);exact q _ (R.go (S.ahk (jB ft) (by lia) k1) (eR (.inr (.inl rfl))) l R.w)
theorem ld {te:TE}(Y:RX X Z.a Z.E) (he:PE X e te) (hv: ∀Q:VK,Q (.str (sb u)) H->te (EQ (.ref Z.B.r)::σ) H Q) (ft:Kn.taken u=FM) (R:RS Z F b H t (Kn.with u) p)
  (q: ∀H',RS Z F b H' t Kn p->Bd X ss D (EQ (.ref Z.B.r)::σ) H') (hp:ig p2 p4:=by rfl) (JS:Fb [e] X.env=[(FM,eval e X.env)]:=by rfl):
  Bd X (.Expr (.Call (.Attribute (.Name "reader" p1) "forget" p2) [e] [] p4) p5::ss) D (EQ (.ref Z.B.r)::σ) H:=by
 obtain⟨n,S⟩:=R.S;obtain⟨dr,er⟩:=S.rd.ins;obtain⟨kk,k1,k2,k3⟩:=S.kn.vals;obtain⟨hu,S'⟩:=S.forget (jB ft) k1;refine bA (Y.m1 Y.T.Wj.c (py Y.T) [01] aY S rfl #[_,he,hv _ #[Z.B.r,dr,Z.B.q,Z.B.kd,Z.B.fn,Z.B.ds,Z.B.bl,n,u,kk,FS,er,k1,hu,?_]] hp JS);exact q _ (R.go S' (eR (.inr (.inl rfl))) R.l R.w)
theorem RX.call2 {sp:Sp}{te:TE}(Y:RX X a E) (c:CB X x ["reader","depth"] sp) (he:PE X e te) (hx:(x == ("__debug__":Fh))=FM) (JS:Fb [e] X.env=[(FM,eval e X.env)]):PE X (.Call (.Name x p1) [.Name "reader" p2,e] [] p4) (Al sp [] E (BP (lj 0) (BP te A7))):=by
 obtain⟨G,hr,d,hg⟩:=c;exact aL G hr hg d Y.up (aa Y.rd (aa he ag JS) (by show _::Fb [e] X.env=_;rfl)) hx rfl (by rw[JS];rfl)
end
def RoX (a:be) (B:Rb) (H0:Hp) (L:E1) (Kn:EK) (Q:VK) (e:ER) (t:EG):Prop:= ∀H' v n,t.length<L->fo a B H' n t Kn->db (eQ B) H0 H'->au a (eQ B) H' e v->Q v H'
def Rz (w2:FR) (a:be) (B:Rb) (H0:Hp) (L:E1) (Kn:EK) (Q:VK) (E:XK) (e:ER) (t:EG):Prop:=if w2=FB/\E4 t= .bad then QE a B H0 E 1 (HC t) else RoX a B H0 L Kn Q e t
inductive aV (a:be) (w2:FR) (p:E1->E1->EK->EU ER) (c:E1) (ok:E1->EK->EG->Prop) (vs:EA V) (H:Hp) (Q:VK) (E:XK):Prop
 |mk (B:Rb) (n:E1) (t:EG) (Kn:EK) (d:E1) (fuel:E1) (_:vs=[.ref B.r, .int d]) (_:d<=12) (_:ok d Kn t) (_:fo a B H n t Kn) (_:16*t.length+c<=fuel) (_:W (p fuel (12-d) Kn) t (Rz w2 a B H t.length Kn Q E) (QE a B H E)):aV a w2 p c ok vs H Q E
def Lv (j:E1):E1->EK->EG->Prop:=λd _ _=>13<=d+j
def LvS (j:E1) (s:EC):E1->EK->EG->Prop:=λd _ t=>13<=d+j/\E4 t= .sign s
def LvW (j:E1) (s:EC):E1->EK->EG->Prop:=λd _ t=>13<=d+j/\E4 t= .word s
def LvC (j:E1):E1->EK->EG->Prop:=λd K t=>13<=d+j/\ ∃u f,E4 t= .word u/\u≠ED "sum"/\FZ.contains u=FM/\K.funs.find? (λf=>f.1 == u)=EQ f
section
variable {k:E1}{w2:FR}{pp:E1->E1->EK->EU ER}{c:E1}{ok:E1->EK->EG->Prop}{x Gz:Fh}{st:Stmt}{f:EJ}{fd:FL}{N:EA Fh}{ps:EA Fh}
theorem ku {s:EM}{H:Hp}{E:XK}(T:aU K mg a) (XC:XT K a) (hk:8<=k) (S:az N ("reader"::ps) (af st)) (hr:bW k (A.deeper (Jf Gz (af st) s.heap.objs.size f Gp))):
  RX (fi (fW P w) P w K mg base N Gz (af st) f Gp A outer s H E) a E:=
 #[T,XC,hr.mono hk,aA,Iq,S.nd,by
  have e:=S.pre;cases N with
  |nil=>cases e
  |cons x l=>exact FN EQ (IZ e).1,(S.par "reader" EO).elim .inl λz=> .inr (.inl z)]
theorem uC (T:aU K mg a) (XC:XT K a) (hk:8<=k) (F:oF K x Gz st f fd) (S:az N ["reader","depth"] (af st))
  (Jc: ∀(Gp:EH) (A:Gk) (outer:EA Env) (s:EM) (H:Hp) (B:Rb) (t:EG) (Kn:EK) (d fuel:E1) (Q:VK) (E:XK),bW k (A.deeper (Jf Gz (af st) s.heap.objs.size f Gp))->d<=12->ok d Kn t->16*t.length+c<=fuel->Kn.values.length+t.length<=4000->
   let X:=fi (fW P w) P w K mg base N Gz (af st) f Gp A outer s H E
   let D:eJ:= { nx:=λ_ H'=>Q .HZ H',rt:=Q }
   let Z:Zf ER:=#[a,E,B,t.length,H,Rz w2 a B H t.length Kn Q E]
   RX X a E->RS Z [] FM H t Kn (pp fuel (12-d) Kn)->Bd X (a8 st) D (L2.start N [.ref B.r, .int d]) H):bS P w K mg base (fW P w) (k+1) f fd ["reader","depth"] (aV a w2 pp c ok):=by
 refine fP F S [03] [02];obtain⟨B,n,t,Kn,d,fuel,rfl,hd,ho,St,hf,hW⟩:=h;exact Jc Gp A outer s H B t Kn d fuel Q E hr hd ho hf St.kn.len (ku T XC hk S hr) #[#[n,St],db.refl,λ{i x} e=>(by cases e),E6 _,hW]
end
section
variable {X:Cx}{β:Type}{Z:Zf β}{F:EA (Fk×V)}{b:FR}{H:Hp}{t:EG}{Kn:EK}{D:eJ}{ss:EA Stmt}{σ:L2.St}{p0 p1 p2 p3 p4 p5:Pos}{j:E1}{v y:Fh}{s:String}{E:XK}{d:E1}
theorem RS.done {H0:Hp}{w2:FR}{Q:VK}{v:V}(R:RS #[a,E,B,L,H0,Rz w2 a B H0 L Kn Q E] F FB H t Kn (pure e)) (h:au a (eQ B) H e v) (nb:w2=FB->E4 t≠ .bad:=by intro z;cases z):Q v H:=by
 obtain⟨n,S⟩:=R.S;have w:=R.w;rw[A3] at w;have w:Rz w2 a B H0 L Kn Q E e t:=w;unfold Rz at w;rw[EI λz=>nb z.1 z.2] at w;exact w H v n R.l S R.k h
theorem RS.tail {w2:FR}{Q:VK}{pp:E1->E1->EK->EU ER}{c f:E1}{ok:E1->EK->EG->Prop}(R:RS #[a,E,B,t.length,H,Rz w2 a B H t.length Kn Q E] F b H t Kn (pp f (12-d) Kn)) (hd:d<=12) (ho:ok d Kn t) (hf:16*t.length+c<=f):aV a w2 pp c ok [.ref B.r, .int d] H Q E:=by
 obtain⟨n,S⟩:=R.S;exact#[B,n,t,Kn,d,f,FS,hd,ho,S,hf,R.w]
theorem yE (i:E1) {g:E1->EU β}(Y:RX X Z.a Z.E) (hd:d<=12) (nb:E4 t≠ .bad) (R:RS Z F b H t Kn (GS (12-d)>>=g)) (q:d<12->RS Z F b H t Kn (g (12-(d+1)))->Bd X ss D ((EQ (.ref Z.B.r)::EQ (.int d)::σ).set i (EQ (.int ((d+1:E1):Int)))) H)
  (h:Sl X i y:=by exact#[FS,Gx rfl,FS]) (h1:X.N[1]?=EQ ("depth":Fh):=by rfl) (v1:oH X.env.scope "depth":=by exact Gx rfl) (hg:Gl X "deeper":=by rfl):
  Bd X (.Assign [.Name y p0] (.Call (.Name "deeper" p1) [.Name "reader" p2, .Name "depth" p3] [] p4) p5::ss) D (EQ (.ref Z.B.r)::EQ (.int d)::σ) H:=by
 obtain⟨n,S⟩:=R.S;obtain⟨⟨x,xp⟩,t',rfl,tok,Ql,Ma,_⟩:=S.wh.first;have hW:=R.w;rw[jy] at hW;have nx:x≠ .bad:=nb;refine aN i Y.nd (h:=h) #[_,Y.call2 #[akU Y.T Y.C,Y.hr.mono [01],Y.T.d_f.c,hg] (dX h1 v1) [01] rfl,Z.B.r,Z.B.q,Z.B.kd,Z.B.fn,Z.B.ds,Z.B.bl,n,(x,xp),t',d,FS,S.rd,λe=>?_,λe=>?_]
 ·rw[EI nx]
  exact fF (p:=GS (12-d)) (n:=6) (by unfold GS;rw[EL (by lia)]) nb hW H R.k
 ·have ed:GS (12-d) ((x,xp)::t')= .ok (12-(d+1),(x,xp)::t'):=by unfold GS;rw[EI (by lia),show 12-d-1=12-(d+1) by lia]
  rw[xM ed] at hW;exact q (by lia) #[R.S,R.k,R.f,R.l,hW]
def En (Z:Zf β) (g:ER->EU β):Prop:= ∀e r,E4 r= .bad->W (g e) r Z.Ro (QE Z.a Z.B Z.H0 Z.E)->QE Z.a Z.B Z.H0 Z.E 1 (HC r)
theorem nz {g:ER->EU β}(h: ∀e,aI (g e)):En Z g:=λe _ nb w=>(h e).K6 nb w
theorem alg {H0:Hp}{Q:VK}{g:ER->ER} :En #[a,E,B,L,H0,Rz FB a B H0 L Kn Q E] (λy=>pure (g y)):=λe r nb w=>by
 rw[A3] at w;have w:Rz FB a B H0 L Kn Q E (g e) r:=w;unfold Rz at w;rw[EL #[FS,nb]] at w;exact w
theorem RS.T3 {w2:FR}{g:ER->EU β}{pp:E1->E1->EK->EU ER}{c f:E1}{ok:E1->EK->EG->Prop}{Q:VK}(R:RS Z F b H t Kn (pp f (12-d) Kn>>=g)) (st:w2=FB->En Z g) (hd:d<=12) (ho:ok d Kn t) (hf:16*t.length+c<=f)
  (q: ∀e v H' t',(w2=FB->E4 t'≠ .bad)->RS Z ((.e e,v)::F) FB H' t' Kn (g e)->Q v H'):aV Z.a w2 pp c ok [.ref Z.B.r, .int d] H Q Z.E:=by
 obtain⟨n,S⟩:=R.S;have hW:=R.w;rw[jy] at hW;have l:t.length<=Z.L:=Fj (Ju _ _) R.l;refine#[Z.B,n,t,Kn,d,f,FS,hd,ho,S,hf,hW.mono (λe r w=>?_) λ_ _ z H' k=>z H' (R.k.trans k)];unfold Rz;by_cases nb:w2=FB/\E4 r= .bad
 ·rw[EL nb]
  exact λH' k=>st nb.1 e r nb.2 w H' (R.k.trans k)
 ·rw[EI nb]
  exact λH' v n' l' S' k' h=>q e v H' r (λh z=>nb #[h,z]) ((R.go (b':=FB) S' k' (show r.length+1<=Z.L by lia) w).and h)
theorem RS.call {g:ER->EU β}{pp:E1->E1->EK->EU ER}{c f:E1}{ok:E1->EK->EG->Prop}{Q:VK}(R:RS Z F b H t Kn (pp f (12-d) Kn>>=g)) (st:En Z g) (hd:d<=12) (ho:ok d Kn t) (hf:16*t.length+c<=f)
  (q: ∀e v H' t',E4 t'≠ .bad->RS Z ((.e e,v)::F) FB H' t' Kn (g e)->Q v H'):aV Z.a FB pp c ok [.ref Z.B.r, .int d] H Q Z.E:=R.T3 (λ_=>st) hd ho hf λe v H' t' nb=>q e v H' t' (nb rfl)
theorem RS.ahn {g:ER->EU β}{pp:E1->E1->EK->EU ER}{c f:E1}{ok:E1->EK->EG->Prop}{Q:VK}(R:RS Z F b H t Kn (pp f (12-d) Kn>>=g)) (hd:d<=12) (ho:ok d Kn t) (hf:16*t.length+c<=f)
  (q: ∀e v H' t',RS Z ((.e e,v)::F) FB H' t' Kn (g e)->Q v H'):aV Z.a FM pp c ok [.ref Z.B.r, .int d] H Q Z.E:=R.T3 (λz=>nomatch z) hd ho hf λe v H' t' _=>q e v H' t'
theorem eG (i:E1) {x:Fh}{g:ER->EU β}{pp:E1->E1->EK->EU ER}{c f:E1}{ok:E1->EK->EG->Prop}{te:TE}(Y:RX X Z.a Z.E) (cl:CB X x ["reader","depth"] (aV Z.a FB pp c ok)) (he:PE X e te) (hv: ∀Q:VK,Q (.int d) H->te (EQ (.ref Z.B.r)::σ) H Q)
  (R:RS Z F FB H t Kn (pp f (12-d) Kn>>=g)) (st:En Z g) (hd:d<=12) (ho:ok d Kn t) (hf:16*Z.L+c<=f+16)
  (q: ∀e v H' t',RS Z ((.e e,v)::F) FB H' t' Kn (g e)->Bd X ss D ((EQ (.ref Z.B.r)::σ).set i (EQ v)) H')
  (h:Sl X i y:=by exact#[FS,Gx rfl,FS]) (hx:(x == ("__debug__":Fh))=FM:=by decide) (JS:Fb [e] X.env=[(FM,eval e X.env)]:=by rfl):
  Bd X (.Assign [.Name y p0] (.Call (.Name x p1) [.Name "reader" p2,e] [] p4) p5::ss) D (EQ (.ref Z.B.r)::σ) H:=by
 have l:t.length+1<=Z.L:=R.l;refine aN i Y.nd #[_,Y.call2 cl he hx JS,?_] h;exact hv _ (R.call st hd ho (by lia) λe v H' t' _ R'=>q e v H' t' R')
theorem RX.make {c:Fh}{C:EJ}{fs:EA Fh}{e:G8}{es:EA G8}{tt:TA}(Y:RX X a E) (nb:NB X c C fs) (ha:PA X (e::es) tt) (hg:Gl X c) (hx:(c == ("__debug__":Fh))=FM) (he:Fb (e::es) X.env=(FM,eval e X.env)::Fb es X.env) (Ma:(Ie p4 (Fb es X.env)).any (·.1)=FM):
  PE X (.Call (.Name c p1) (e::es) [] p4) (BY C (kE C fs) [] E0 tt):=by
 obtain⟨M,G,b,hm⟩:=nb;exact gX M G (Y.hr.mono [01]) hg hm b .nil aY ha hx he Ma
theorem jw {c:Fh}{C:EJ}{fs:EA Fh}{e:G8}{es:EA G8}{Q:VK}(Y:RX X a E) (nb:NB X c C fs) (q:Pa X (e::es) σ H λws H1=> ∀x dx,H1 x=Fa->H1 dx=Fa->dx≠x->kE C fs (.ref x::(ws++[])) (aF (aF H1 dx (.own x)) x (.ins C dx [])) (λv H2=>v= .HZ/\Q (.ref x) H2) E0)
  (hg:Gl X c:=by rfl) (hx:(c == ("__debug__":Fh))=FM:=by decide) (he:Fb (e::es) X.env=(FM,eval e X.env)::Fb es X.env:=by rfl) (Ma:(Ie p4 (Fb es X.env)).any (·.1)=FM:=by rfl):Pe X (.Call (.Name c p1) (e::es) [] p4) σ H Q:=#[_,Y.make nb sN hg hx he Ma,q]
theorem RS.new {p:EU β}{Q:VK}(R:RS Z F b H t Kn p) (hl:ws.length=fs.length) (q: ∀u H',bD (eQ Z.B) H' C (fs.zip ws) u->RS Z F b H' t Kn p->Q u H'):
  ∀x dx,H x=Fa->H dx=Fa->dx≠x->kE C fs (.ref x::(ws++[])) (aF (aF H dx (.own x)) x (.ins C dx [])) (λv H2=>v= .HZ/\Q (.ref x) H2) E0:=λx dx hx Ur ne=>by
 obtain⟨n,S⟩:=R.S;refine#[x,dx,ws++[],FS,by rw[Gw];exact hl,ae,λH' h1 h2=>#[FS,?_]];rw[Gw] at h1;have sm:a9 H H':=λb o e=>h2 b o (by rw[ac (ai e hx),ac (ai e Ur)];exact e) (ai e hx);exact q _ H' #[x,dx,FS,S.fresh hx,h1] (R.go (S.same sm) (OS.a9.keeps sm) R.l R.w)
theorem g9 {p:EU β}{c:Fh}(Y:RX X Z.a Z.E) (nb:NB X c C fs) (ha:PA X (e::es) tt) (hv: ∀Q:EA V->Hp->Prop,Q ws H->tt σ H Q) (R:RS Z F b H t Kn p) (hl:ws.length=fs.length) (q: ∀u H',bD (eQ Z.B) H' C (fs.zip ws) u->RS Z F b H' t Kn p->D.rt u H')
  (hg:Gl X c:=by rfl) (hx:(c == ("__debug__":Fh))=FM:=by decide) (he:Fb (e::es) X.env=(FM,eval e X.env)::Fb es X.env:=by rfl) (Ma:(Ie p4 (Fb es X.env)).any (·.1)=FM:=by rfl):
  Bd X [.Return (EQ (.Call (.Name c p1) (e::es) [] p4)) p5] D σ H:=eA (aK (Y.make nb ha hg hx he Ma)) (hv _ (R.new hl q))
end
theorem yB:d7 "(" (ED "("):=#[by decide+kernel,by decide+kernel]
theorem uw:d7 ")" (ED ")"):=#[by decide+kernel,by decide+kernel]
theorem uG:cU "sum" (ED "sum"):=#[by decide+kernel,by decide+kernel,by decide+kernel]
theorem X8:cU "in" (ED "in"):=#[by decide+kernel,by decide+kernel,by decide+kernel]
theorem X9:d7 ".." (ED ".."):=#[by decide+kernel,by decide+kernel]
theorem Ya:d7 ":" (ED ":"):=#[by decide+kernel,by decide+kernel]
theorem sS {Kn:EK}{t:EG} :F9 (f+1) d Kn ((.word (ED "sum"),xp)::t)=
  (GS d>>=λe=>F3>>=λ_=>FC "(">>=λ_=>Ge Kn>>=λx=>GN "in">>=λ_=>Ff f e Kn>>=λlo=>FC "..">>=λ_=>Ff f e Kn>>=λhi=>FC ":">>=λ_=>
   Ff f e (Kn.with x)>>=λy=>FC ")">>=λ_=>pure (.sum x lo hi y):EU ER) ((.word (ED "sum"),xp)::t):=by
 rw[F9];show(if ED "sum"=ED "sum" then _ else _)=_
 rw[EL rfl]
theorem vO:cU "if" (ED "if"):=#[by decide+kernel,by decide+kernel,by decide+kernel]
theorem DT:cU "then" (ED "then"):=#[by decide+kernel,by decide+kernel,by decide+kernel]
theorem qm:cU "else" (ED "else"):=#[by decide+kernel,by decide+kernel,by decide+kernel]
theorem Dd {Kn:EK}{t:EG} :Ff (f+1) d Kn ((.word (ED "if"),xp)::t)=
  (GS d>>=λe=>F3>>=λ_=>Ff f e Kn>>=λc=>GN "then">>=λ_=>Ff f e Kn>>=λx=>GN "else">>=λ_=>Ff f e Kn>>=λy=>pure (.pick c x y):EU ER) ((.word (ED "if"),xp)::t):=by
 rw[Ff];show(if EV ((.word (ED "if"),xp)::t) "if"=FB then _ else _)=_
 rw[EL (by unfold EV;exact Gr _)]
theorem uf {Kn:EK}{t:EG} :F9 (f+1) d Kn ((.sign (ED "("),xp)::t)=
  (GS d>>=λe=>F3>>=λ_=>Ff f e Kn>>=λx=>FC ")">>=λ_=>pure x:EU ER) ((.sign (ED "("),xp)::t):=by
 rw[F9];show(if FD ((.sign (ED "("),xp)::t) "("=FB then _ else _)=_
 rw[EL (by unfold FD;exact Gr _)]
theorem e7 {β:Type}{Z:Zf β}{F:EA (Fk×V)}{b:FR}{H:Hp}{t:EG}{Kn:EK}{p:EU β}(R:RS Z F b H t Kn p) (h:E4 t= .word u): ∃xp r,t=(.word u,xp)::r:=by
 obtain⟨n,S⟩:=R.S;obtain⟨⟨x,xp⟩,r,rfl,_,_,_,_⟩:=S.wh.first;exact#[xp,r,by rw[show x= .word u from h]]
theorem xj {β:Type}{Z:Zf β}{F:EA (Fk×V)}{b:FR}{H:Hp}{t:EG}{Kn:EK}{p:EU β}(R:RS Z F b H t Kn p) (h:E4 t= .sign u): ∃xp r,t=(.sign u,xp)::r:=by
 obtain⟨n,S⟩:=R.S;obtain⟨⟨x,xp⟩,r,rfl,_,_,_,_⟩:=S.wh.first;exact#[xp,r,by rw[show x= .sign u from h]]
theorem BV (h:16*L+c<=f) (hc:6<=c): ∃g,f=g+1/\16*L+12<=g+16:=#[f-1,by lia,by lia]
section
variable {β:Type}{Z:Zf β}{H:Hp}
theorem iL {g:Mo->EU β}(Y:RX X Z.a Z.E) (l:cU v (ED s)) (R:RS Z F b H ((.word (ED s),xp)::t) Kn (F3>>=g)) (q: ∀H' t',RS Z F FB H' t' Kn (g ())->Bd X ss D (EQ (.ref Z.B.r)::σ) H') (hp:ig p2 p4:=by rfl):
  Bd X (.Expr (.Call (.Attribute (.Name "reader" p1) "expect" p2) [.Constant (.str v) j p3] [] p4) p5::ss) D (EQ (.ref Z.B.r)::σ) H:=
 rf Y R (λr e ok=>by
  cases e;exact zS t (by rw[bZ ok l];exact Gr _) (by intro z;cases z) (by intro z;cases z with|inl z=>cases z|inr z=>cases z)) q hp
theorem AH {g:Mo->EU β}(Y:RX X Z.a Z.E) (l:d7 v (ED s)) (R:RS Z F b H ((.sign (ED s),xp)::t) Kn (F3>>=g)) (q: ∀H' t',RS Z F FB H' t' Kn (g ())->Bd X ss D (EQ (.ref Z.B.r)::σ) H') (hp:ig p2 p4:=by rfl):
  Bd X (.Expr (.Call (.Attribute (.Name "reader" p1) "expect" p2) [.Constant (.str v) j p3] [] p4) p5::ss) D (EQ (.ref Z.B.r)::σ) H:=
 rf Y R (λr e ok=>by
  cases e;exact zS t (by rw[cQ ok l];exact Gr _) (by intro z;cases z) (by intro z;cases z with|inl z=>cases z|inr z=>cases z)) q hp
end
theorem aho (T:aU K mg a) (XC:XT K a) (hk:8<=k)
  (G:T.RM.O P w base k (aV a FB Ff 12 (Lv j))):
  T.Wo.O P w base (k+1) (aV a FM F9 6 (LvW (j+1) (ED "sum"))):=by
 refine uC T XC hk T.Wo.F ago λGp A outer s H B t Kn d fuel Q E hr hd ho hf hm=>?_;intro X D Z Y R;obtain⟨hl,h0⟩:=ho;obtain⟨xp,r,rfl⟩:=e7 R h0;obtain⟨f,rfl,hF⟩:=BV hf [01];have c:CB X "read_exp" ["reader","depth"] (aV a FB Ff 12 (Lv j)):=#[G,hr,T.RM.c,FS];have hl:13<=d+1+j:=by rw[Mm];exact hl
 refine yE 2 Y hd (by intro z;cases z) (R.as sS) λlt R=>?_;refine iL Y uG R λH t R=>?_;refine cB Y yB R λH t R=>?_;refine i4 3 Y R λu H t ft R=>?_;refine kP Y X8 R λH t R=>?_;refine eG 4 Y c (pv 2) [05] R (nz λx=>(bf "..").bind) lt hl hF λe1 v1 H t R=>?_;refine cB Y X9 R λH t R=>?_;refine eG 5 Y c (pv 2) [05] R (nz λx=>(bf ":").bind) lt hl hF λe2 v2 H t R=>?_;refine cB Y Ya R λH t R=>?_;refine gG Y (pv 3) [05] ft hm R λH R=>?_;refine eG 6 Y c (pv 2) [05] R (nz λx=>(bf ")").bind) lt hl hF λe3 v3 H t R=>?_;refine ld Y (pv 3) [05] ft R λH R=>?_;refine cB Y uw R λH t R=>?_;refine g9 Y (aay T) (aa (pv 3) (aa (pv 4) (aa (pv 5) (aa (pv 6) ag)))) [05] R rfl λu H i R=>R.done ?_;unfold au;exact#[v1,v2,v3,i,R.f (i:=2) rfl,R.f (i:=1) rfl,R.f (i:=0) rfl]
theorem ahp (T:aU K mg a) (XC:XT K a) (hk:8<=k)
  (G:T.RM.O P w base k (aV a FB Ff 12 (Lv j))):
  T.Wn.O P w base (k+1) (aV a FM F9 6 (LvS (j+1) (ED "("))):=by
 refine uC T XC hk T.Wn.F agn λGp A outer s H B t Kn d fuel Q E hr hd ho hf hm=>?_;intro X D Z Y R;obtain⟨hl,h0⟩:=ho;obtain⟨xp,r,rfl⟩:=xj R h0;obtain⟨f,rfl,hF⟩:=BV hf [01];have c:CB X "read_exp" ["reader","depth"] (aV a FB Ff 12 (Lv j)):=#[G,hr,T.RM.c,FS];have hl:13<=d+1+j:=by rw[Mm];exact hl
 refine yE 2 Y hd (by intro z;cases z) (R.as uf) λlt R=>?_;refine AH Y yB R λH t R=>?_;refine eG 3 Y c (pv 2) [05] R (nz λx=>(bf ")").bind) lt hl hF λe v H t R=>?_;refine cB Y uw R λH t R=>?_;exact aJ (bv 3 (R.done (R.f (i:=0) rfl)))
theorem ahq (T:aU K mg a) (XC:XT K a) (hk:8<=k)
  (G:T.RM.O P w base k (aV a FB Ff 12 (Lv j))):
  T.Wl.O P w base (k+1) (aV a FB Ff 12 (LvW (j+1) (ED "if"))):=by
 refine uC T XC hk T.Wl.F agk λGp A outer s H B t Kn d fuel Q E hr hd ho hf hm=>?_;intro X D Z Y R;obtain⟨hl,h0⟩:=ho;obtain⟨xp,r,rfl⟩:=e7 R h0;obtain⟨f,rfl,hF⟩:=BV hf [01];have c:CB X "read_exp" ["reader","depth"] (aV a FB Ff 12 (Lv j)):=#[G,hr,T.RM.c,FS];have hl:13<=d+1+j:=by rw[Mm];exact hl
 refine yE 2 Y hd (by intro z;cases z) (R.as Dd) λlt R=>?_;refine iL Y vO R λH t R=>?_;refine eG 3 Y c (pv 2) [05] R (nz λx=>(eW "then").bind) lt hl hF λe1 v1 H t R=>?_;refine kP Y DT R λH t R=>?_;refine eG 4 Y c (pv 2) [05] R (nz λx=>(eW "else").bind) lt hl hF λe2 v2 H t R=>?_;refine kP Y qm R λH t R=>?_;have l:t.length+1<=Z.L:=R.l;refine aJ (jw Y (xB T) (aO (bv 3 (aO (bv 4 (aO #[_,Y.call2 c (pv 2) [01] rfl,R.call alg lt hl (by lia) λe3 v3 H t nb R=>cC (R.new rfl λu H i R=>R.done ?_ λ_=>nb)]))))));unfold au;exact#[v1,v2,v3,i,R.f (i:=2) rfl,R.f (i:=1) rfl,R.f (i:=0) rfl]
end OS
namespace OS
open Vbemac
def ors (f d:E1) (Kn:EK):EU ER:=do
 let x<-ands f d Kn
 let l<-moreOr f d Kn
 return (match l with
  | .nil=>x
  |l=> .either x l)
abbrev Pairs:=EA (FJ×Exp)
def uO:Pairs->Exps->Exps
 |[],l=>l
 |x::r,l=> .cons x.2 (uO r l)
def ug:Pairs->Rest->Rest
 |[],l=>l
 |x::r,l=> .cons x.1 x.2 (ug r l)
theorem tD:uO (es++[x]) l=uO es (.cons x.2 l):=by
 induction es with
 |nil=>rfl
 |cons y r ih=>show Exps.cons y.2 (uO (r++[x]) l)=_;rw[ih];rfl
theorem r6:ug (es++[x]) l=ug es (.cons x.1 x.2 l):=by
 induction es with
 |nil=>rfl
 |cons y r ih=>show Rest.cons y.1 y.2 (ug (r++[x]) l)=_;rw[ih];rfl
theorem bG {α β:Type}{p:P α}{g:α->P β}{x:α}(h:p t= .ok (x,r)):(p>>=g) t=g x r:=by
 show Fi p g t=_
 unfold Fi;rw[h]
 rfl
theorem ka {α β:Type}{p q:P α}{g:α->P β}(e:p t=q t'):(p>>=g) t=(q>>=g) t':=by
 show Fi p g t=Fi q g t'
 unfold Fi;rw[e]
structure ChP (p sub:E1->E1->Known->P Exp) (c c':E1) (sg:EA FJ) (once:FR) (res:Exp->Pairs->Exp) where
 q:E1->E1->Known->Exp->Pairs->P Exp
 start: ∀ {fuel d:E1}{Kn:Known}{n:E1},16*n+c<=fuel-> ∃f,16*n+c'<=f/\p fuel d Kn=(sub f d Kn>>=λe=>q f d Kn e [])
 ON: ∀f d Kn e es,gZ (q f d Kn e es)
 stop: ∀ {f d:E1}{Kn:Known}{e:Exp}{es:Pairs}{t:L9},1<=f->(once=FB->es.length<=1)->(once=FB/\es≠[]\/ ∀op,peek t= .sign op->op∉sg)->q f d Kn e es t= .ok (res e es,t)
 go: ∀ {f d:E1}{Kn:Known}{e:Exp}{es:Pairs}{x:Tok×Pos}{t:L9}{op:FJ},16*(t.length+1)+c'<=f->(once=FB->es=[])->x.1= .sign op->op∈sg-> ∃f',16*t.length+c'<=f'/\q f d Kn e es (x::t)=(sub f' d Kn>>=λe2=>q f' d Kn e (es++[(op,e2)])) t
def Ep (e:Exp):Exps->Exp
 | .nil=>e
 |l=> .either e l
def bth (e:Exp):Exps->Exp
 | .nil=>e
 |l=> .both e l
def sms (e:Exp):Rest->Exp
 | .nil=>e
 |l=> .sums e l
def oG (e:Exp):Rest->Exp
 | .nil=>e
 |l=> .prods e l
def S0:EA FJ:=[text "||"]
def S1:EA FJ:=[text "&&"]
def S2:EA FJ:=["==","!=","<=",">=","<",">"].map text
def S3:EA FJ:=["+","-"].map text
def S4:EA FJ:=["*","/","%"].map text
theorem aaR {f d:E1}{Kn:Known} :ors f d Kn=(ands f d Kn>>=λx=>moreOr f d Kn>>=λl=>pure (Ep x l):P Exp):=by
 unfold ors
 congr 1
theorem D0 {f d:E1}{Kn:Known} :ands (f+1) d Kn=(compared f d Kn>>=λx=>moreAnd f d Kn>>=λl=>pure (bth x l):P Exp):=by
 rw[ands]
 congr 1
theorem Ct {f d:E1}{Kn:Known} :added (f+1) d Kn=(times f d Kn>>=λx=>moreAdded f d Kn>>=λl=>pure (sms x l):P Exp):=by
 rw[added]
 congr 1
theorem A9 {f d:E1}{Kn:Known} :times (f+1) d Kn=(unary f d Kn>>=λx=>moreTimes f d Kn>>=λl=>pure (oG x l):P Exp):=by
 rw[times]
 congr 1
theorem oo {t:L9}{s:String}{l:EA FJ}(h: ∀op,peek t= .sign op->op∉l) (m:text s∈l):Ll t s=FM:=by
 unfold Ll;rw[beq_eq_false_iff_ne];exact λz=>h _ z m
theorem jC (h: ∀op,peek t= .sign op->op∉l.map text):KW l t= .ok (Fa,t):=by
 unfold KW;cases e:peek t with
 |sign s=>
  dsimp only;rw[EI (by rw[FK];exact h s e)]
 |_=>rfl
theorem lh (e:x.1= .sign op) (h:op∈l.map text):KW l (x::t)= .ok (EQ op,t):=by
 unfold KW;have e:peek (x::t)= .sign op:=e;rw[e];dsimp only;rw[EL (by rw[FK];exact h)]
 rfl
theorem ux {f d:E1}{Kn:Known}{t:L9}(h:Ll t "||"=FM):moreOr (f+1) d Kn t= .ok (.nil,t):=by
 rw[moreOr];show(Fi (ifSign "||") _) t=_;unfold Fi ifSign;rw[h]
 rfl
theorem sH {f d:E1}{Kn:Known}{t:L9}(h:Ll t "&&"=FM):moreAnd (f+1) d Kn t= .ok (.nil,t):=by
 rw[moreAnd];show(Fi (ifSign "&&") _) t=_;unfold Fi ifSign;rw[h]
 rfl
theorem yb {f d:E1}{Kn:Known}{x:Tok×Pos}{t:L9}(h:Ll (x::t) "||"=FB):moreOr (f+1) d Kn (x::t)=(ands f d Kn>>=λa=>moreOr f d Kn>>=λl=>pure (.cons a l):P Exps) t:=by
 rw[moreOr];show(Fi (ifSign "||") _) (x::t)=_;unfold Fi ifSign;rw[h]
 rfl
theorem uR {f d:E1}{Kn:Known}{x:Tok×Pos}{t:L9}(h:Ll (x::t) "&&"=FB):moreAnd (f+1) d Kn (x::t)=(compared f d Kn>>=λa=>moreAnd f d Kn>>=λl=>pure (.cons a l):P Exps) t:=by
 rw[moreAnd];show(Fi (ifSign "&&") _) (x::t)=_;unfold Fi ifSign;rw[h]
 rfl
theorem o0 {f d:E1}{Kn:Known}{t:L9}(h: ∀op,peek t= .sign op->op∉S3):moreAdded (f+1) d Kn t= .ok (.nil,t):=by
 rw[moreAdded];show(Fi (KW ["+","-"]) _) t=_;unfold Fi;rw[jC h]
 rfl
theorem oQ {f d:E1}{Kn:Known}{t:L9}(h: ∀op,peek t= .sign op->op∉S4):moreTimes (f+1) d Kn t= .ok (.nil,t):=by
 rw[moreTimes];show(Fi (KW ["*","/","%"]) _) t=_;unfold Fi;rw[jC h]
 rfl
theorem qk {f d:E1}{Kn:Known}{x:Tok×Pos}{t:L9}{op:FJ}(e:x.1= .sign op) (h:op∈S3):moreAdded (f+1) d Kn (x::t)=(times f d Kn>>=λa=>moreAdded f d Kn>>=λl=>pure (.cons op a l):P Rest) t:=by
 rw[moreAdded];show(Fi (KW ["+","-"]) _) (x::t)=_;unfold Fi;rw[lh e h]
 rfl
theorem qZ {f d:E1}{Kn:Known}{x:Tok×Pos}{t:L9}{op:FJ}(e:x.1= .sign op) (h:op∈S4):moreTimes (f+1) d Kn (x::t)=(unary f d Kn>>=λa=>moreTimes f d Kn>>=λl=>pure (.cons op a l):P Rest) t:=by
 rw[moreTimes];show(Fi (KW ["*","/","%"]) _) (x::t)=_;unfold Fi;rw[lh e h]
 rfl
def n9 (f d:E1) (Kn:Known) (a:Exp):P Exp:=KW ["==","!=","<=",">=","<",">"]>>=λs=>match s with
 |none=>pure a
 |some op=>added f d Kn>>=λb=>pure (.cmp op a b)
theorem tQ {f d:E1}{Kn:Known} :compared (f+1) d Kn=(added f d Kn>>=λx=>n9 f d Kn x:P Exp):=by
 rw[compared]
 rfl
theorem uk (f d:E1) (Kn:Known) (a:Exp):gZ (n9 f d Kn a):=(so _).bind λs=>by
 cases s with
 |none=>exact fK _
 |some op=>exact(ki f d Kn).bind.ON
theorem xC {f d:E1}{Kn:Known}{a:Exp}{t:L9}(h: ∀op,peek t= .sign op->op∉S2):n9 f d Kn a t= .ok (a,t):=by
 unfold n9;show(Fi (KW ["==","!=","<=",">=","<",">"]) _) t=_;unfold Fi;rw[jC h]
 rfl
theorem AE {f d:E1}{Kn:Known}{a:Exp}{x:Tok×Pos}{t:L9}{op:FJ}(e:x.1= .sign op) (h:op∈S2):n9 f d Kn a (x::t)=(added f d Kn>>=λb=>pure (.cmp op a b):P Exp) t:=by
 unfold n9;show(Fi (KW ["==","!=","<=",">=","<",">"]) _) (x::t)=_;unfold Fi;rw[lh e h]
 rfl
theorem wN {x:Tok×Pos}{t:L9}{op:FJ}{s:String}(e:x.1= .sign op) (h:op∈[text s]):Ll (x::t) s=FB:=by
 unfold Ll;obtain rfl:=Fd.mp h;exact beq_iff_eq.mpr e
def alh:ChP ors ands 11 11 S0 FM (λe es=>Ep e (uO es .nil)) where
 q f d Kn e es:=moreOr f d Kn>>=λl=>pure (Ep e (uO es l))
 start {fuel d Kn n} hf:=#[fuel,by lia,by rw[aaR];rfl]
 ON f d Kn e es:=(sG f d Kn).bind λl=>fK _
 stop {f d Kn e es t} hf _ h:=by
  obtain⟨f,rfl⟩: ∃f',f=f'+1:=#[f-1,by lia];rcases h with⟨h,_⟩|h
  ·cases h
  ·exact bG (ux (oo h (Fd.mpr rfl)))
 go {f d Kn e es x t op} hf _ e1 h:=by
  obtain⟨f,rfl⟩: ∃f',f=f'+1:=#[f-1,by lia];refine#[f,by lia,?_];rw[ka (yb (wN e1 h)),bind_assoc];refine FN (λg=>(ands f d Kn>>=g:P Exp) t) (funext λa=>?_);rw[bind_assoc];simp only[tD]
  rfl
def ahr:ChP ands compared 11 10 S1 FM (λe es=>bth e (uO es .nil)) where
 q f d Kn e es:=moreAnd f d Kn>>=λl=>pure (bth e (uO es l))
 start {fuel d Kn n} hf:=by
  obtain⟨f,rfl⟩: ∃f',fuel=f'+1:=#[fuel-1,by lia];exact#[f,by lia,by rw[D0];rfl]
 ON f d Kn e es:=(qG f d Kn).bind λl=>fK _
 stop {f d Kn e es t} hf _ h:=by
  obtain⟨f,rfl⟩: ∃f',f=f'+1:=#[f-1,by lia];rcases h with⟨h,_⟩|h
  ·cases h
  ·exact bG (sH (oo h (Fd.mpr rfl)))
 go {f d Kn e es x t op} hf _ e1 h:=by
  obtain⟨f,rfl⟩: ∃f',f=f'+1:=#[f-1,by lia];refine#[f,by lia,?_];rw[ka (uR (wN e1 h)),bind_assoc];refine FN (λg=>(compared f d Kn>>=g:P Exp) t) (funext λa=>?_);rw[bind_assoc];simp only[tD]
  rfl
def ahs:ChP added times 9 8 S3 FM (λe es=>sms e (ug es .nil)) where
 q f d Kn e es:=moreAdded f d Kn>>=λl=>pure (sms e (ug es l))
 start {fuel d Kn n} hf:=by
  obtain⟨f,rfl⟩: ∃f',fuel=f'+1:=#[fuel-1,by lia];exact#[f,by lia,by rw[Ct];rfl]
 ON f d Kn e es:=(mJ f d Kn).bind λl=>fK _
 stop {f d Kn e es t} hf _ h:=by
  obtain⟨f,rfl⟩: ∃f',f=f'+1:=#[f-1,by lia];rcases h with⟨h,_⟩|h
  ·cases h
  ·exact bG (o0 h)
 go {f d Kn e es x t op} hf _ e1 h:=by
  obtain⟨f,rfl⟩: ∃f',f=f'+1:=#[f-1,by lia];refine#[f,by lia,?_];rw[ka (qk e1 h),bind_assoc];refine FN (λg=>(times f d Kn>>=g:P Exp) t) (funext λa=>?_);rw[bind_assoc];simp only[r6]
  rfl
def aht:ChP times unary 8 7 S4 FM (λe es=>oG e (ug es .nil)) where
 q f d Kn e es:=moreTimes f d Kn>>=λl=>pure (oG e (ug es l))
 start {fuel d Kn n} hf:=by
  obtain⟨f,rfl⟩: ∃f',fuel=f'+1:=#[fuel-1,by lia];exact#[f,by lia,by rw[A9];rfl]
 ON f d Kn e es:=(nU f d Kn).bind λl=>fK _
 stop {f d Kn e es t} hf _ h:=by
  obtain⟨f,rfl⟩: ∃f',f=f'+1:=#[f-1,by lia];rcases h with⟨h,_⟩|h
  ·cases h
  ·exact bG (oQ h)
 go {f d Kn e es x t op} hf _ e1 h:=by
  obtain⟨f,rfl⟩: ∃f',f=f'+1:=#[f-1,by lia];refine#[f,by lia,?_];rw[ka (qZ e1 h),bind_assoc];refine FN (λg=>(unary f d Kn>>=g:P Exp) t) (funext λa=>?_);rw[bind_assoc];simp only[r6]
  rfl
def ahu (e:Exp):Pairs->Exp
 |[]=>e
 |x::_=> .cmp x.1 e x.2
def ali (f d:E1) (Kn:Known) (e:Exp):Pairs->P Exp
 |[]=>n9 f d Kn e
 |x::_=>pure (.cmp x.1 e x.2)
def ahv:ChP compared added 10 9 S2 FB ahu where
 q:=ali
 start {fuel d Kn n} hf:=by
  obtain⟨f,rfl⟩: ∃f',fuel=f'+1:=#[fuel-1,by lia];exact#[f,by lia,by rw[tQ];rfl]
 ON f d Kn e es:=by
  cases es with
  |nil=>exact uk f d Kn e
  |cons x r=>exact fK _
 stop {f d Kn e es t} hf _ h:=by
  cases es with
  |nil=>
   rcases h with⟨_,h⟩|h
   ·exact E7 rfl h
   ·exact xC h
  |cons x r=>rfl
 go {f d Kn e es x t op} hf h0 e1 h:=by
  obtain rfl:=h0 rfl;exact#[f,by lia,AE e1 h]
end OS
namespace OS
open PySem PySem.Spec L2
open PyProof.Rows hiding St
variable {P:Fz}{w:Ga}{K:EF}{mg:Fh->ET EH}{base:Gn}{a:be}
theorem Yb {u:EC}{xp:FT} : ¬js (.word u,xp):=by intro z;cases z with|inl z=>cases z|inr z=>cases z
theorem nfS {u:EC}{xp:FT} : ¬js (.sign u,xp):=by intro z;cases z with|inl z=>cases z|inr z=>cases z
theorem nfN {xp:FT} : ¬js (.num m,xp):=by intro z;cases z with|inl z=>cases z|inr z=>cases z
theorem sR (h:lK x=FB): ∃m,x= .num m:=by
 cases x with
 |num m=>exact#[m,FS]
 |_=>cases h
theorem gD (h:cN x=FB): ∃u,x= .word u/\FZ.contains u=FM:=by
 cases x with
 |word u=>rw[dB] at h;exact#[u,FS,by cases e:FZ.contains u;rfl;rw[e] at h;cases h]
 |_=>cases h
theorem Bw {A:Type} [BEq A] [LawfulBEq A] {x y:A}(h:(x == y)=FM):x≠y:=beq_eq_false_iff_ne.mp h
theorem tS:F9 (f+1) d Kn ((.num m,xp)::t)=(F3>>=λ_=>pure (.num m):EU ER) ((.num m,xp)::t):=by rw[F9];rfl
theorem uu (h0:lK x=FM) (h1:x≠ .sign (ED "(")) (h2:x≠ .word (ED "sum")) (h3:cN x=FM):F9 (f+1) d Kn ((x,xp)::t)=E9 2 ((x,xp)::t):=by
 rw[F9];cases x with
 |num m=>cases h0
 |sign u=>
  show(if FD ((.sign u,xp)::t) "("=FB then _ else E9 2 ((.sign u,xp)::t))=_
  rw[EI (show¬FD ((.sign u,xp)::t) "("=FB from λz=>h1 (beq_iff_eq.mp z))]
 |word u=>
  rw[dB] at h3;show(if u=ED "sum" then _ else if FZ.contains u=FB then _ else _)=_
  rw[EI λz=>h2 (by rw[z]),EL (by cases e:FZ.contains u;rw[e] at h3;cases h3;rfl)]
 |eof=>rfl
 |bad=>rfl
theorem qf (ns:GV u≠ .word (ED "sum")) (hk:FZ.contains u=FM) (hf:(Kn.funs.find? λf=>f.1 == u).isSome=FM):F9 (f+1) d Kn ((.word u,xp)::t)=if Kn.values.contains u=FB then .ok (.name u,t) else E9 3 ((.word u,xp)::t):=by
 rw[F9];show(if u=ED "sum" then _ else if FZ.contains u=FB then _ else _)=_
 rw[EI λz=>ns (by rw[z]),EI (by rw[hk];exact EE),ET.isSome_eq_false_iff.mp hf |> ET.isNone_iff_eq_none.mp]
 rfl
theorem ahw (T:aU K mg a) (XC:XT K a) (hk:8<=k)
  (G1:T.Wn.O P w base k (aV a FM F9 6 (LvS j (ED "("))))
  (G2:T.Wo.O P w base k (aV a FM F9 6 (LvW j (ED "sum"))))
  (G3:T.d_V.O P w base k (aV a FM F9 6 (LvC j))):
  T.Wm.O P w base (k+1) (aV a FM F9 6 (Lv j)):=by
 refine uC T XC hk T.Wm.F agm λGp A outer s H B t Kn d fuel Q E hr hd hl hf hm=>?_;intro X D Z Y R;obtain⟨⟨x,xp⟩,r,rfl⟩:=R.cons;have tok:f7 x:=R.tok;have st:=iM fuel (12-d) Kn;refine bE (dv (X7 Y T.Za.c (qt T XC) [01] (λ_=>rfl) R st λnb=>#[_,FS,aP (λe=>?_) λe0=>?_]))
 ·obtain⟨m,rfl⟩:=sR e
  obtain⟨f,rfl,_⟩:=BV hf [01];exact aJ (jw Y (xQ T) (aO (iA Y (R.as tS) nfN λH R=>cC (R.new rfl λu H i R=>R.done (by unfold au;exact i)))))
 refine bE (dv (iV Y R nb #[_,FS,aP (λe=>?_) λe1=>?_]))
 ·obtain rfl:x=_:=beq_iff_eq.mp ((cQ tok yB).symm.trans e)
  exact aJ #[_,Y.call2 #[G1,hr,T.Wn.c,FS] (pv 1) [01] rfl,R.tail hd #[hl,FS] hf]
 refine bE (dv (iV Y R nb #[_,FS,aP (λe=>?_) λe2=>?_]))
 ·obtain rfl:x=_:=beq_iff_eq.mp ((bZ tok uG).symm.trans e)
  exact aJ #[_,Y.call2 #[G2,hr,T.Wo.c,FS] (pv 1) [01] rfl,R.tail hd #[hl,FS] hf]
 have h1:=Bw ((cQ tok yB).symm.trans e1)
 have h2:=Bw ((bZ tok uG).symm.trans e2);obtain⟨f,rfl,_⟩:=BV hf [01];refine bA (p_g Y R st (λ_ e=>uu e0 h1 h2 e) λ_ e=>?_)
 obtain⟨u,rfl,hu⟩:=gD e;refine aN 2 Y.nd (ahm Y R st λ_=>?_);refine bE (aaP Y R (pv 2) [05] (aP (λe=>?_) λe3=>?_))
 ·obtain⟨g,hg⟩:=Ka.mp e
  exact aJ #[_,Y.call2 #[G3,hr,T.d_V.c,FS] (pv 1) [01] rfl,R.tail hd #[hl,u,g,FS,λz=>h2 (by rw[z]),hu,hg] hf]
 have ep:=qf (f:=f) (d:=12-d) (xp:=xp) (t:=r) h2 hu e3;refine bE (aaQ Y R (pv 2) [05] (aP (λe=>?_) λe4=>?_))
 ·refine bA (qU Y (aR (by rfl) T.PF) R nb ?_)
  rw[U8] at e;rw[ep,e]
  rfl
 ·refine aJ (jw Y (Dr T) (aO (iA Y (R.as (p':=F3>>=λ_=>pure (.name u)) ?_) Yb λH R=>cC (R.new rfl λu H i R=>R.done (by unfold au;exact i)))))
  rw[OP] at e4;rw[ep,e4]
  rfl
theorem alj:d7 "-" (ED "-"):=#[by decide+kernel,by decide+kernel]
theorem alk:d7 "!" (ED "!"):=#[by decide+kernel,by decide+kernel]
theorem dZ {t:EG} :FD (x::t) s=(x.1 == .sign (ED s)):=rfl
theorem yR {f d:E1}{Kn:EK}{xp:FT}{t:EG} :Gj (f+1) d Kn ((.sign (ED "!"),xp)::t)=
  (GS d>>=λe=>F3>>=λ_=>Gj f e Kn>>=λx=>pure (.not x):EU ER) ((.sign (ED "!"),xp)::t):=by
 rw[Gj];show(if FD ((.sign (ED "!"),xp)::t) "-"=FB then _ else if FD ((.sign (ED "!"),xp)::t) "!"=FB then _ else _)=_
 rw[EI (by rw[dZ];show¬(Iu (ED "!") == .sign (ED "-"))=FB;decide+kernel),EL (by rw[dZ];exact Gr _)]
theorem xP {f d:E1}{Kn:EK}{xp:FT}{t:EG}(h: ∀m,E4 t≠ .num m):Gj (f+1) d Kn ((.sign (ED "-"),xp)::t)=
  (GS d>>=λe=>F3>>=λ_=>Gj f e Kn>>=λx=>pure (.neg x):EU ER) ((.sign (ED "-"),xp)::t):=by
 rw[Gj];show(if FD ((.sign (ED "-"),xp)::t) "-"=FB then(match E4 t with
   | .num n=>_
   |_=>_) else _)=_
 rw[EL (by rw[dZ];exact Gr _)];cases e:E4 t with
 |num m=>exact E7 e (h m)
 |_=>rfl
theorem xI {f d m:E1}{Kn:EK}{xp:FT}{t:EG}(h:E4 t= .num m):Gj (f+1) d Kn ((.sign (ED "-"),xp)::t)= .ok (.neg (.num m),t.drop 1):=by
 rw[Gj];show(if FD ((.sign (ED "-"),xp)::t) "-"=FB then(match E4 t with
   | .num n=>_
   |_=>_) else _)=_
 rw[EL (by rw[dZ];exact Gr _),h]
 rfl
theorem mW {f d:E1}{Kn:EK}{t:EG}(h1:(x.1 == .sign (ED "-"))=FM) (h2:(x.1 == .sign (ED "!"))=FM):Gj (f+1) d Kn (x::t)=F9 f d Kn (x::t):=by
 rw[Gj];show(if FD (x::t) "-"=FB then _ else if FD (x::t) "!"=FB then _ else _)=_
 rw[EI (by rw[dZ,h1];exact EE),EI (by rw[dZ,h2];exact EE)]
theorem D7 {f d m:E1}{Kn:EK}{xp:FT}{t:EG} :Gj (f+2) d Kn ((.num m,xp)::t)= .ok (.num m,t):=by
 rw[mW rfl rfl,F9]
 rfl
theorem uA {f d m:E1}{Kn:EK}{xp:FT}{t:EG}(hf:2<=f) (w:t≠[]) (h:E4 t= .num m):Gj (f+1) d Kn ((.sign (ED "-"),xp)::t)=(F3>>=λ_=>Gj f d Kn>>=λx=>pure (.neg x):EU ER) ((.sign (ED "-"),xp)::t):=by
 rw[xI h];obtain⟨g,rfl⟩: ∃g,f=g+2:=#[f-2,by lia];cases t with
 |nil=>exact E7 rfl w
 |cons y r=>
  obtain⟨y,yp⟩:=y;obtain rfl:y= .num m:=h;show _=(Gj (g+2) d Kn>>=λx=>pure (.neg x):EU ER) ((.num m,yp)::r)
  rw[bG D7]
  rfl
theorem gy (okT okC:E1->EK->EG->Prop) (T:aU K mg a) (XC:XT K a) (hk:8<=k)
  (h0: ∀d Kn t,okT d Kn t->13<=d+j) (h1: ∀d Kn s xp t,okT d Kn ((.sign s,xp)::t)->d<12->okC (d+1) Kn t) (h2: ∀d Kn s xp t m,okT d Kn ((.sign s,xp)::t)->E4 t= .num m->okC d Kn t)
  (G1:T.Wm.O P w base k (aV a FM F9 6 (Lv j)))
  (G2:T.VX.O P w base k (aV a FM Gj 7 okC)):
  T.VX.O P w base (k+1) (aV a FM Gj 7 okT):=by
 refine uC T XC hk T.VX.F aak λGp A outer s H B t Kn d fuel Q E hr hd ho hf hm=>?_;intro X D Z Y R;obtain⟨⟨x,xp⟩,r,rfl⟩:=R.cons;have tok:f7 x:=R.tok;have st:=kj fuel (12-d) Kn;have vm:=cQ tok alj;have vn:=cQ tok alk;obtain⟨f,rfl⟩: ∃f,fuel=f+1:=#[fuel-1,by lia];rw[EZ] at hf;have tail: ∀(c:EC) (d2:E1) (mk:ER->ER),x= .sign c->(∀ {H:Hp}{e:ER}{u v:V},bD (eQ B) H a.Ke [("sign",ie (.sign c)),("operand",u)] v->au a (eQ B) H e u->au a (eQ B) H (mk e) v)->d2<=12->okC d2 Kn r->
   RS Z [] FM H ((x,xp)::r) Kn (F3>>=λ_=>Gj f (12-d2) Kn>>=λy=>pure (mk y))->Bd X ((a8 s_l).drop 3) D [EQ (.ref B.r),EQ (.int d),EQ (.int d2),Fa] H:=by
  intro c d2 mk ex hmk hd2 hC R;subst ex;refine aN 3 Y.nd (iA Y R nfS λH R=>?_);exact aJ (jw Y (BF T) (aO (bv 3 (aO #[_,Y.call2 #[G2,hr,T.VX.c,FS] (pv 2) [01] rfl,R.ahn hd2 hC (by lia) λe v H t R=>cC (R.new rfl λu H i R=>R.done (hmk i (R.f (i:=0) rfl)))]))))
 refine bE (CL (jm (dv (io Y R st λnb=>#[_,FS,?_]))));have vm:lU "-" (E4 ((x,xp)::r))=_:=vm;have vn:lU "!" (E4 ((x,xp)::r))=_:=vn;rw[vm];cases em:(x == Iu (ED "-")) with
 |true=>
  obtain rfl:x=_:=beq_iff_eq.mp em;refine bK (bK ?_);refine aN 2 Y.nd (bv 1 ?_);refine bE (afh (dv (iV Y R nb #[_,FS,?_])));rw[vn];refine bK (jm (dv (aaO Y R nfS #[_,FS,?_])));cases ey:lK (E4 r) with
  |true=>
   obtain⟨m,e⟩:=sR ey;refine bK (tail _ d _ rfl (λi h=>by unfold au;exact#[_,i,h]) hd (h2 _ _ _ _ _ m ho e) (R.as (uA (by lia) (λz=>by rw[z] at e;cases e) e)))
  |false=>
   refine cg (yE 2 Y hd (by intro z;cases z) (R.as (xP λm z=>by rw[z] at ey;cases ey)) λlt R=>vv ?_);exact tail _ (d+1) _ rfl (λi h=>by unfold au;exact#[_,i,h]) lt (h1 _ _ _ _ _ ho lt) R
 |false=>
  refine cg (jm (dv (iV Y R nb #[_,FS,?_])));rw[vn];cases en:(x == Iu (ED "!")) with
  |true=>
   obtain rfl:x=_:=beq_iff_eq.mp en;refine bK ?_;refine aN 2 Y.nd (bv 1 ?_);refine bE (afh (dv (iV Y R nb #[_,FS,?_])));rw[vn,en];refine cg (cg (yE 2 Y hd (by intro z;cases z) (R.as yR) λlt R=>vv ?_));exact tail _ (d+1) _ rfl (λi h=>by unfold au;exact#[_,i,h]) lt (h1 _ _ _ _ _ ho lt) R
  |false=>exact cg (aJ #[_,Y.call2 #[G1,hr,T.Wm.c,FS] (pv 1) (by decide) rfl,RS.tail (R.as (mW em en)) hd (h0 _ _ _ ho) (by rw[EZ];lia)])
def Zf.mo {β:Type}(Z:Zf β) (L:EJ) (us:EA V):Zf β:= { Z with B:=Z.B.more L us }
theorem db.wide {M M':EJ->Prop}{H H':Hp}(k:db M H H') (h: ∀b,M b->M' b):db M' H H':=λb o e m=>k b o e λz=>m (h b z)
section
variable {β:Type}{Z:Zf β}{H:Hp}{p:EU β}{Q:VK}
structure uN (Z:Zf β) (L:EJ):Prop where
 n0:Z.H0 L=Fa
 nm: ¬eQ Z.B L
 nx: ∀zs,¬Z.B.bl.x L zs
 nq:L≠Z.B.q
theorem RS.nwl (R:RS Z F b H t Kn p) (h:H L=Fa):uN Z L:=by
 obtain⟨n,S⟩:=R.S;have nm:=S.fresh h;refine#[?_,nm,λzs z=>(by rw[S.fr L zs z] at h;cases h),λz=>(by obtain⟨as,all,h1,_⟩:=S.rd.toks;rw[z,h1] at h;cases h)];cases e:Z.H0 L with
 |none=>rfl
 |some o=>rw[R.k L o e nm] at h;cases h
theorem RS.more {us:EA V}(R:RS Z F b H t Kn p) (h:H L=Fa):RS (Z.mo L us) F b (aF H L (.lst us)) t Kn p:=by
 obtain⟨n,S⟩:=R.S;have N:=R.nwl h;have sm:a9 H (aF H L (.lst us)):=b3 h;refine#[#[n,(S.same sm).more ae],(R.k.trans (OS.a9.keeps sm)).wide λb=>cr,λe=>jc.Hj (λb o e m=>#[λz=>(c9 z).elim (λz=>by rw[z,h] at e;cases e) m,sm b o e]) (R.f e),R.l,R.w.mono (λ_ _ z=>z) λ_ _ z H' k=>z H' λb o e m=>k b o e λz=>(c9 z).elim (λz=>by rw[z,N.n0] at e;cases e) m]
theorem RS.P0 (R:RS (Z.mo L us) F b H t Kn p):H L=EQ (.lst us):=by
 obtain⟨n,S⟩:=R.S;exact S.P0
theorem RS.push {v:V}(N:uN Z L) (R:RS (Z.mo L us) F b H t Kn p):RS (Z.mo L (us++[v])) F b (aF H L (.lst (us++[v]))) t Kn p:=by
 obtain⟨n,S⟩:=R.S;have mm: ∀c,eQ (Z.B.more L us) c->eQ (Z.B.more L (us++[v])) c:=λc h=>(c9 h).elim (λz=>by rw[z];exact e8) λz=>cr z;have mm': ∀c,eQ (Z.B.more L (us++[v])) c->eQ (Z.B.more L us) c:=λc h=>(c9 h).elim (λz=>by rw[z];exact e8) λz=>cr z;refine#[#[n,S.write N.nx N.nq],(R.k.wide mm).trans (eR e8),λe=>jc.Hj (λc o e m=>#[λz=>m (mm' c z),by rw[ac λz=>m (by rw[z];exact e8)];exact e]) (R.f e),R.l,R.w.mono (λ_ _ z=>z) λ_ _ z H' k=>z H' (k.wide mm')]
theorem RS.less (N:uN Z L) (R:RS (Z.mo L us) F b H t Kn p):RS Z F b H t Kn p:=by
 obtain⟨n,S⟩:=R.S;refine#[#[n,S.less],λb o e m=>R.k b o e λz=>(c9 z).elim (λz=>by rw[z,N.n0] at e;cases e) m,λe=>jc.Hj (λb o e m=>#[λz=>m (cr z),e]) (R.f e),R.l,R.w.mono (λ_ _ z=>z) λ_ _ z H' k=>z H' (k.wide λb=>cr)]
theorem uN.mo (N:uN Z L') (ne:L'≠L):uN (Z.mo L us) L':=#[N.n0,λz=>(c9 z).elim ne N.nm,λzs z=>z.elim (N.nx zs) λz=>ne z.1,N.nq]
theorem RS.swap (R:RS ((Z.mo L us).mo L' VG) F b H t Kn p):RS ((Z.mo L' VG).mo L us) F b H t Kn p:=by
 obtain⟨n,S⟩:=R.S;have m1: ∀c,eQ ((Z.B.more L us).more L' VG) c->eQ ((Z.B.more L' VG).more L us) c:=λc h=>(c9 h).elim (λz=>by rw[z];exact cr e8) λz=>(c9 z).elim (λz=>by rw[z];exact e8) λz=>cr (cr z);have m2: ∀c,eQ ((Z.B.more L' VG).more L us) c->eQ ((Z.B.more L us).more L' VG) c:=λc h=>(c9 h).elim (λz=>by rw[z];exact cr e8) λz=>(c9 z).elim (λz=>by rw[z];exact e8) λz=>cr (cr z);exact#[#[n,S.rd,S.wh,S.kn,S.R8,S.RB,S.O8,λc zs z=>S.fr c zs (z.elim (λz=>z.elim (λz=> .inl (.inl z)) .inr) λz=> .inl (.inr z))],R.k.wide m1,λe=>jc.Hj (λc o e m=>#[λz=>m (m2 c z),e]) (R.f e),R.l,R.w.mono (λ_ _ z=>z) λ_ _ z H' k=>z H' (k.wide m2)]
theorem l8 (i:E1) (Y:RX X Z.a Z.E) (R:RS Z F b H t Kn p) (q: ∀L H',uN Z L->RS (Z.mo L []) F b H' t Kn p->Bd X ss D (σ.set i (EQ (.ref L))) H') (h:Sl X i y:=by exact#[FS,Gx rfl,FS]):Bd X (.Assign [.Name y p0] (.List [] p1) p5::ss) D σ H:=
 aN i Y.nd (mq λL h=>q L _ (R.nwl h) (R.more h)) h
theorem qY {te:TE}(N:uN Z L) (R:RS (Z.mo L us) F b H t Kn p) (he:PE X e te) (hv: ∀R:VK,R (.ref L) H->te σ H R) (q:Pe X f σ H λv H1=> ∃F' b' t' WQ p',us.length<FE/\RS (Z.mo L us) F' b' H1 t' WQ p'/\(∀H2,RS (Z.mo L (us++[v])) F' b' H2 t' WQ p'->Bd X ss D σ H2))
  (hb:HM e "append" X.env (eval e X.env)=eval e X.env:=by rfl) (JS:Fb [f] X.env=[(FM,eval f X.env)]:=by rfl) (hp:ig p2 p4:=by rfl):
  Bd X (.Expr (.Call (.Attribute e "append" p2) [f] [] p4) p5::ss) D σ H:=by
 refine ik he hv R.P0 (q.mono λv H1 z=>?_) hb JS hp;obtain⟨F',b',t',WQ,p',h1,R',h2⟩:=z;exact#[us,R'.P0,h1,h2 _ (R'.push N)]
theorem kI (Y:RX X Z.a Z.E) (R:RS Z F b H t Kn p) (lit:d7 v (ED s)) (st:aI p) (h:FD t s=FB->p t=E9 5 t) (q:FD t s=FM->Bd X ss D (EQ (.ref Z.B.r)::σ) H) (hg:Gl X "refuse_here":=by rfl):
  Bd X (.Expr (.Call (.Name "refuse_here" p1) [.Name "reader" p2, .Constant (.str v) j p3] [] p4) p5::ss) D (EQ (.ref Z.B.r)::σ) H:=by
 obtain⟨n,S⟩:=R.S;obtain⟨x,t',rfl,tok,Ql,Ma,_⟩:=S.wh.first;refine bA #[_,aL (agO Y.T Y.C) (Y.hr.mono [01]) hg Y.T.Zi.c Y.up (aa Y.rd (aa dG ag)),Z.B.r,Z.B.q,Z.B.kd,Z.B.fn,Z.B.ds,Z.B.bl,n,x,t',v,FS,S.rd,λb=>st.K6 (Ql.trans b) R.w H R.k,λnb e=>?_,λnb e=>?_]
 ·rw[cQ tok lit] at e
  exact fF (h e) nb R.w H R.k
 ·rw[cQ tok lit] at e
  exact q e
end
end OS
namespace OS
open Vbemac
def cE (f e:E1) (K:Known) (m:E1):P Exps:=λu=>
 if m=0 then(if Ll u ","=FB then fail 5 u else(sign ")">>=λ_=>pure .nil:P Exps) u)
 else(if Ll u ")"=FB then fail 5 u else(sign ",">>=λ_=>arguments f e K m:P Exps) u)
def vZ:EA Exp->Exps->Exps
 |[],l=>l
 |e::r,l=> .cons e (vZ r l)
theorem rV {es:EA Exp}{x:Exp}{l:Exps} :vZ (es++[x]) l=vZ es (.cons x l):=by
 induction es with
 |nil=>rfl
 |cons y r ih=>show Exps.cons y (vZ (r++[x]) l)=_;rw[ih];rfl
theorem dN (f e:E1) (K:Known) (m:E1):aI (cE f e K m):=λt h=>by
 unfold cE;rw[cX h,cX h];by_cases c:m=0
 ·rw[EL c,EI EE]
  exact(bf ")").bind t h
 ·rw[EI c,EI EE]
  exact(bf ",").bind t h
theorem qH {f d:E1}{Kn:Known}{u:FJ}{xp:Pos}{t:L9}{g:FJ×E1}(hs:u≠text "sum") (hk:KEYS.contains u=FM) (hf:Kn.funs.find? (λf=>f.1 == u)=EQ g):
  primary (f+1) d Kn ((.word u,xp)::t)=(deeper d>>=λe=>next>>=λ_=>sign "(">>=λ_=>(if g.2=0 then(sign ")">>=λ_=>pure (.call u .nil)) else(arguments f e Kn g.2>>=λl=>pure (.call u l))):P Exp) ((.word u,xp)::t):=by
 rw[primary];show(if u=text "sum" then _ else _)=_
 rw[EI hs,EI (by rw[hk];exact EE)];simp only[hf]
end OS
namespace OS
open PySem PySem.Spec L2
open PyProof.Rows hiding St
variable {P:Fz}{w:Ga}{K:EF}{mg:Fh->ET EH}{base:Gn}{a:be}
section
open Vbemac (arguments)
theorem xn:d7 "," (ED ","):=#[by decide+kernel,by decide+kernel]
section
variable {α β γ:Type}{p q:EU α}{g:α->EU β}{h:β->EU γ}
theorem aS (e:p t=q t):(p>>=g) t=(q>>=g) t:=by
 show Fi p g t=Fi q g t
 unfold Fi;rw[e]
end
def Zf.at {β:Type}(Z:Zf β) (l:E1):Zf β:= { Z with L:=l }
section
variable {β:Type}{Z:Zf β}{F:EA (Fk×V)}{b:FR}{H:Hp}{t:EG}{Kn:EK}{p:EU β}{L:EJ}{l:E1}
theorem RS.at (R:RS Z F b H t Kn p):RS (Z.at t.length) F FM H t Kn p:=#[R.S,R.k,R.f,E6 _,R.w]
theorem RS.back (h:l<=Z.L) (R:RS (Z.at l) F FB H t Kn p):RS Z F FB H t Kn p:=#[R.S,R.k,R.f,Fj R.l h,R.w]
end
theorem om {K:EK}{t:EG}(h:FD t ","=FM):cE f e K 0 t=(FC ")">>=λ_=>pure .nil:EU Jw) t:=by
 unfold cE;rw[EL rfl,EI (by rw[h];exact EE)]
theorem nP {K:EK}{t:EG}(hm:m≠0) (h:FD t ")"=FM):cE f e K m t=(FC ",">>=λ_=>arguments f e K m:EU Jw) t:=by
 unfold cE;rw[EI hm,EI (by rw[h];exact EE)]
theorem hJ {K:EK}{t:EG}(h:if m=0 then FD t ","=FB else FD t ")"=FB):cE f e K m t=E9 5 t:=by
 unfold cE;by_cases c:m=0
 ·rw[EL c] at h ⊢; rw[EL h]
 ·rw[EI c] at h ⊢; rw[EL h]
theorem aaS {K:EK}{t:EG}(h:FD t ")"=FB):arguments (f+1) e K n t=E9 5 t:=by
 rw[arguments];show(if FD t ")"=FB then _ else _)=_
 rw[EL h]
theorem Do {K:EK}{t:EG}(hn:1<=n) (h:FD t ")"=FM):arguments (f+1) e K n t=(Ff f e K>>=λa=>cE f e K (n-1)>>=λl=>pure (.cons a l):EU Jw) t:=by
 rw[arguments];show(if FD t ")"=FB then _ else _)=_
 rw[EI (by rw[h];exact EE)];show Fi _ _ t=Fi _ _ t;unfold Fi
 congr 1
 funext #[a,u]
 show(if n<=1 then _ else _:EU Jw) u=(cE f e K (n-1)>>=λl=>pure (.cons a l):EU Jw) u
 by_cases n1:n<=1
 ·rw[EL n1,show n-1=0 by lia]
  show(if FD u ","=FB then E9 5 u else _)=_
  by_cases c:FD u ","=FB
  ·rw[EL c,aS (hJ (by rw[EL rfl];exact c))]
   rfl
  ·rw[EI c,aS (om (by cases h:FD u ",";rfl;exact E7 h c)),bind_assoc]
   rfl
 ·rw[EI n1]
  show(if FD u ")"=FB then E9 5 u else _)=_
  by_cases c:FD u ")"=FB
  ·rw[EL c,aS (hJ (by rw[EI (by lia)];exact c))]
   rfl
  ·rw[EI c,aS (nP (by lia) (by cases h:FD u ")";rfl;exact E7 h c)),bind_assoc]
def wv (f e:E1) (Kn:EK) (u:EC) (wanted:E1):EA ER->EU ER
 |[]=>if wanted=0 then(FC ")">>=λ_=>pure (.call u .nil)) else(arguments f e Kn wanted>>=λl=>pure (.call u l))
 |x::es=>cE f e Kn (wanted-(x::es).length)>>=λl=>pure (.call u (vZ (x::es) l))
theorem uT {f e w:E1}{Kn:EK}{t:EG}(lt:es.length<w) (hc:FD t ")"=FM):
  (arguments (f+1) e Kn (w-es.length)>>=λl=>pure (.call u (vZ es l)):EU ER) t=(Ff f e Kn>>=λa=>wv f e Kn u w (es++[a])) t:=by
 rw[aS (Do (by lia) hc),bind_assoc];refine FN (λg=>(Ff f e Kn>>=g:EU ER) t) (funext λa=>?_);rw[bind_assoc];have n:w-es.length-1=w-(es++[a]).length:=by rw[Fc,IT];lia
 have e1:(λl=>(pure (SQ u (vZ es (.cons a l))):EU ER))=λl=>pure (.call u (vZ (es++[a]) l)):=funext λl=>by rw[rV]
 rw[n];show(cE f e Kn _>>=λl=>(pure (SQ u (vZ es (.cons a l))):EU ER))=_
 rw[e1];cases es with
 |nil=>rfl
 |cons y r=>rfl
abbrev fkE (ps:EA (ER×V)):EA (Fk×V):=ps.map λx=>(.e x.1,x.2)
theorem wa {a:be}{M:EJ->Prop}{H:Hp}{l:Jw}{ws:EA V}(hl:cu a M H l ws): ∀ {ps:EA (ER×V)},(∀ {i:E1}{x:Fk×V},(fkE ps)[i]?=EQ x->jc a M H x)->cu a M H (vZ (ps.map (·.1)).reverse l) ((ps.map (·.2)).reverse++ws)
 |[],_=>hl
 | (e,v)::ps,h=>by
  rw[Fe,Fe,Gf,Gf,rV,F4];refine wa (l:= .cons e l) ?_ λ{i x} q=>h (i:=i+1) q;unfold cu;exact#[v,ws,FS,h (i:=0) rfl,hl]
theorem m9 {Z:Zf ER}{F:EA (Fk×V)}{b:FR}{H:Hp}{t:EG}{Kn K:EK}{f e w:E1}{u:EC}{x:ER×V}{r:EA (ER×V)}(R:RS Z F b H t Kn (wv f e K u w ((x::r).map (·.1)).reverse)):RS Z F b H t Kn (cE f e K (w-((x::r).map (·.1)).reverse.length)>>=λl=>pure (.call u (vZ ((x::r).map (·.1)).reverse l))):=by
 cases h:((x::r).map (·.1)).reverse with
 |nil=>rw[EA.reverse_eq_nil_iff] at h;cases h
 |cons y l=>rw[h] at R;exact R
theorem ahx {b:FR}{A B:Prop}(e:b=FB) (h:A):if b=FB then A else B:=by rw[EL e];exact h
theorem qw (f e:E1) (K:EK) (u:EC) (w:E1) (es:EA ER) (x:ER):aI (wv f e K u w (es++[x])):=by
 cases es with
 |nil=>exact(dN _ _ _ _).bind
 |cons y r=>exact(dN _ _ _ _).bind
theorem ahy {β:Type}{Z:Zf β}{F:EA (Fk×V)}{b:FR}{H:Hp}{t:EG}{Kn:EK}{p:EU β}{Q:VK}{te:TE}{g:EC×E1}(Y:RX X Z.a Z.E) (R:RS Z F b H t Kn p) (he:PE X e te) (hv: ∀Q:VK,Q (.str (sb u)) H->te (EQ (.ref Z.B.r)::σ) H Q) (hg:Kn.funs.find? (λf=>f.1 == u)=EQ g) (q:Q (.int (g.2:E1)) H) (hs:Ej e:=by exact λ_ _=>rfl):
  Pe X (.Subscript (.Attribute (.Name "reader" p1) "functions" p2) e p3) (EQ (.ref Z.B.r)::σ) H Q:=by
 obtain⟨n,S⟩:=R.S;obtain⟨dr,er⟩:=S.rd.ins;obtain⟨ff,f1,f2⟩:=S.kn.funs;have f2:=f2 u;rw[hg] at f2;exact#[_,jL (dq Y.hr) (ao Y.rd rfl) he hs,Z.B.r,_,dr,_,_,FS,er,Y.T.Fy,Y.T.HV,FS,hv _ #[Z.B.fn,_,FS, .inl #[ff,nk u, .inl f1,FS,f2.symm],q]]
inductive Yc (Z:Zf ER) (L:EJ) (Kn:EK) (u:EC) (w e:E1) (σ0:L2.St) (m:E1) (σ:L2.St) (H:Hp):Prop
 |mk (ps:EA (ER×V)) (t:EG) (f:E1) (_:m=w-ps.length) (_:σ=σ0) (_:ps.length<=w) (_:ps.length+t.length<=Z.L) (_:16*t.length+12<=f) (_:ps=[]->16*t.length+13<=f) (_:RS (Z.mo L (ps.map (·.2)).reverse) (fkE ps) FB H t Kn (wv f e Kn u w (ps.map (·.1)).reverse)):Yc Z L Kn u w e σ0 m σ H
inductive ahz (Z:Zf ER) (L:EJ) (Kn:EK) (u:EC) (w e:E1) (σ0:L2.St) (ps:EA (ER×V)) (l:E1) (σ:L2.St) (H:Hp):Prop
 |mk (t:EG) (f:E1) (_:σ=σ0) (_:t.length<=l) (_:16*t.length+12<=f) (_:RS (Z.mo L (ps.map (·.2)).reverse) (fkE ps) FB H t Kn (arguments (f+1) e Kn (w-(ps.map (·.1)).reverse.length)>>=λl=>pure (.call u (vZ (ps.map (·.1)).reverse l)))):ahz Z L Kn u w e σ0 ps l σ H
section
variable {k j:E1}
theorem alm (T:aU K mg a) (XC:XT K a) (hk:8<=k)
  (G:T.RM.O P w base k (aV a FB Ff 12 (Lv j))):
  T.d_V.O P w base (k+1) (aV a FM F9 6 (LvC (j+1))):=by
 refine uC T XC hk T.d_V.F akB λGp A outer s H B t Kn d fuel Q E hr hd ho hf hm=>?_;intro X D Z Y R;obtain⟨hl,u,g,h0,hs,hu,hg⟩:=ho;obtain⟨xp,r,rfl⟩:=e7 R h0;obtain⟨f,rfl⟩: ∃f,fuel=f+1:=#[fuel-1,by lia];have c:CB X "read_exp" ["reader","depth"] (aV a FB Ff 12 (Lv j)):=#[G,hr,T.RM.c,FS];have hl:13<=d+1+j:=by rw[Mm];exact hl
 refine yE 2 Y hd (by intro z;cases z) (R.as (qH hs hu hg)) λlt R=>?_;refine aN 3 Y.nd (iA Y R Yb λH R=>?_);refine cB Y yB R λH t R=>?_;have l1:t.length+1<=Z.L:=R.l;refine aN 4 Y.nd (ahy Y R (pv 3) [05] hg ?_);refine l8 5 Y R λL H N R=>?_;have hL:(r.length+1:E1)<=Z.L:=E6 _;have hm:Kn.values.length+Z.L<=4000:=hm;have hf:16*Z.L+6<=f+1:=hf;refine fU Y.lv (Yc Z L Kn u g.2 (12-(d+1)) [EQ (.ref B.r),EQ (.int d),EQ (.int ((d+1:E1):Int)),EQ (.str (sb u)),EQ (.int (g.2:E1)),EQ (.ref L)]) _ #[[],t,f,FS,FS,Fs _,by show 0+t.length<=_;lia,by lia,λ_=>by lia,R] ?_;rintro m σ H ⟨ps,t,f,rfl,rfl,h1,h2,h3,h4,R⟩;refine cP jK (iP T.JP R.P0 (pv 5) [05] (bv 4 #[_,_,FS,FS,_,FS,aP (λe=>?_) λe=>?_]))
 ·have lt':ps.length<g.2:=by have:=Ft e;rw[F7,EY] at this;lia
  have len:((ps.map (·.1)).reverse:EA ER).length=ps.length:=by rw[F7,EY]
  refine gh (ahz Z L Kn u g.2 (12-(d+1)) [EQ (.ref B.r),EQ (.int d),EQ (.int ((d+1:E1):Int)),EQ (.str (sb u)),EQ (.int (g.2:E1)),EQ (.ref L)] ps t.length) ?_ ?_
  ·rintro σ H ⟨t1,f1,rfl,l1,hf1,R⟩
   refine kI Y R uw (k6 _ _ _ _).bind (λh=>(aS (aaS h)).trans rfl) λhc=>?_;have R:=R.as (uT (by rw[len];exact lt') hc);refine qY N R (pv 5) [05] #[_,Y.call2 c (pv 2) [01] rfl,R.at.call (nz λx=>qw _ _ _ _ _ _ _) lt hl (by lia) λe1 v1 H t2 _ R2=>#[_,_,_,_,_,by rw[F7,EY];exact FP (show ps.length<=4000 by lia) [01],RS.back (Z:=Z.mo L _) (l:=t1.length) (by show t1.length<=Z.L;lia) R2,λH3 R3=>?_]];have l2:t2.length+1<=t1.length:=R2.l;refine fY #[_,(show g.2-((e1,v1)::ps).length<g.2-ps.length by rw[EZ];lia),(e1,v1)::ps,t2,f1,FS,FS,(by rw[EZ];lia),(by rw[EZ];lia),(by lia),(λz=>nomatch z),?_]
   rw[Fe,Fe,Gf,Gf];exact R3
  ·refine cP gj (iP T.JP R.P0 (pv 5) [05] (cM #[_,_,FS,FS,_,FS,?_]))
   cases ps with
   |nil=>
    refine bK ?_;have R:RS _ (fkE []) FB H t Kn (if g.2=0 then _ else _):=R
    rw[EI (by have:0<g.2:=lt';lia)] at R;obtain⟨f,rfl⟩: ∃f',f=f'+1:=#[f-1,by lia];exact#[t,f,FS,E6 _,E1.le_of_succ_le_succ (h4 rfl),R]
   |cons x r=>
    refine ahx (Gb (by rw[F7,EY,EZ];lia)) ?_;have R:=m9 R;refine kI Y R uw (dN _ _ _ _).bind (λh=>(aS (hJ (by rw[EI (by rw[len];lia)];exact h))).trans rfl) λhc=>?_;refine cB (Z:=(Z.mo L ((x::r).map (·.2)).reverse).at t.length) Y xn (R.at.as ((aS (nP (by rw[len];lia) hc)).trans (congrFun (bind_assoc _ _ _) t))) λH t2 R2=>cc ?_;have l2:t2.length+1<=t.length:=R2.l;obtain⟨f,rfl⟩: ∃f',f=f'+1:=#[f-1,by lia];exact#[t2,f,FS,by lia,by lia,RS.back (Z:=Z.mo L _) (l:=t.length) (by show t.length<=Z.L;lia) R2]
 ·have eq:ps.length=g.2:=by have:=Fw e;rw[F7,EY] at this;lia
  have len:((ps.map (·.1)).reverse:EA ER).length=ps.length:=by rw[F7,EY]
  have R:RS (Z.mo L (ps.map (·.2)).reverse) (fkE ps) FB H t Kn (if g.2=0 then(FC ")">>=λ_=>pure (.call u .nil)) else(cE f (12-(d+1)) Kn 0>>=λl=>pure (.call u (vZ (ps.map (·.1)).reverse l)))):=by
   cases ps with
   |nil=>
    have h0:g.2=0:=eq.symm
    have R:RS _ (fkE []) FB H t Kn (if g.2=0 then _ else _):=R
    rw[EL h0] at R ⊢;exact R
   |cons x r=>
    have R:=m9 R;rw[len,eq,PK] at R;rw[EI (by rw[<-eq,EZ];lia)];exact R
  have eN:RS (Z.mo L (ps.map (·.2)).reverse) (fkE ps) FB H t Kn (FC ")">>=λ_=>pure (.call u (vZ (ps.map (·.1)).reverse .nil)))->Bd X ((a8 s_V).drop 7) D [EQ (.ref B.r),EQ (.int d),EQ (.int ((d+1:E1):Int)),EQ (.str (sb u)),EQ (.int (g.2:E1)),EQ (.ref L)] H:=λR=>by
   refine cB Y uw R λH t R=>?_;have hL:=R.P0;refine aJ (jw Y (D6 T) (aO (bv 3 (aO (bv 5 (cC (R.new rfl λv H i R=>?_)))))));have hL:=R.P0;have R:=R.less N;refine R.done ?_;unfold au;refine#[.ref L,_,bD.keep (λb o e m=>#[λz=>m (cr z),e]) i,#[L,FS,N.nm,hL],?_];have:=wa (l:= .nil) (ws:=[]) (by unfold cu;rfl) R.f;rw[Gw] at this;exact this
  refine bE (cP gj (bv 4 (cM #[_,_,FS,FS,_,FS,aP (λe=>?_) λe=>?_])))
  ·have h0:g.2≠0:=by have:=Ft e;lia
   rw[EI h0] at R;refine kI Y R xn (dN _ _ _ _).bind (λh=>(aS (hJ (by rw[EL rfl];exact h))).trans rfl) λhc=>vv (eN (R.as ?_));exact(aS (om hc)).trans (congrFun (bind_assoc _ _ _) t)
  ·have h0:g.2=0:=by have:=Fw e;lia
   rw[EL h0] at R;obtain rfl:ps=[]:=MW.mp (eq.trans h0);exact eN R
end
end
theorem lO {α β:Type}{F:α->β->Prop} : ∀ {l:EA α}{m:EA β}{i:E1}{y:β},Paired F l m->m[i]?=EQ y-> ∃x,l[i]?=EQ x/\F x y
 |_,_,_,_, .nil,h=>by cases h
 |_,_,0,_, .cons r t,h=>#[_,FS,by obtain rfl:=E5 h;exact r]
 |_,_,i+1,_, .cons r t,h=>lO (i:=i) t h
theorem zt.row {K:EF}{ad:EJ}{i:E1}{xs:EA V}{H:Hp}(h:zt K ad dh) (e:dh[i]?=EQ xs): ∃qs:EA EJ,qs.length=5/\rh K H ad (qs.map V.ref)/\ ∃q,zq (qs.map V.ref) (i:E1)=EQ (.ref q)/\rh K H q xs:=by
 obtain⟨qs,h1,h2⟩:=h;obtain⟨q,hq,hk⟩:=lO h2 e;refine#[qs,bL h2,h1.sq,q,?_,hk.sq];refine bj ?_;rw[FQ,hq]
 rfl
theorem AV {x:F5}(tok:f7 x) {sg:EA EC}(hs: ∀o∈sg,o∈F6) (h:tZ (ie x) (sg.map λo=>V.str (dI o))=FB): ∃op∈sg,x= .sign op:=by
 unfold tZ at h;rw[Sr,Lh] at h;obtain⟨o,ho,e⟩:=h;refine#[o,ho,(rD tok (x:=dI o) #[FS,hs o ho]).mp ?_];have e:DQ (V.str (dI o)) (ie x)=FB:=e;cases x with
 |word u=>exact FN EQ (beq_iff_eq.mp (show(dI o == sb u)=FB from e)).symm
 |num n=>cases (show FM=FB from e)
 |sign u=>exact FN EQ (beq_iff_eq.mp (show(dI o == dI u)=FB from e)).symm
 |eof=>exact FN EQ (beq_iff_eq.mp (show(dI o == sb [])=FB from e)).symm
 |bad=>exact FN EQ (beq_iff_eq.mp (show(dI o == sb [])=FB from e)).symm
theorem zU {op:EC}{sg:EA EC}(h:op∈sg):tZ (ie (.sign op)) (sg.map λo=>V.str (dI o))=FB:=by
 unfold tZ;rw[Sr,Lh];exact#[op,h,show(dI op == dI op)=FB from Gr _]
theorem yI (x:F5):jk (ie x)=FB:=by cases x<;>rfl
theorem vr (sg:EA EC):(sg.map λo=>V.str (dI o)).all jk=FB:=by
 rw[Sn,Lf];exact λ_ _=>rfl
section
variable {M:EJ->Prop}{H:Hp}
theorem uK: ∀ {es:Pairs}{us:EA V},Paired (λ(x:EC×ER) u=>au a M H x.2 u) es us->cu a M H (uO es .nil) us
 |_,_, .nil=>by unfold uO cu;rfl
 |_,_, .cons h t=>by unfold uO cu;exact#[_,_,FS,h,uK t]
theorem uV: ∀ {es:Pairs}{us:EA V},Paired (λ(x:EC×ER) u=>au a M H x.2 u) es us->dE a M H (ug es .nil) us (es.map λx=>V.str (dI x.1))
 |_,_, .nil=>by unfold ug dE;exact#[FS,FS]
 |_,_, .cons h t=>by unfold ug dE;exact#[_,_,_,FS,FS,h,uV t]
theorem qc {F:EC×ER->V->Prop}{o:EC} : ∀ {es:Pairs}{us:EA V},Paired F es us->(∀x∈es,x.1∈[o])->(es.map λx=>V.str (dI x.1))=us.map λ_=>V.str (dI o)
 |_,_, .nil,_=>rfl
 |_,_, .cons h t,hx=>by
  rw[Fe,Fe,Fd.mp (hx _ (EO ..)),qc t λy hy=>hx y (EN _ hy)]
end
theorem ahA:dI (ED "||")="||":=by decide+kernel
theorem aaT:dI (ED "&&")="&&":=by decide+kernel
structure qa (s:E1) (sg:EA EC) (once:FR) (res:ER->Pairs->ER):Prop where
 Uu: ∀e,res e []=e
 at_: ∀ {a:be}{M:EJ->Prop}{H:Hp}{e:ER}{es:Pairs}{v w:V}{us:EA V}{q g:V},es≠[]->(∀x∈es,x.1∈sg)->(once=FB->es.length<=1)->bD M H a.Jj [("strength", .int (s:E1)),("operands",q),("signs",g)] w->
  b4 M H (v::us) q->b4 M H (es.map λx=>V.str (dI x.1)) g->au a M H e v->Paired (λ(x:EC×ER) u=>au a M H x.2 u) es us->au a M H (res e es) w
theorem aaU:qa 0 S0 FM (λe es=>Ep e (uO es .nil)) where
 Uu e:=rfl
 at_ {a M H e es v w us q g} h0 hs _ hi hq hg he VH:=by
  cases es with
  |nil=>exact E7 rfl h0
  |cons y r=>
   rw[qc VH hs,ahA] at hg;show au a M H (.either e (uO (y::r) .nil)) w;unfold au;exact#[q,g,v,_,hi,hq,hg,he,uK VH]
theorem El:qa 1 S1 FM (λe es=>bth e (uO es .nil)) where
 Uu e:=rfl
 at_ {a M H e es v w us q g} h0 hs _ hi hq hg he VH:=by
  cases es with
  |nil=>exact E7 rfl h0
  |cons y r=>
   rw[qc VH hs,aaT] at hg;show au a M H (.both e (uO (y::r) .nil)) w;unfold au;exact#[q,g,v,_,hi,hq,hg,he,uK VH]
theorem Dz:qa 3 S3 FM (λe es=>sms e (ug es .nil)) where
 Uu e:=rfl
 at_ {a M H e es v w us q g} h0 hs _ hi hq hg he VH:=by
  cases es with
  |nil=>exact E7 rfl h0
  |cons y r=>
   show au a M H (.sums e (ug (y::r) .nil)) w
   unfold au;exact#[q,g,v,_,_,hi,hq,hg,he,uV VH]
theorem Ev:qa 4 S4 FM (λe es=>oG e (ug es .nil)) where
 Uu e:=rfl
 at_ {a M H e es v w us q g} h0 hs _ hi hq hg he VH:=by
  cases es with
  |nil=>exact E7 rfl h0
  |cons y r=>
   show au a M H (.prods e (ug (y::r) .nil)) w
   unfold au;exact#[q,g,v,_,_,hi,hq,hg,he,uV VH]
theorem DU:qa 2 S2 FB ahu where
 Uu e:=rfl
 at_ {a M H e es v w us q g} h0 hs h1 hi hq hg he VH:=by
  cases VH with
  |nil=>exact E7 rfl h0
  |cons h t=>
   cases t with
   |nil=>
    show au a M H (.cmp _ e _) w
    unfold au;exact#[q,g,v,_,hi,hq,hg,he,h]
   |cons h2 t2=>
    have:=h1 rfl;rw[EZ,EZ] at this;lia
inductive uD (a:be) (w2:FR) (s:E1) (p:E1->E1->EK->EU ER) (c:E1) (ok:E1->EK->EG->Prop) (vs:EA V) (H:Hp) (Q:VK) (E:XK):Prop
 |mk (u v:V) (_:vs=[u,v, .int (s:E1)]) (_:aV a w2 p c ok [u,v] H Q E):uD a w2 s p c ok vs H Q E
def DD {β:Type}(Z:Zf β):Prop:= ∀e r,E4 r= .bad->Z.Ro e r->QE Z.a Z.B Z.H0 Z.E 1 (HC r)
theorem DD.mo {β:Type}{Z:Zf β}(h:DD Z) (N:uN Z L):DD (Z.mo L us):=λe r b o H' k=>h e r b o H' λc o e m=>k c o e λz=>(c9 z).elim (λz=>by rw[z,N.n0] at e;cases e) m
theorem DD.bad {β:Type}{Z:Zf β}{p:EU β}(h:DD Z) (hr:gZ p) (b:E4 t= .bad) (w:W p t Z.Ro (QE Z.a Z.B Z.H0 Z.E)):QE Z.a Z.B Z.H0 Z.E 1 (HC t):=by
 rcases hr t b with e|⟨x,e⟩
 ·rw[iZ e] at w;exact w
 ·rw[xM e] at w;exact h x t b w
theorem enZ {a:be}{E:XK}{H0:Hp}{Q:VK} :DD #[a,E,B,L,H0,Rz FB a B H0 L Kn Q E]:=λe r b w=>by
 have w:Rz FB a B H0 L Kn Q E e r:=w;unfold Rz at w;rw[EL #[FS,b]] at w;exact w
theorem ahB {w2:FR}{pp:E1->E1->EK->EU ER}{c sn:E1}{ok:E1->EK->EG->Prop}{x Gz:Fh}{st:Stmt}{f:EJ}{fd:FL}{N:EA Fh}(T:aU K mg a) (XC:XT K a) (hk:8<=k) (F:oF K x Gz st f fd) (S:az N ["reader","depth","strength"] (af st))
  (Jc: ∀(Gp:EH) (A:Gk) (outer:EA Env) (s:EM) (H:Hp) (B:Rb) (t:EG) (Kn:EK) (d fuel:E1) (Q:VK) (E:XK),bW k (A.deeper (Jf Gz (af st) s.heap.objs.size f Gp))->d<=12->ok d Kn t->16*t.length+c<=fuel->Kn.values.length+t.length<=4000->
   let X:=fi (fW P w) P w K mg base N Gz (af st) f Gp A outer s H E
   let D:eJ:= { nx:=λ_ H'=>Q .HZ H',rt:=Q }
   let Z:Zf ER:=#[a,E,B,t.length,H,Rz w2 a B H t.length Kn Q E]
   RX X a E->RS Z [] FM H t Kn (pp fuel (12-d) Kn)->Bd X (a8 st) D (L2.start N [.ref B.r, .int d, .int (sn:E1)]) H):bS P w K mg base (fW P w) (k+1) f fd ["reader","depth","strength"] (uD a w2 sn pp c ok):=by
 refine fP F S [03] [02];obtain⟨_,_,rfl,B,n,t,Kn,d,fuel,h0,hd,ho,St,hf,hW⟩:=h;cases h0;exact Jc Gp A outer s H B t Kn d fuel Q E hr hd ho hf St.kn.len (ku T XC hk S hr) #[#[n,St],db.refl,λ{i x} e=>(by cases e),E6 _,hW]
section
variable {H:Hp}{Q:VK}{E:XK}
theorem AO (Y:RX X a E) (KT:zt X.K a.Hz dh) (q:Q (.int 5) H) (h1:Gl X "len":=by rfl) (h2:Gl X "CHAIN_SIGNS":=by rfl):Pe X (.Call (.Name "len" p1) [.Name "CHAIN_SIGNS" p2] [] p3) σ H Q:=by
 obtain⟨qs,qs5,sqA,_⟩:=KT.row (H:=H) (i:=0) rfl;refine#[_,bF bM h1 Y.T.JP Hl (aa (iQ h2 Y.T.N4) ag),_,_,FS, .inr sqA,?_];rw[EY,qs5];exact q
theorem ahC {te:TE}(Y:RX X a E) (KT:zt X.K a.Hz dh) (row:dh[sn]?=EQ xs) (he:PE X e te) (hv: ∀Q:VK,Q (.int (sn:E1)) H->te σ H Q) (q: ∀c,rh X.K H c xs->Q (.ref c) H) (h2:Gl X "CHAIN_SIGNS":=by rfl) (hs:qV e:=by exact λ_ _=>rfl):Pe X (.Subscript (.Name "CHAIN_SIGNS" p1) e p3) σ H Q:=by
 obtain⟨qs,qs5,sqA,c,atq,sq⟩:=KT.row (H:=H) row;exact#[_,cK ZV (iQ h2 Y.T.N4) he hs,hv _ #[_,_,_,_,FS,FS,sqA,atq,q c sq]]
theorem RX.Yd {sp:Sp}{σ:L2.St}(Y:RX X a E) (c:CB X "read_chain" ["reader","depth","strength"] sp) (q:sp [u,v, .int ((sn+1:E1):Int)] H Q E) (h1:X.N[1]?=EQ ("depth":Fh):=by rfl) (v1:oH X.env.scope "depth":=by exact Gx rfl) (h2:X.N[2]?=EQ ("strength":Fh):=by rfl) (v2:oH X.env.scope "strength":=by exact Gx rfl):
  Pe X (.Call (.Name "read_chain" p1) [.Name "reader" p2, .Name "depth" p3, .BinOp (.Name "strength" p4) .Add (.Constant (.int 1) 0 p5) p6] [] p7) (EQ u::EQ v::EQ (.int (sn:E1))::σ) H Q:=by
 obtain⟨G,hr,d,hg⟩:=c;exact#[_,aL G hr hg d Y.up (aa Y.rd (aa (dX h1 v1) (aa (ca dU (dX h2 v2) aj) ag))),_,_,FS,FS,q]
end
inductive ChI {p sub:E1->E1->EK->EU ER}{c c':E1}{sg:EA EC}{once:FR}{res:ER->Pairs->ER}(L:ChP p sub c c' sg once res) (Z:Zf ER) (A1 A2:EJ) (Kn:EK) (d:E1) (e:ER) (v:V) (σ0:L2.St) (m:E1) (σ:L2.St) (H:Hp):Prop
 |mk (F:EA (Fk×V)) (es:Pairs) (us:EA V) (t:EG) (f:E1) (_:m=t.length) (_:σ=σ0) (_:once=FB->es=[]) (_:us.length+t.length<Z.L) (_: ∀x∈es,x.1∈sg) (_: ∃i:E1,F[i]?=EQ (.e e,v)) (_:Paired (λ(x:EC×ER) u=> ∃i:E1,F[i]?=EQ (.e x.2,u)) es us) (_:16*t.length+c'<=f)
  (_:RS ((Z.mo A1 (v::us)).mo A2 (es.map λx=>V.str (dI x.1))) F FB H t Kn (L.q f d Kn e es)):ChI L Z A1 A2 Kn d e v σ0 m σ H
theorem zd (T:aU K mg a) (XC:XT K a) (KT:zt K a.Hz dh) (hk:8<=k)
  (G:T.VX.O P w base k (aV a FM Gj 7 (Lv j))):
  T.Xb.O P w base (k+1) (uD a FM 5 Gj 7 (Lv j)):=by
 refine ahB T XC hk T.Xb.F agl λGp A outer s H B t Kn d fuel Q E hr hd ho hf hm=>?_;intro X D Z Y R;exact bE (cP b7 (bv 2 (AO Y KT #[FS,_,FS,cg (aJ #[_,Y.call2 #[G,hr,T.VX.c,FS] (pv 1) [01] rfl,R.tail hd ho hf])])))
theorem fh (T:aU K mg a) (XC:XT K a) (KT:zt K a.Hz dh) (hk:8<=k) (hs:sn<5) (h2:sn=2->w2=FB) {p sub:E1->E1->EK->EU ER}{res:ER->Pairs->ER}(VZ:1<=c')
  (L:ChP p sub c c' sg once res) (N:qa sn sg once res) (row:dh[sn]?=EQ (sg.map λo=>V.str (dI o))) (sgS: ∀o∈sg,o∈F6) (Ye:once=decide (sn=2))
  (G:T.Xb.O P w base k (uD a w2 (sn+1) sub c' (Lv j))):
  T.Xb.O P w base (k+1) (uD a FB sn p c (Lv j)):=by
 refine ahB T XC hk T.Xb.F agl λGp A outer s H B t Kn d fuel Q E hr hd ho hf hm=>?_;intro X D Z Y R;have cb:CB X "read_chain" ["reader","depth","strength"] (uD a w2 (sn+1) sub c' (Lv j)):=#[G,hr,T.Xb.c,FS];refine bE (cP b7 (bv 2 (AO Y KT #[FS,_,FS,?_])));rw[cn,FA (by lia)];refine bK ?_;obtain⟨f,hf1,hp⟩:=L.start (d:=12-d) (Kn:=Kn) (n:=t.length) hf;have z0:DD Z:=enZ;refine aN 3 Y.nd (uc (aO (Y.Yd cb #[_,_,FS,(R.as (congrFun hp t)).T3 (λ_ e r b w=>z0.bad (L.ON _ _ _ _ _) b w) hd ho hf1 λe v H t1 _ R=>cC #[by show 1<=FE;decide,λA1 hA1=>?_]])));have N1:=R.nwl hA1;have l1:t1.length+1<=Z.L:=R.l;refine aN 4 Y.nd (mq λA2 hA2=>?_);have ne:A2≠A1:=λz=>by rw[z,ae] at hA2;cases hA2
 have N2:=R.nwl (L:=A2) (by rw[ac ne] at hA2;exact hA2)
 have N2': ∀ {us:EA V},uN (Z.mo A1 us) A2:=N2.mo ne
 have N1': ∀ {us:EA V},uN (Z.mo A2 us) A1:=N1.mo ne.symm
 have R:=(R.more (us:=[v]) hA1).more (us:=[]) hA2
 have hm:Kn.values.length+Z.L<=4000:=hm
 have eN: ∀ {F:EA (Fk×V)}{es:Pairs}{us:EA V}{t:EG}{f:E1}{H:Hp},1<=f->E4 t≠ .bad->(once=FB->es.length<=1)->(once=FB/\es≠[]\/ ∀op,E4 t= .sign op->op∉sg)->(∀x∈es,x.1∈sg)->(∃i:E1,F[i]?=EQ (.e e,v))->Paired (λ(x:EC×ER) u=> ∃i:E1,F[i]?=EQ (.e x.2,u)) es us->
   RS ((Z.mo A1 (v::us)).mo A2 (es.map λx=>V.str (dI x.1))) F FB H t Kn (L.q f (12-d) Kn e es)->Bd X ((a8 s_u).drop 4) D [EQ (.ref B.r),EQ (.int d),EQ (.int (sn:E1)),EQ (.ref A1),EQ (.ref A2)] H:=by
  intro F es us t f H hf nb h1 JS hsg m0 mp R;have R:=R.as (p':=pure (res e es)) (L.stop hf h1 JS);obtain⟨i0,m0⟩:=m0;refine bE (cP b7 (iP T.JP R.P0 (pv 4) [05] (cM #[FS,_,FS,?_])));rw[cn,EY];refine aP (λh=>?_) λh=>?_
  ·obtain rfl:es=[]:=MW.mp (by have:=Ft h;lia)
   have hA1:=(R.less N2').P0
   have R:=(R.less N2').less N1;rw[N.Uu] at R;exact aJ #[_,cK bB (pv 3) aj (λ_ _=>rfl),A1,_,0,v,FS,FS,cO.of hA1,bj (j:=0) rfl,R.done (R.f m0) λ_=>nb]
  ·have z1:es≠[]:=λz=>by rw[z] at h;cases h
   refine aJ (jw Y (zJ T) (aO (bv 2 (aO (bv 3 (aO (bv 4 (cC (R.new rfl λw H i R=>?_)))))))));have hA2:=R.P0;have hA1:=(R.less N2').P0;have R:=(R.less N2').less N1;exact R.done (N.at_ z1 hsg h1 (bD.keep (λb o e m=>#[λz=>m (cr (cr z)),e]) i) #[A1,FS,N1.nm,hA1] #[A2,FS,N2.nm,hA2] (R.f m0) (Paired.M7 mp λx u ⟨i,h⟩=>R.f h)) λ_=>nb
 refine fU Y.lv (ChI L Z A1 A2 Kn (12-d) e v [EQ (.ref B.r),EQ (.int d),EQ (.int (sn:E1)),EQ (.ref A1),EQ (.ref A2)]) _ #[_,[],[],t1,f,FS,FS,λ_=>rfl,(by show 0+t1.length<_;lia),(λ_ z=>nomatch z),#[0,FS], .nil,by lia,R] ?_
 rintro m σ H ⟨F,es,us,t,f,rfl,rfl,on0,ul,hsg,m0,mp,hf,R⟩;have z2:DD ((Z.mo A1 (v::us)).mo A2 (es.map λx=>V.str (dI x.1))):=(z0.mo N1).mo N2'
 refine cP kT (vx Y R (λb=>z2.bad (L.ON _ _ _ _ _) b R.w) λnb=>ahC Y KT row (pv 2) [05] λc sq=>#[c,_,FS, .inr sq,yI _,vr sg,_,FS,aP (λein=>?_) λein=>?_]) rfl
 ·obtain⟨⟨x,xp⟩,r,rfl⟩:=R.cons
  obtain⟨op,WI,rfl⟩:=AV R.tok sgS ein;obtain⟨f6,hf6,h6⟩:=L.go (x:=(.sign op,xp)) (by rw[EZ] at hf;exact hf) on0 rfl WI;have lu:us.length=es.length:=(bL mp).symm;rw[EZ] at ul;refine qY N2' R (pv 4) [05] (iA Y (R.as (p':=F3>>=λ_=>sub f6 (12-d) Kn>>=λe2=>L.q f6 (12-d) Kn e (es++[(op,e2)])) h6) nfS λH R=>#[_,_,_,_,_,by rw[EY];exact FP (show es.length<=4000 by lia) [01],R,λH R=>?_]);have R:=R.swap;have z3:DD (((Z.mo A2 ((es.map λx=>V.str (dI x.1))++[ie (.sign op)])).mo A1 (v::us)).at r.length):=(z0.mo N2).mo N1'
  refine qY N1' R (pv 3) [05] (Y.Yd cb #[_,_,FS,RS.T3 (Z:=((Z.mo A2 ((es.map λx=>V.str (dI x.1))++[ie (.sign op)])).mo A1 (v::us)).at r.length) R.at (λ_ e r b w=>z3.bad (L.ON _ _ _ _ _) b w) hd ho hf6 λe2 v2 H t2 nb2 R2=>#[_,_,_,_,_,FP (show(v::us).length<=4000 by rw[EZ];lia) [01],RS.back (Z:=(Z.mo A2 _).mo A1 _) (l:=r.length) (by show r.length<=Z.L;lia) R2,λH R=>?_]]);have l2:t2.length+1<=r.length:=R2.l;have R:RS ((Z.mo A1 (v::(us++[v2]))).mo A2 ((es++[(op,e2)]).map λx=>V.str (dI x.1))) ((.e e2,v2)::F) FB H t2 Kn (L.q f6 (12-d) Kn e (es++[(op,e2)])):=by
   rw[GG];exact R.swap
  have ahD: ∀x∈es++[(op,e2)],x.1∈sg:=λx hx=>(Fp.mp hx).elim (hsg x) λz=>by rw[Fd.mp z];exact WI
  have m0': ∃i:E1,((.e e2,v2)::F)[i]?=EQ (.e e,v):=m0.elim λi h=>#[i+1,h]
  have mp':Paired (λ(x:EC×ER) u=> ∃i:E1,((.e e2,v2)::F)[i]?=EQ (.e x.2,u)) (es++[(op,e2)]) (us++[v2]):=iK (Paired.M7 mp λx u h=>h.elim λi h=>#[i+1,h]) #[0,FS]
  refine bE (cP b7 (bv 2 #[_,aR (by rfl) T.Ra,FS,_,FS,?_]));rw[cn];refine aP (λh=>?_) λh=>?_
  ·have s2:sn=2:=by have:=Ft h;lia
   have on1:once=FB:=by rw[Ye,s2];rfl
   have es0:=on0 on1;exact zC (eN (by lia) (nb2 (h2 s2)) (λ_=>by rw[es0];exact E6 _) (.inl #[on1,λz=>by rw[Sa] at z;cases z.2]) ahD m0' mp' R)
  ·have on1:once≠FB:=by rw[Ye,FA λz=>by have:=Fw h;rw[z] at this;exact this rfl];exact EE
   exact fY #[_,(show t2.length<r.length+1 by lia),_,_,us++[v2],t2,f6,FS,FS,λz=>E7 z on1,(by rw[Fc,IT];lia),ahD,m0',mp',by lia,R]
 ·exact eN (by lia) nb (λz=>by rw[on0 z];exact Fs _) (.inr λop ho hm=>by
   rw[ho,zU hm] at ein;cases ein) hsg m0 mp R
theorem yq (h:EV t "if"=FM):Ff (f+1) d Kn t=ors f d Kn t:=by
 rw[Ff];show(if EV t "if"=FB then _ else _)=_
 rw[EI (by rw[h];exact EE)]
 rfl
theorem aln (T:aU K mg a) (XC:XT K a) (hk:8<=k)
  (G1:T.Wl.O P w base k (aV a FB Ff 12 (LvW j (ED "if"))))
  (G2:T.Xb.O P w base k (uD a FB 0 ors 11 (Lv j))):
  T.RM.O P w base (k+1) (aV a FB Ff 12 (Lv j)):=by
 refine uC T XC hk T.RM.F agj λGp A outer s H B t Kn d fuel Q E hr hd ho hf hm=>?_;intro X D Z Y R;refine bE (dv (io Y R (lM _ _ _) λnb=>#[_,FS,?_]));rw[bZ R.tok vO];refine aP (λe=>?_) λe=>?_
 ·exact aJ #[_,Y.call2 #[G1,hr,T.Wl.c,FS] (pv 1) [01] rfl,R.tail hd #[ho,beq_iff_eq.mp e] hf]
 ·obtain⟨f,rfl⟩: ∃f,fuel=f+1:=#[fuel-1,by lia]
  exact aJ #[_,aL G2 hr (by rfl) T.Xb.c Y.up (aa Y.rd (aa (pv 1) (aa aj ag))),_,_,FS,RS.tail (R.as (yq e)) hd ho (by lia)]
theorem ahE {CX:pS}{k:E1}{sp1 sp2:Sp}(F1:bS P w K mg base CX k f fd ps sp1) (F2:bS P w K mg base CX k f fd ps sp2):bS P w K mg base CX k f fd ps (λvs H Q E=>sp1 vs H Q E\/sp2 vs H Q E):=
 #[λvs H Q E h=>h.elim (F1.len vs H Q E) (F2.len vs H Q E),λA outer s H args us vs Q E hr he hb hv h=>h.elim (F1.run A outer s H args us vs Q E hr he hb hv) (F2.run A outer s H args us vs Q E hr he hb hv)]
theorem yN {p:E1->E1->EK->EU ER}{ok1 ok2:E1->EK->EG->Prop}{H:Hp}{Q:VK}{E:XK}(h:aV a w2 p c (λd K t=>ok1 d K t\/ok2 d K t) vs H Q E):aV a w2 p c ok1 vs H Q E\/aV a w2 p c ok2 vs H Q E:=by
 obtain⟨B,n,t,Kn,d,fuel,e,hd,ok,S,hf,hW⟩:=h;rcases ok with ok|ok
 ·exact .inl #[B,n,t,Kn,d,fuel,e,hd,ok,S,hf,hW]
 ·exact .inr #[B,n,t,Kn,d,fuel,e,hd,ok,S,hf,hW]
theorem j9 {p:E1->E1->EK->EU ER}{H:Hp}{Q:VK}{E:XK}(h:aV a w2 p c (Lv 0) vs H Q E):False:=by
 obtain⟨B,n,t,Kn,d,fuel,e,hd,ok,S,hf,hW⟩:=h;have ok:13<=d+0:=ok;lia
theorem kD:(∀o∈S0,o∈F6)/\(∀o∈S1,o∈F6)/\(∀o∈S2,o∈F6)/\(∀o∈S3,o∈F6)/\(∀o∈S4,o∈F6):=by decide+kernel
theorem alo:dh[0]?=EQ (S0.map λo=>V.str (dI o)):=by decide+kernel
theorem alp:dh[1]?=EQ (S1.map λo=>V.str (dI o)):=by decide+kernel
theorem alq:dh[2]?=EQ (S2.map λo=>V.str (dI o)):=by decide+kernel
theorem alr:dh[3]?=EQ (S3.map λo=>V.str (dI o)):=by decide+kernel
theorem als:dh[4]?=EQ (S4.map λo=>V.str (dI o)):=by decide+kernel
theorem alu (T:aU K mg a) (XC:XT K a) (KT:zt K a.Hz dh): ∀j:E1,
  T.RM.O P w base (8+11*j) (aV a FB Ff 12 (Lv j))/\
  T.VX.O P w base (8+11*j) (aV a FM Gj 7 (Lv j)):=by
 intro j
 induction j with
 |zero=>exact#[fP T.RM.F agj (λ_ _ _ _ h=>(j9 h).elim) (λ_ _ _ _ _ _ _ _ _ h=>(j9 h).elim),fP T.VX.F aak (λ_ _ _ _ h=>(j9 h).elim) (λ_ _ _ _ _ _ _ _ _ h=>(j9 h).elim)]
 |succ j ih=>
  obtain⟨E0,U0⟩:=ih;have hk:8<=8+11*j:=by lia
  rw[show 8+11*(j+1)=8+11*j+11 by lia];generalize 8+11*j=k at hk E0 U0 ⊢;have B:=ahp T XC hk E0;have Su:=aho T XC hk E0;have Ca:=alm T XC hk E0;have Ch:=ahq T XC hk E0;have Pr:=ahw T XC (by lia) B Su Ca;have UF:T.VX.O P w base (k+1+1) (aV a FM Gj 7 (λ_ _ _=>False)):=
   fP T.VX.F aak (λ_ _ _ _ h=>by obtain⟨B,n,t,Kn,d,fuel,e,hd,ok,_⟩:=h;exact ok.elim) (λ_ _ _ _ _ _ _ _ _ h=>by obtain⟨B,n,t,Kn,d,fuel,e,hd,ok,_⟩:=h;exact ok.elim)
  have UN:=gy (j:=j+1) (λd _ t=>13<=d+(j+1)/\ ∃m,E4 t= .num m) (λ_ _ _=>False) T XC (by lia) (λd Kn t h=>h.1) (λd Kn s xp t h _=>by obtain⟨_,m,z⟩:=h;cases z) (λd Kn s xp t m h _=>by obtain⟨_,m,z⟩:=h;cases z) Pr UF
  have UB:=(ahE (U0.mono (by lia:k<=k+1+1+1)) UN).imp λvs H Q E h=>yN h
  have Un:=gy (j:=j+1) (Lv (j+1)) (λd K t=>Lv j d K t\/(13<=d+(j+1)/\ ∃m,E4 t= .num m)) T XC (by lia) (λd Kn t h=>h) (λd Kn s xp t h lt=> .inl (by have h:13<=d+(j+1):=h;show 13<=d+1+j;lia)) (λd Kn s xp t m h z=> .inr #[h,m,z]) (Pr.mono (by lia:k+1+1<=k+1+1+1)) UB
  have C5:=zd T XC KT (by lia) Un
  have C4:=fh T XC KT (by lia) (sn:=4) [01] (λz=>by cases z) [01] aht Ev als kD.2.2.2.2 rfl C5
  have C3:=fh T XC KT (by lia) (sn:=3) [01] (λz=>by cases z) [01] ahs Dz alr kD.2.2.2.1 rfl C4
  have C2:=fh T XC KT (by lia) (sn:=2) [01] (λ_=>rfl) [01] ahv DU alq kD.2.2.1 rfl C3
  have C1:=fh T XC KT (by lia) (sn:=1) [01] (λz=>by cases z) [01] ahr El alp kD.2.1 rfl C2
  have C0:=fh T XC KT (by lia) (sn:=0) [01] (λz=>by cases z) [01] alh aaU alo kD.1 rfl C1
  have Ex:=aln T XC (by lia) (Ch.mono (by lia)) C0;exact#[Ex.mono (by lia),Un.mono (by lia)]
end OS
namespace OS
open Vbemac
section
variable {K:Known}
theorem BQ (h:He t "let"=FB):stmt (k+1) d K B t=(next>>=λ_=>newName K>>=λx=>sign "=">>=λ_=>expr k DEEP K>>=λe=>sign ";">>=λ_=>pure (.bind x e,K.with x,B):P (Stmt×Known×Blocks)) t:=by
 rw[stmt];show(if He t "let"=FB then _ else _)=_
 rw[EL h]
theorem Aa (h1:He t "let"=FM) (h:He t "for"=FB):stmt (k+1) d K B t=(deeper d>>=λn=>next>>=λ_=>newName K>>=λx=>key "in">>=λ_=>expr k DEEP K>>=λlo=>sign "..">>=λ_=>expr k DEEP K>>=λhi=>
  sign "{">>=λ_=>stmts k n (K.with x) B>>=λl=>pure (.loop x lo hi l.1,K,l.2):P (Stmt×Known×Blocks)) t:=by
 rw[stmt];show(if He t "let"=FB then _ else if He t "for"=FB then _ else _)=_
 rw[EI (by rw[h1];exact EE),EL h]
def kG (k n:E1) (K:Known) (c:Exp) (a:Stmts×Blocks):P (Stmt×Known×Blocks):=ifKey "else">>=λm=>(if m=FB then(sign "{">>=λ_=>stmts k n K a.2>>=λb=>pure (.cond c a.1 b.1,K,b.2)) else pure (.cond c a.1 .nil,K,a.2))
theorem DI (h1:He t "let"=FM) (h2:He t "for"=FM) (h:He t "if"=FB):stmt (k+1) d K B t=(deeper d>>=λn=>next>>=λ_=>expr k DEEP K>>=λc=>sign "{">>=λ_=>stmts k n K B>>=λa=>kG k n K c a:P (Stmt×Known×Blocks)) t:=by
 rw[stmt];show(if He t "let"=FB then _ else if He t "for"=FB then _ else if He t "if"=FB then _ else _)=_
 rw[EI (by rw[h1];exact EE),EI (by rw[h2];exact EE),EL h]
 rfl
def kr (m:ET FJ) (B:Blocks):Blocks:=match m with
 |some w=>w::B
 |none=>B
theorem vp (h1:He t "let"=FM) (h2:He t "for"=FM) (h3:He t "if"=FM) (h:He t "block"=FB):stmt (k+1) d K B t=(next>>=λ_=>maybeName B>>=λm=>side>>=λWR=>key "zone">>=λ_=>expr k DEEP K>>=λz=>
  key "price">>=λ_=>expr k DEEP K>>=λp=>key "amount">>=λ_=>newName K>>=λx=>sign ":">>=λ_=>expr k DEEP (K.with x)>>=λq=>behind "under" (knownBlock B)>>=λu=>behind "group" (expr k DEEP K)>>=λg=>sign ";">>=λ_=>
  pure (.block m WR z p x q u g,K,kr m B):P (Stmt×Known×Blocks)) t:=by
 rw[stmt];show(if He t "let"=FB then _ else if He t "for"=FB then _ else if He t "if"=FB then _ else if He t "block"=FB then _ else _)=_
 rw[EI (by rw[h1];exact EE),EI (by rw[h2];exact EE),EI (by rw[h3];exact EE),EL h]
 rfl
theorem xY (h1:He t "let"=FM) (h2:He t "for"=FM) (h3:He t "if"=FM) (h4:He t "block"=FM):stmt (k+1) d K B t=(side>>=λWR=>key "zone">>=λ_=>expr k DEEP K>>=λz=>
  key "quarter">>=λ_=>expr k DEEP K>>=λq=>key "price">>=λ_=>expr k DEEP K>>=λp=>behind "to" (expr k DEEP K)>>=λtop=>key "amount">>=λ_=>expr k DEEP K>>=λa=>sign ";">>=λ_=>
  pure (.step WR z q p top a,K,B):P (Stmt×Known×Blocks)) t:=by
 rw[stmt];show(if He t "let"=FB then _ else if He t "for"=FB then _ else if He t "if"=FB then _ else if He t "block"=FB then _ else _)=_
 rw[EI (by rw[h1];exact EE),EI (by rw[h2];exact EE),EI (by rw[h3];exact EE),EI (by rw[h4];exact EE)]
theorem yi (h:Ll t "}"=FB):stmts (k+1) d K B t= .ok ((.nil,B),t.drop 1):=by
 rw[stmts];show(if Ll t "}"=FB then _ else _)=_
 rw[EL h]
theorem Au (h:Ll t "}"=FM):stmts (k+1) d K B t=(stmt k d K B>>=λs=>stmts k d s.2.1 s.2.2>>=λl=>pure (.cons s.1 l.1,l.2):P (Stmts×Blocks)) t:=by
 rw[stmts];show(if Ll t "}"=FB then _ else _)=_
 rw[EI (by rw[h];exact EE)]
end
section
variable {K:Known}
theorem xz (h:n≠0):params (k+1) n K t=(newName K>>=λx=>ifSign ",">>=λm=>(if m=FB then(params k (n-1) (K.with x)>>=λl=>pure (x::l)) else(sign ")">>=λ_=>pure [x])):P (EA FJ)) t:=by
 rw[params];show(if n=0 then _ else _)=_
 rw[EI h]
theorem ur (h:n=0):params (k+1) n K t=fail 7 t:=by
 rw[params];show(if n=0 then _ else _)=_
 rw[EL h]
theorem AM (h:peek t= .eof):tops (k+1) K n D t= .ok ([],t):=by
 rw[tops];show(if peek t= .eof then _ else _)=_
 rw[EL h]
theorem uq (h0:peek t≠ .eof) (h:He t "const"=FB):tops (k+1) K n D t=(next>>=λ_=>newName K>>=λx=>sign "=">>=λ_=>expr k DEEP K>>=λe=>sign ";">>=λ_=>tops k (K.with x) n D>>=λl=>pure (.const x e::l):P Sheet) t:=by
 rw[tops];show(if peek t= .eof then _ else if He t "const"=FB then _ else _)=_
 rw[EI h0,EL h]
theorem Aw (h0:peek t≠ .eof) (h1:He t "const"=FM) (h:He t "fun"=FB) (hn:n≠0):tops (k+1) K n D t=(next>>=λ_=>newName K>>=λx=>sign "(">>=λ_=>ifSign ")">>=λnone_=>
  (if none_=FB then give [] else params k PARAMS (K.with x))>>=λps=>sign "=">>=λ_=>expr k DEEP { K with values:=ps++K.values } >>=λe=>sign ";">>=λ_=>tops k { K with funs:=(x,ps.length)::K.funs } (n-1) D>>=λl=>pure (.func x ps e::l):P Sheet) t:=by
 rw[tops];show(if peek t= .eof then _ else if He t "const"=FB then _ else if He t "fun"=FB then(if n=0 then _ else _) else _)=_
 rw[EI h0,EI (by rw[h1];exact EE),EL h,EI hn]
theorem zb (h0:peek t≠ .eof) (h1:He t "const"=FM) (h:He t "fun"=FB) (hn:n=0):tops (k+1) K n D t=fail 7 t:=by
 rw[tops];show(if peek t= .eof then _ else if He t "const"=FB then _ else if He t "fun"=FB then(if n=0 then _ else _) else _)=_
 rw[EI h0,EI (by rw[h1];exact EE),EL h,EL hn]
def ee (D:EA FJ):P FJ:=λu=>match anyName u with
 | .error e=> .error e
 | .ok (w,r)=>if D.contains w=FB then fail 4 u else .ok (w,r)
theorem yF (h0:peek t≠ .eof) (h1:He t "const"=FM) (h2:He t "fun"=FM) (h:He t "desk"=FB):tops (k+1) K n D t=(next>>=λ_=>ee D>>=λx=>sign "{">>=λ_=>stmts k NEST K []>>=λl=>tops k K n (x::D)>>=λr=>pure (.desk x l.1::r):P Sheet) t:=by
 rw[tops];show(if peek t= .eof then _ else if He t "const"=FB then _ else if He t "fun"=FB then _ else if He t "desk"=FB then _ else _)=_
 rw[EI h0,EI (by rw[h1];exact EE),EI (by rw[h2];exact EE),EL h]
 rfl
theorem yQ (h0:peek t≠ .eof) (h1:He t "const"=FM) (h2:He t "fun"=FM) (h:He t "desk"=FM):tops (k+1) K n D t=fail 2 t:=by
 rw[tops];show(if peek t= .eof then _ else if He t "const"=FB then _ else if He t "fun"=FB then _ else if He t "desk"=FB then _ else _)=_
 rw[EI h0,EI (by rw[h1];exact EE),EI (by rw[h2];exact EE),EI (by rw[h];exact EE)]
theorem lT (D:EA FJ):aI (ee D):=λt e=>by unfold ee;rw[eI t e]
end
end OS
namespace OS
open Vbemac
def lJ:Stmt->ET FJ
 | .bind x _=>EQ x
 |_=>Fa
def Dj (K:Known) (s:Stmt) (K':Known):Prop:=match lJ s with
 |some x=>K'=K.with x/\K.taken x=FM
 |none=>K'=K
def jx (ss:EA Stmt):EA FJ:=ss.filterMap lJ
def B4:EA Stmt->Stmts->Stmts
 |[],l=>l
 |s::r,l=> .cons s (B4 r l)
theorem sx:B4 (ss++[x]) l=B4 ss (.cons x l):=by
 induction ss with
 |nil=>rfl
 |cons y r ih=>show Stmts.cons y (B4 (r++[x]) l)=_;rw[ih];rfl
structure g8 (K:Known) (ss:EA Stmt) (K':Known):Prop where
 funs:K'.funs=K.funs
 vals:K'.values=(jx ss).reverse++K.values
 nodup:(jx ss).Nodup
 free: ∀x∈jx ss,x∉K.values
theorem g8.nil {K:Known} :g8 K [] K:=#[FS,FS,Mb,λ_ z=>nomatch z]
theorem g8.snoc {K K1 K2:Known}(h:g8 K ss K1) (h2:Dj K1 s K2):g8 K (ss++[s]) K2:=by
 unfold Dj at h2;cases e:lJ s with
 |none=>
  rw[e] at h2;have h2:K2=K1:=h2;have:jx (ss++[s])=jx ss:=by unfold jx;rw[SG];simp [e]
  rw[h2];exact#[h.funs,by rw[this];exact h.vals,by rw[this];exact h.nodup,by rw[this];exact h.free]
 |some x=>
  rw[e] at h2;obtain⟨rfl,ht⟩:=h2;have:jx (ss++[s])=jx ss++[x]:=by unfold jx;rw[SG];simp [e]
  unfold Known.taken at ht;rw[Lx] at ht;have nc:x∉K1.values:=λz=>by rw[FK.mpr z] at ht;cases ht.1
  rw[h.vals] at nc;refine#[h.funs,?_,?_,?_]
  ·rw[this]
   show x::K1.values=_
   rw[h.vals,T6]
   rfl
  ·rw[this,KO]
   refine#[h.nodup,FI.mpr #[GZ,Mb],λa ha b hb=>?_];rw[Fd.mp hb];intro z;exact nc (Fp.mpr (.inl (Js.mpr (by rw[<-z];exact ha))))
  ·rw[this]
   intro y hy z;rcases Fp.mp hy with hy|hy
   ·exact h.free y hy z
   ·rw[Fd.mp hy] at z
    exact nc (Fp.mpr (.inr z))
end OS
namespace OS
open Vbemac
abbrev gR:=Top×Known×E1×EA FJ
def aaV (k:E1) (K:Known) (n:E1) (D:EA FJ):P gR:=newName K>>=λx=>sign "(">>=λ_=>ifSign ")">>=λnone_=>(if none_=FB then give [] else params k PARAMS (K.with x))>>=λps=>sign "=">>=λ_=>
 expr k DEEP { K with values:=ps++K.values } >>=λe=>sign ";">>=λ_=>pure (.func x ps e,{ K with funs:=(x,ps.length)::K.funs },n-1,D)
def vC (k:E1) (K:Known) (n:E1) (D:EA FJ):P gR:=newName K>>=λx=>sign "=">>=λ_=>expr k DEEP K>>=λe=>sign ";">>=λ_=>pure (.const x e,K.with x,n,D)
def Cl (k:E1) (K:Known) (n:E1) (D:EA FJ):P gR:=ee D>>=λx=>sign "{">>=λ_=>stmts k NEST K []>>=λl=>pure (.desk x l.1,K,n,x::D)
def ib (k:E1) (K:Known) (n:E1) (D:EA FJ):P gR:=λt=>
 if He t "const"=FB then(next>>=λ_=>vC k K n D:P gR) t
 else if He t "fun"=FB then(if n=0 then fail 7 t else(next>>=λ_=>aaV k K n D:P gR) t)
 else if He t "desk"=FB then(next>>=λ_=>Cl k K n D:P gR) t
 else fail 2 t
theorem lA (k:E1) (K:Known) (n:E1) (D:EA FJ):aI (ib k K n D):=λt e=>by
 unfold ib;rw[cq e,cq e,cq e,EI EE,EI EE,EI EE];exact aG 2 t e
end OS
namespace OS
open PySem PySem.Spec L2
open PyProof.Rows hiding St
variable {P:Fz}{w:Ga}{K:EF}{mg:Fh->ET EH}{base:Gn}{a:be}
theorem ahF:d7 "=" (ED "="):=#[by decide+kernel,by decide+kernel]
theorem B6:d7 ";" (ED ";"):=#[by decide+kernel,by decide+kernel]
theorem ahG:d7 "{" (ED "{"):=#[by decide+kernel,by decide+kernel]
theorem Yf:d7 "}" (ED "}"):=#[by decide+kernel,by decide+kernel]
theorem wW:cU "sell" (ED "sell"):=#[by decide+kernel,by decide+kernel,by decide+kernel]
theorem zT:cU "buy" (ED "buy"):=#[by decide+kernel,by decide+kernel,by decide+kernel]
theorem pR:cU "amount" (ED "amount"):=#[by decide+kernel,by decide+kernel,by decide+kernel]
def dS (f:E1) (Kn:EK):EU ER:=FC "=">>=λ_=>Ff f GW Kn>>=λe=>FC ";">>=λ_=>pure e
def du (s:String) (f:E1) (Kn:EK):EU ER:=GN s>>=λ_=>Ff f GW Kn
def iS (f:E1) (Kn:EK):EU (EC×ER):=GN "amount">>=λ_=>Ge Kn>>=λx=>FC ":">>=λ_=>Ff f GW (Kn.with x)>>=λe=>pure (x,e)
def Eg {α β:Type}(Z:Zf β) (g:α->EU β):Prop:= ∀e r,E4 r= .bad->W (g e) r Z.Ro (QE Z.a Z.B Z.H0 Z.E)->QE Z.a Z.B Z.H0 Z.E 1 (HC r)
theorem Ec {α β:Type}{Z:Zf β}{g:α->EU β}(h: ∀e,aI (g e)):Eg Z g:=λe _ nb w=>(h e).K6 nb w
theorem aaW {α β:Type}{Z:Zf β}{p:EU α}{g:α->EU β}{t:EG}(h:Eg Z g) (hr:gZ p) (b:E4 t= .bad) (w:W (p>>=g) t Z.Ro (QE Z.a Z.B Z.H0 Z.E)):QE Z.a Z.B Z.H0 Z.E 1 (HC t):=by
 rw[jy] at w;rcases hr t b with e|⟨x,e⟩
 ·rw[iZ e] at w;exact w
 ·rw[xM e] at w;exact h x t b w
inductive gt {α:Type}(a:be) (args:EA V) (p:E1->EK->EU α) (c:E1) (en bt:FR) (mk:α->Fk) (vs:EA V) (H:Hp) (Q:VK) (E:XK):Prop
 |mk {β:Type}(B:Rb) (L:E1) (H0:Hp) (Ro:β->EG->Prop) (F:EA (Fk×V)) (b:FR) (t:EG) (Kn:EK) (f:E1) (g:α->EU β) (_:vs= .ref B.r::args) (_:16*t.length+c<=f) (_:en=FB->Eg ⟨a,E,B,L,H0,Ro⟩ g) (_:RS ⟨a,E,B,L,H0,Ro⟩ F b H t Kn (p f Kn>>=g))
  (_: ∀x v H' t',RS #[a,E,B,L,H0,Ro] ((mk x,v)::F) (b||bt) H' t' Kn (g x)->Q v H'):gt a args p c en bt mk vs H Q E
inductive DN {α:Type}(a:be) (pp:Rb->EU α->Prop) (val:α->V) (vs:EA V) (H:Hp) (Q:VK) (E:XK):Prop
 |mk {β:Type}(B:Rb) (L:E1) (H0:Hp) (Ro:β->EG->Prop) (F:EA (Fk×V)) (b:FR) (t:EG) (Kn:EK) (p:EU α) (g:α->EU β) (_:vs=[.ref B.r]) (_:pp B p) (_:RS ⟨a,E,B,L,H0,Ro⟩ F b H t Kn (p>>=g))
  (_: ∀x H' t',RS #[a,E,B,L,H0,Ro] F FB H' t' Kn (g x)->Q (val x) H'):DN a pp val vs H Q E
section
variable {β:Type}{Z:Zf β}{H:Hp}{p:EU β}
theorem RS.room (R:RS Z F b H t Kn p):Kn.values.length+t.length<=4000:=by
 obtain⟨n,S⟩:=R.S;exact S.kn.len
theorem RS.lL (R:RS Z F b H t Kn p):t.length<=Z.L:=Fj (Ju _ _) R.l
theorem RS.or {c:FR}(R:RS Z F FB H t Kn p):RS Z F (c||true) H t Kn p:=by rw[Pk];exact R
theorem RS.cut (n:E1) (R:RS Z F b H t Kn p):RS Z (F.drop n) b H t Kn p:=#[R.S,R.k,λ{i x} e=>R.f (i:=n+i) (by rw[<-EA.getElem?_drop];exact e),R.l,R.w]
theorem RS.asf {α:Type}{q q':EU α}{g:α->EU β}(R:RS Z F b H t Kn (q>>=g)) (e:q t=q' t):RS Z F b H t Kn (q'>>=g):=R.as (aS e)
end
section
variable {k:E1}{x Gz:Fh}{st:Stmt}{f:EJ}{fd:FL}{N ps:EA Fh}{α:Type}{args:EA V}{p:E1->EK->EU α}{c:E1}{en bt:FR}{mk:α->Fk}{val:α->V}{pp:Rb->EU α->Prop}
theorem Ef (T:aU K mg a) (XC:XT K a) (hk:8<=k) (F:oF K x Gz st f fd) (S:az N ("reader"::ps) (af st)) (hl:args.length=ps.length)
  (Jc: ∀(Gp:EH) (A:Gk) (outer:EA Env) (s:EM) (H:Hp) {β:Type}(B:Rb) (L:E1) (H0:Hp) (Ro:β->EG->Prop) (F:EA (Fk×V)) (b:FR) (t:EG) (Kn:EK) (fu:E1) (g:α->EU β) (Q:VK) (E:XK),bW k (A.deeper (Jf Gz (af st) s.heap.objs.size f Gp))->16*t.length+c<=fu->
   let X:=fi (fW P w) P w K mg base N Gz (af st) f Gp A outer s H E
   let D:eJ:= { nx:=λ_ H'=>Q .HZ H',rt:=Q }
   let Z:Zf β:=#[a,E,B,L,H0,Ro]
   (en=FB->Eg Z g)->RX X a E->RS Z F b H t Kn (p fu Kn>>=g)->(∀x v H' t',RS Z ((mk x,v)::F) (b||bt) H' t' Kn (g x)->Q v H')->Bd X (a8 st) D (L2.start N (.ref B.r::args)) H):bS P w K mg base (fW P w) (k+1) f fd ("reader"::ps) (gt a args p c en bt mk):=by
 refine fP F S (λvs H Q E h=>?_) [02]
 ·obtain⟨B,L,H0,Ro,F,b,t,Kn,fu,g,rfl,_⟩:=h
  exact FN Q0 hl
 ·obtain⟨B,L,H0,Ro,F,b,t,Kn,fu,g,rfl,h1,h2,R,q⟩:=h
  exact Jc Gp A outer s H B L H0 Ro F b t Kn fu g Q E hr h1 h2 (ku T XC hk S hr) R q
theorem ahH (T:aU K mg a) (XC:XT K a) (hk:8<=k) (F:oF K x Gz st f fd) (S:az N ["reader"] (af st))
  (Jc: ∀(Gp:EH) (A:Gk) (outer:EA Env) (s:EM) (H:Hp) {β:Type}(B:Rb) (L:E1) (H0:Hp) (Ro:β->EG->Prop) (F:EA (Fk×V)) (b:FR) (t:EG) (Kn:EK) (p:EU α) (g:α->EU β) (Q:VK) (E:XK),bW k (A.deeper (Jf Gz (af st) s.heap.objs.size f Gp))->pp B p->
   let X:=fi (fW P w) P w K mg base N Gz (af st) f Gp A outer s H E
   let D:eJ:= { nx:=λ_ H'=>Q .HZ H',rt:=Q }
   let Z:Zf β:=#[a,E,B,L,H0,Ro]
   RX X a E->RS Z F b H t Kn (p>>=g)->(∀x H' t',RS Z F FB H' t' Kn (g x)->Q (val x) H')->Bd X (a8 st) D (L2.start N [.ref B.r]) H):bS P w K mg base (fW P w) (k+1) f fd ["reader"] (DN a pp val):=by
 refine fP F S [03] [02];obtain⟨B,L,H0,Ro,F,b,t,Kn,p,g,rfl,h1,R,q⟩:=h;exact Jc Gp A outer s H B L H0 Ro F b t Kn p g Q E hr h1 (ku T XC hk S hr) R q
end
section
variable {β:Type}{Z:Zf β}{H:Hp}{E:XK}{Q:VK}{sp:Sp}{p:EU β}
theorem eZ (Y:RX X a E) (c:CB X x ["reader"] sp) (q:sp [.ref B] H Q E) (hx:(x == ("__debug__":Fh))=FM:=by decide):Pe X (.Call (.Name x p1) [.Name "reader" p2] [] p4) (EQ (.ref B)::σ) H Q:=by
 obtain⟨G,hr,d,hg⟩:=c;exact#[_,aL G hr hg d Y.up (aa Y.rd ag) hx,q]
theorem vV (Y:RX X a E) (c:CB X x ["reader","word"] sp) (q:sp [.ref B, .str v] H Q E) (hx:(x == ("__debug__":Fh))=FM:=by decide):Pe X (.Call (.Name x p1) [.Name "reader" p2, .Constant (.str v) j p3] [] p4) (EQ (.ref B)::σ) H Q:=by
 obtain⟨G,hr,d,hg⟩:=c;exact#[_,aL G hr hg d Y.up (aa Y.rd (aa dG ag)) hx,q]
end
abbrev m6 (P:Fz) (w:Ga) (K:EF) (mg:Fh->ET EH) (base:Gn) (a:be) (k:E1):Prop:=bS P w K mg base (fW P w) k a.f_c a.adS ["reader","depth"] (aV a FB Ff 12 (Lv 13))
theorem ya {Kn:EK}{t:EG} :Lv 13 0 Kn t:=by show 13<=0+13;decide
theorem ahI (T:aU K mg a) (XC:XT K a) (hk:8<=k) (G:m6 P w K mg base a k):
  T.Xc.O P w base (k+1) (gt a [] dS 12 FM FB .e):=by
 refine Ef T XC hk T.Xc.F akC rfl λGp A outer s H β B L H0 Ro F b t Kn fu g Q E hr hf=>?_;intro X D Z _ Y R q;have c:CB X "read_exp" ["reader","depth"] (aV a FB Ff 12 (Lv 13)):=#[G,hr,T.RM.c,FS];have lL:=R.lL;have hF:16*(Z.at t.length).L+12<=fu+16:=Fj hf (Ju _ _);have R:RS (Z.at t.length) F FM H t Kn (FC "=">>=λ_=>Ff fu GW Kn>>=λe=>FC ";">>=λ_=>g e):=by
  have:=R.at;simp only[dS,bind_assoc,pure_bind] at this;exact this
 refine cB (Z:=Z.at t.length) Y ahF R λH t R=>?_;refine eG (Z:=Z.at _) (d:=0) 1 Y c aj [05] R (nz λx=>(bf ";").bind) (Fs _) ya hF λe v H t R=>?_;refine cB (Z:=Z.at _) Y B6 R λH t R=>?_;exact aJ (bv 1 (q e v H t (R.back lL).or))
theorem aaX {v:Fh}{s:String}(lit:cU v (ED s)) (T:aU K mg a) (XC:XT K a) (hk:8<=k) (G:m6 P w K mg base a k):
  T.Wx.O P w base (k+1) (gt a [.str v] (du s) 12 FB FB .e):=by
 refine Ef T XC hk T.Wx.F akE rfl λGp A outer s0 H β B L H0 Ro F b t Kn fu g Q E hr hf=>?_;intro X D Z en Y R q;have lL:=R.lL;have R:RS (Z.at t.length) F FM H t Kn (GN s>>=λ_=>Ff fu GW Kn>>=g):=by
  have:=R.at;simp only[du,bind_assoc] at this;exact this
 refine xh (Z:=Z.at t.length) Y R (pv 1) [05] (λr _ ok=>lit.p r ok) λH t1 R=>?_;have l1:t1.length+1<=t.length:=R.l;exact aJ #[_,Y.call2 #[G,hr,T.RM.c,FS] aj [01] rfl,RS.call (Z:=Z.at _) (d:=0) R (en rfl) (Fs _) ya (by lia) λe v H t _ R=>q e v H t (R.back lL).or]
theorem pQ {α:Type}{s:String}{p:EU α}{t:EG}(h:EV t s=FB):GJ s p t=(GN s>>=λ_=>p>>=λx=>pure (EQ x):EU (ET α)) t:=by
 unfold GJ;rw[EL h];have e:(GN s>>=λ_=>p>>=λx=>pure (EQ x):EU (ET α)) t=(p>>=λx=>pure (EQ x):EU (ET α)) (t.drop 1):=by
  show(Fi (GN s) _) t=_
  unfold Fi GN;rw[EL h]
  rfl
 rw[e];show _=(Fi p _) (t.drop 1);unfold Fi;cases p (t.drop 1) with
 |error e=>rfl
 |ok z=>rfl
theorem oy {α:Type}{s:String}{p:EU α}{t:EG}(h:EV t s=FM):GJ s p t= .ok (Fa,t):=by
 unfold GJ;rw[EI (by rw[h];exact EE)]
theorem ahJ {v:Fh}{s:String}(lit:cU v (ED s)) (T:aU K mg a) (XC:XT K a) (hk:8<=k)
  (G:T.Wx.O P w base k (gt a [.str v] (du s) 12 FB FB .e)):
  T.d_A.O P w base (k+1) (gt a [.str v] (λf Kn=>GJ s (Ff f GW Kn)) 12 FB FM .o):=by
 refine Ef T XC hk T.d_A.F akF rfl λGp A outer s0 H β B L H0 Ro F b t Kn fu g Q E hr hf=>?_;intro X D Z en Y R q;have en:=en rfl;refine bE (jm (dv (me Y R (pv 1) [05] (λbd=>aaW en (ga s _) bd R.w) λnb=>#[_,FS,?_])));rw[bZ R.tok lit];cases Z4:(E4 t == GV (ED s)) with
 |false=>
  refine cg (aJ (oB (q Fa .HZ H t (RS.and ?_ rfl))));rw[Oo];exact R.as (bG (oy Z4))
 |true=>
  have R:RS Z F b H t Kn (du s fu Kn>>=λx=>g (EQ x)):=by
   have:=R.asf (pQ Z4);simp only[du,bind_assoc,pure_bind] at this ⊢;exact this
  refine bK (aJ #[_,aL G hr (by rfl) T.Wx.c Y.up (aa Y.rd (aa (pv 1) ag)),Z.B,Z.L,Z.H0,Z.Ro,F,b,t,Kn,fu,_,FS,hf,λ_ x r b w=>en (EQ x) r b w,R,λx v H' t' R=>q (EQ x) v H' t' ?_]);obtain⟨S,k,f,l,w⟩:=R;refine#[S,k,λ{i y} e=>?_,Fj (Ux (by cases b<;>decide) _) l,w];cases i with
  |zero=>cases e;exact f (i:=0) (x:=(.e x,v)) rfl
  |succ i=>exact f (i:=i+1) e
inductive vX (a:be) (vs:EA V) (H:Hp) (Q:VK) (E:XK):Prop
 |mk (r q kd fn ds bl:EJ) (n:E1) (x:F5×FT) (t:EG) (d:E1) (_:vs=[.ref r, .int d]) (_:mw a H r q kd fn ds bl n (x::t)) (_:(d=6->nX a.Hd E H (if x.1= .bad then 1 else 6) x.2)) (_:(d≠6->Q (.int ((d+1:E1):Int)) H)):vX a vs H Q E
def Bk (bl:X3) (B:Hm):Prop:= ∀u,has bl.c u=B.contains u
theorem ahK (T:aU K mg a) (XC:XT K a):T.Zl.O P w base 6 (vX a):=by
 have Us:=fE (P:=P) (w:=w) (base:=base) T XC;refine fP T.Zl.F agy [03] [02];obtain⟨r,q,kd,fn,ds,bl,n,x,t,d,rfl,R,hf,hg⟩:=h;obtain⟨dr,er⟩:=R.ins;refine#[_,(ax (cy (a7 b7 (pv 1) (aR (by rfl) T.QG) (aM _)) (ah (bi (cx (pv 0) T.Fy T.Vq.c Us (hr.mono (by lia)) aA (aa (aR (by rfl) T.Qg) ag)))) br)
   (ah (aK (ca dU (pv 1) aj)))),?_]
 refine#[FS,_,FS,?_];rw[cn];refine aP (λe=>?_) λe=>?_
 ·have:=Ft e
  exact#[r,dr,_,FS,er,FS,r,q,kd,fn,ds,bl,n,x,t,6,FS,R,hf (by lia)]
 ·have:=Fw e
  exact#[_,_,FS,FS,hg (by lia)]
section
variable {β:Type}{Z:Zf β}{H:Hp}
theorem rP (i:E1) {g:E1->EU β}(Y:RX X Z.a Z.E) (hd:d<=6) (nb:E4 t≠ .bad) (R:RS Z F b H t Kn (GS (6-d)>>=g)) (q:d<6->RS Z F b H t Kn (g (6-(d+1)))->Bd X ss D ((EQ (.ref Z.B.r)::EQ (.int d)::σ).set i (EQ (.int ((d+1:E1):Int)))) H)
  (h:Sl X i y:=by exact#[FS,Gx rfl,FS]) (h1:X.N[1]?=EQ ("depth":Fh):=by rfl) (v1:oH X.env.scope "depth":=by exact Gx rfl) (hg:Gl X "deeper_braces":=by rfl):
  Bd X (.Assign [.Name y p0] (.Call (.Name "deeper_braces" p1) [.Name "reader" p2, .Name "depth" p3] [] p4) p5::ss) D (EQ (.ref Z.B.r)::EQ (.int d)::σ) H:=by
 obtain⟨n,S⟩:=R.S;obtain⟨⟨x,xp⟩,t',rfl,tok,Ql,Ma,_⟩:=S.wh.first;have hW:=R.w;rw[jy] at hW;have nx:x≠ .bad:=nb;refine aN i Y.nd (h:=h) #[_,Y.call2 #[ahK Y.T Y.C,Y.hr.mono [01],Y.T.Zl.c,hg] (dX h1 v1) [01] rfl,Z.B.r,Z.B.q,Z.B.kd,Z.B.fn,Z.B.ds,Z.B.bl,n,(x,xp),t',d,FS,S.rd,λe=>?_,λe=>?_]
 ·rw[EI nx]
  exact fF (p:=GS (6-d)) (n:=6) (by unfold GS;rw[EL (by lia)]) nb hW H R.k
 ·have ed:GS (6-d) ((x,xp)::t')= .ok (6-(d+1),(x,xp)::t'):=by unfold GS;rw[EI (by lia),show 6-d-1=6-(d+1) by lia]
  rw[xM ed] at hW;exact q (by lia) #[R.S,R.k,R.f,R.l,hW]
theorem aaY {p:EU β}{C:FR->Hp->Prop}(Y:RX X Z.a Z.E) (R:RS Z F b H ((.word u,xp)::t) Kn p) (hB:Bk Z.B.bl Bs) (q:C (!Bs.contains u) H) (hp:ig p2 p4:=by rfl):
  Pt X (.Compare (.Attribute (.Call (.Attribute (.Name "reader" p1) "current" p2) [] [] p4) "value" p5) [.NotIn] [.Attribute (.Name "reader" p6) "blocks" p7] p3) (EQ (.ref Z.B.r)::σ) H C:=by
 obtain⟨n,S⟩:=R.S;obtain⟨dr,er⟩:=S.rd.ins;refine#[_,fC (iW (dq Y.hr) dj (ao Y.rd rfl)),vx Y R (λb=>nomatch b) (λ_=>#[Z.B.r,_,dr,_,_,FS,er,Y.T.Fy,Y.T.Jl,FS,Z.B.bl.p,_,FS,gv.k (k:=nk u) S.RB,_,FS,?_]) hp]
 have:=hB u;unfold has at this;rw[this];exact q
end
theorem yA {t:EG}(h:(x.1 == .word (ED "sell"))=FB):Ib (x::t)= .ok (FM,t):=by
 unfold Ib;rw[EL (show EV (x::t) "sell"=FB from h)]
 rfl
theorem Cp {t:EG}(h0:(x.1 == .word (ED "sell"))=FM) (h:(x.1 == .word (ED "buy"))=FB):Ib (x::t)= .ok (FB,t):=by
 unfold Ib;rw[EI (by rw[show EV (x::t) "sell"=FM from h0];exact EE),EL (show EV (x::t) "buy"=FB from h)]
 rfl
theorem wQ {t:EG}(h0:(E4 t == .word (ED "sell"))=FM) (h:(E4 t == .word (ED "buy"))=FM):Ib t=E9 2 t:=by
 unfold Ib;rw[EI (by rw[show EV t "sell"=FM from h0];exact EE),EI (by rw[show EV t "buy"=FM from h];exact EE)]
theorem ahL (T:aU K mg a) (XC:XT K a):T.Zm.O P w base 9 (DN a (λ_ p=>p=Ib) jJ):=by
 refine ahH T XC (E6 _) T.Zm.F agB λGp A outer s0 H β B L H0 Ro F b t Kn p g Q E hr hp=>?_;intro X D Z Y R q;subst hp;obtain⟨⟨x,xp⟩,r,rfl⟩:=R.cons;have v1:lU "sell" (E4 ((x,xp)::r))=(x == .word (ED "sell")):=bZ R.tok wW;have v2:lU "buy" (E4 ((x,xp)::r))=(x == .word (ED "buy")):=bZ R.tok zT;refine bE (CL (jm (dv (io Y R lD.bind λnb=>#[_,FS,?_]))));rw[v1];cases e1:(x == GV (ED "sell")) with
 |true=>
  obtain rfl:=beq_iff_eq.mp e1;refine bK (bK (aJ (iA Y (R.as (p':=F3>>=λ_=>g FM) (bG (yA e1))) Yb λH R=>?_)));show Q (.str (sb (ED "sell"))) H;rw[<-wW.1];exact q FM H r R
 |false=>
  refine cg (jm (dv (iV Y R nb #[_,FS,?_])));rw[v2];cases e2:(x == GV (ED "buy")) with
  |true=>
   obtain rfl:=beq_iff_eq.mp e2;refine bK (aJ (iA Y (R.as (p':=F3>>=λ_=>g FB) (bG (Cp e1 e2))) Yb λH R=>?_));show Q (.str (sb (ED "buy"))) H;rw[<-zT.1];exact q FB H r R
  |false=>exact cg (bA (qU Y (aR (by rfl) T.Oa) R nb ((aS (wQ (t:=(x,xp)::r) e1 e2)).trans rfl)))
theorem ahM (T:aU K mg a) (XC:XT K a) (hk:8<=k) (G:m6 P w K mg base a k):
  T.Wy.O P w base (k+1) (gt a [] iS 12 FB FB .am):=by
 refine Ef T XC hk T.Wy.F agC rfl λGp A outer s0 H β B L H0 Ro F b t Kn fu g Q E hr hf=>?_;intro X D Z en Y R q;have lL:=R.lL;have hm:Kn.values.length+(Z.at t.length).L<=4000:=R.room;have R:RS (Z.at t.length) F FM H t Kn (GN "amount">>=λ_=>Ge Kn>>=λx=>FC ":">>=λ_=>Ff fu GW (Kn.with x)>>=λe=>g (x,e)):=by
  have:=R.at;simp only[iS,bind_assoc,pure_bind] at this;exact this
 refine kP (Z:=Z.at t.length) Y pR R λH t1 R=>?_;refine i4 (Z:=Z.at t.length) 1 Y R λu H t2 ft R=>?_;refine cB (Z:=Z.at t.length) Y Ya R λH t3 R=>?_;refine gG (Z:=Z.at t.length) Y (pv 1) [05] ft hm R λH R=>?_;refine eG (Z:=Z.at t.length) (d:=0) 2 Y #[G,hr,T.RM.c,FS] aj [05] R (λe r b w=>en rfl (u,e) r b w) (Fs _) ya (by show 16*t.length+12<=fu+16;lia) λe v H t4 R=>?_;refine ld (Z:=Z.at t.length) Y (pv 1) [05] ft R λH R=>?_;refine g9 (Z:=Z.at t.length) Y (uZ T) (aa (pv 1) (aa (pv 2) ag)) [05] R rfl λw H i R=>?_;have R:=(RS.back (Z:=Z) lL R).or (c:=b);obtain⟨S,k,f,l,w'⟩:=R;have fe:=f (i:=0) rfl;refine q (u,e) w H t4 #[S,k,λ{j y} z=>?_,l,w'];cases j with
 |zero=>cases z;exact#[v,i,fe]
 |succ j=>exact f (i:=j+1) z
theorem lP {t:EG}(hk:FZ.contains u=FM):IB B ((.word u,xp)::t)=if B.contains u=FB then .ok (u,t) else E9 3 ((.word u,xp)::t):=by
 unfold IB;rw[cT,EI (by rw[hk];exact EE)]
theorem mG {t:EG}(h:cN x.1=FM):VS (x::t)=E9 2 (x::t):=by
 obtain⟨x,xp⟩:=x;cases x with
 |word u=>
  have h:cN (.word u)=FM:=h;rw[dB] at h;rw[cT,EL (by cases e:FZ.contains u;rw[e] at h;cases h;rfl)]
 |_=>rfl
theorem ahN (T:aU K mg a) (XC:XT K a):T.Zn.O P w base 9 (DN a (λB p=> ∃Bs,Bk B.bl Bs/\p=IB Bs) λu=> .str (sb u)):=by
 refine ahH T XC (E6 _) T.Zn.F agD λGp A outer s0 H β B L H0 Ro F b t Kn p g Q E hr hp=>?_;intro X D Z Y R q;obtain⟨Bs,hB,rfl⟩:=hp;obtain⟨⟨x,xp⟩,r,rfl⟩:=R.cons;refine bA (p_g Y R (jS Bs).bind (λ_ e=>(aS (q:=E9 2) ?_).trans rfl) λnb e=>?_)
 ·unfold IB
  rw[mG e]
  rfl
 obtain⟨u,rfl,hu⟩:=gD e;have ek:=lP (xp:=xp) (t:=r) (B:=Bs) hu;refine bE (aaY Y R hB (aP (λh=>?_) λh=>?_))
 ·rw[U8] at h
  rw[h,EI EE] at ek;exact bA (qU Y (aR (by rfl) T.PF) R nb ((aS (q:=E9 3) ek).trans rfl))
 ·rw[OP] at h
  rw[h,EL rfl] at ek;exact aJ (iA Y (R.as (p':=F3>>=λ_=>g u) (bG ek)) Yb λH R=>q u H r R)
theorem Ab:cU "let" (ED "let"):=#[by decide+kernel,by decide+kernel,by decide+kernel]
theorem vK:cU "zone" (ED "zone"):=#[by decide+kernel,by decide+kernel,by decide+kernel]
theorem uo:cU "quarter" (ED "quarter"):=#[by decide+kernel,by decide+kernel,by decide+kernel]
theorem si:cU "price" (ED "price"):=#[by decide+kernel,by decide+kernel,by decide+kernel]
theorem Yg:cU "to" (ED "to"):=#[by decide+kernel,by decide+kernel,by decide+kernel]
theorem tG:cU "block" (ED "block"):=#[by decide+kernel,by decide+kernel,by decide+kernel]
theorem tW:cU "under" (ED "under"):=#[by decide+kernel,by decide+kernel,by decide+kernel]
theorem rR:cU "group" (ED "group"):=#[by decide+kernel,by decide+kernel,by decide+kernel]
abbrev X3.at_ (bl:X3) (c:EA (a0×V)):X3:=#[bl.p,c,bl.x]
abbrev Rb.bk (B:Rb) (c:EA (a0×V)):Rb:= { B with bl:=B.bl.at_ c }
abbrev At:=Gv×EK×Hm
inductive mz (a:be) (av:E1->EA V) (ok:E1->EG->Prop) (vs:EA V) (H:Hp) (Q:VK) (E:XK):Prop
 |mk {β:Type}(B:Rb) (L:E1) (H0:Hp) (Ro:β->EG->Prop) (F:EA (Fk×V)) (b:FR) (t:EG) (Kn:EK) (Bs:Hm) (d f:E1) (g:At->EU β) (_:vs= .ref B.r::av d) (_:d<=6) (_:ok d t) (_:16*t.length+14<=f) (_:Bk B.bl Bs) (_:B.bl.c.length+t.length<=4000) (_:Eg ⟨a,E,B,L,H0,Ro⟩ g) (_:RS ⟨a,E,B,L,H0,Ro⟩ F b H t Kn (Kv f (6-d) Kn Bs>>=g))
  (_: ∀s v H' t' c',Dj Kn s.1 s.2.1->Bk (B.bl.at_ c') s.2.2->c'.length+t'.length<=4000->RS #[a,E,B.bk c',L,H0,Ro] ((.st s.1,v)::F) FB H' t' s.2.1 (g s)->Q v H'):mz a av ok vs H Q E
section
variable {k:E1}{x Gz:Fh}{st:Stmt}{f:EJ}{fd:FL}{N ps:EA Fh}{av:E1->EA V}{ok:E1->EG->Prop}
theorem xL (T:aU K mg a) (XC:XT K a) (hk:8<=k) (F:oF K x Gz st f fd) (S:az N ("reader"::ps) (af st)) (hl: ∀d,(av d).length=ps.length)
  (Jc: ∀(Gp:EH) (A:Gk) (outer:EA Env) (s:EM) (H:Hp) {β:Type}(B:Rb) (L:E1) (H0:Hp) (Ro:β->EG->Prop) (F:EA (Fk×V)) (b:FR) (t:EG) (Kn:EK) (Bs:Hm) (d fu:E1) (g:At->EU β) (Q:VK) (E:XK),bW k (A.deeper (Jf Gz (af st) s.heap.objs.size f Gp))->d<=6->ok d t->16*t.length+14<=fu->Bk B.bl Bs->B.bl.c.length+t.length<=4000->
   let X:=fi (fW P w) P w K mg base N Gz (af st) f Gp A outer s H E
   let D:eJ:= { nx:=λ_ H'=>Q .HZ H',rt:=Q }
   let Z:Zf β:=#[a,E,B,L,H0,Ro]
   Eg Z g->RX X a E->RS Z F b H t Kn (Kv fu (6-d) Kn Bs>>=g)->(∀s v H' t' c',Dj Kn s.1 s.2.1->Bk (B.bl.at_ c') s.2.2->c'.length+t'.length<=4000->RS #[a,E,B.bk c',L,H0,Ro] ((.st s.1,v)::F) FB H' t' s.2.1 (g s)->Q v H')->Bd X (a8 st) D (L2.start N (.ref B.r::av d)) H):bS P w K mg base (fW P w) (k+1) f fd ("reader"::ps) (mz a av ok):=by
 refine fP F S (λvs H Q E h=>?_) [02]
 ·obtain⟨B,L,H0,Ro,F,b,t,Kn,Bs,d,fu,g,rfl,_⟩:=h
  exact FN Q0 (hl d)
 ·obtain⟨B,L,H0,Ro,F,b,t,Kn,Bs,d,fu,g,rfl,h1,h2,h3,h4,h5,h6,R,q⟩:=h
  exact Jc Gp A outer s H B L H0 Ro F b t Kn Bs d fu g Q E hr h1 h2 h3 h4 h5 h6 (ku T XC hk S hr) R q
end
section
variable {β:Type}{Z:Zf β}{H:Hp}
theorem ja (i:E1) {g:ER->EU β}(Y:RX X Z.a Z.E) (c:CB X "read_part" ["reader","word"] (gt Z.a [.str v] (du s) 12 FB FB .e)) (R:RS Z F FB H t Kn (du s f Kn>>=g)) (hf:16*Z.L+12<=f+16) (en: ∀e,aI (g e)) (q: ∀e v H' t',RS Z ((.e e,v)::F) FB H' t' Kn (g e)->Bd X ss D ((EQ (.ref Z.B.r)::σ).set i (EQ v)) H')
  (h:Sl X i y:=by exact#[FS,Gx rfl,FS]):Bd X (.Assign [.Name y p0] (.Call (.Name "read_part" p1) [.Name "reader" p2, .Constant (.str v) j p3] [] p4) p5::ss) D (EQ (.ref Z.B.r)::σ) H:=by
 have l:t.length+1<=Z.L:=R.l;exact aN i Y.nd (vV Y c #[Z.B,Z.L,Z.H0,Z.Ro,F,FB,t,Kn,f,g,FS,by lia,λ_=>Ec en,R,q]) h
theorem pL (i:E1) {g:ET ER->EU β}(Y:RX X Z.a Z.E) (c:CB X "read_part_if_there" ["reader","word"] (gt Z.a [.str v] (λf Kn=>GJ s (Ff f GW Kn)) 12 FB FM .o)) (R:RS Z F FB H t Kn (GJ s (Ff f GW Kn)>>=g)) (hf:16*Z.L+12<=f+16) (en: ∀e,aI (g e)) (q: ∀e v H' t',RS Z ((.o e,v)::F) FB H' t' Kn (g e)->Bd X ss D ((EQ (.ref Z.B.r)::σ).set i (EQ v)) H')
  (h:Sl X i y:=by exact#[FS,Gx rfl,FS]):Bd X (.Assign [.Name y p0] (.Call (.Name "read_part_if_there" p1) [.Name "reader" p2, .Constant (.str v) j p3] [] p4) p5::ss) D (EQ (.ref Z.B.r)::σ) H:=by
 have l:t.length+1<=Z.L:=R.l;exact aN i Y.nd (vV Y c #[Z.B,Z.L,Z.H0,Z.Ro,F,FB,t,Kn,f,g,FS,by lia,λ_=>Ec en,R,q]) h
theorem ou (i:E1) {g:ER->EU β}(Y:RX X Z.a Z.E) (c:CB X "read_given" ["reader"] (gt Z.a [] dS 12 FM FB .e)) (R:RS Z F FB H t Kn (dS f Kn>>=g)) (hf:16*Z.L+12<=f+16) (q: ∀e v H' t',RS Z ((.e e,v)::F) FB H' t' Kn (g e)->Bd X ss D ((EQ (.ref Z.B.r)::σ).set i (EQ v)) H')
  (h:Sl X i y:=by exact#[FS,Gx rfl,FS]):Bd X (.Assign [.Name y p0] (.Call (.Name "read_given" p1) [.Name "reader" p2] [] p4) p5::ss) D (EQ (.ref Z.B.r)::σ) H:=by
 have l:t.length+1<=Z.L:=R.l;exact aN i Y.nd (eZ Y c #[Z.B,Z.L,Z.H0,Z.Ro,F,FB,t,Kn,f,g,FS,by lia,(λz=>nomatch z),R,q]) h
theorem wP (i:E1) {g:FR->EU β}(Y:RX X Z.a Z.E) (R:RS Z F b H t Kn (Ib>>=g)) (hr:bW 9 X.A) (q: ∀e H' t',RS Z F FB H' t' Kn (g e)->Bd X ss D ((EQ (.ref Z.B.r)::σ).set i (EQ (jJ e))) H')
  (h:Sl X i y:=by exact#[FS,Gx rfl,FS]) (hg:Gl X "read_side":=by rfl):Bd X (.Assign [.Name y p0] (.Call (.Name "read_side" p1) [.Name "reader" p2] [] p4) p5::ss) D (EQ (.ref Z.B.r)::σ) H:=
 aN i Y.nd (eZ Y #[ahL Y.T Y.C,hr,Y.T.Zm.c,hg] #[Z.B,Z.L,Z.H0,Z.Ro,F,b,t,Kn,_,g,FS,FS,R,q]) h
end
section
variable {K:EK}{β:Type}{g:At->EU β}
theorem aaZ (h:EV t "let"=FB):(Kv (k+1) d K B>>=g) t=(F3>>=λ_=>Ge K>>=λx=>dS k K>>=λe=>g (.bind x e,K.with x,B)) t:=by
 rw[aS (BQ h)];simp only[dS,bind_assoc,pure_bind]
theorem D4 (h1:EV t "let"=FM) (h2:EV t "for"=FM) (h3:EV t "if"=FM) (h4:EV t "block"=FM):(Kv (k+1) d K B>>=g) t=(Ib>>=λWR=>du "zone" k K>>=λz=>du "quarter" k K>>=λq=>du "price" k K>>=λp=>GJ "to" (Ff k GW K)>>=λtop=>du "amount" k K>>=λa=>FC ";">>=λ_=>g (.step WR z q p top a,K,B)) t:=by
 rw[aS (xY h1 h2 h3 h4)];simp only[du,bind_assoc,pure_bind]
end
theorem alv (T:aU K mg a) (XC:XT K a) (hk:8<=k) (G:T.Xc.O P w base k (gt a [] dS 12 FM FB .e)):
  T.d_W.O P w base (k+1) (mz a (λ_=>[]) λ_ t=>EV t "let"=FB):=by
 refine xL T XC hk T.d_W.F akD (λ_=>rfl) λGp A outer s H β B L H0 Ro F b t Kn Bs d fu g Q E hr hd ho hf hB hc=>?_;intro X D Z en Y R q;have lL:=R.lL;have hm:Kn.values.length+(Z.at t.length).L<=4000:=R.room;obtain⟨xp,r,rfl⟩:=e7 R (beq_iff_eq.mp ho);obtain⟨f,rfl⟩: ∃f,fu=f+1:=#[fu-1,by lia];have hF:16*(Z.at (((GV (ED "let"),xp)::r).length)).L+12<=f+16:=by show 16*((GV (ED "let"),xp)::r).length+12<=f+16;lia
 refine iL (Z:=Z.at _) Y Ab (R.at.as (aaZ ho)) λH t R=>?_;refine i4 (Z:=Z.at _) 1 Y R λu H t ft R=>?_;refine ou (Z:=Z.at _) 2 Y #[G,hr,T.Xc.c,FS] R hF λe v H t R=>?_;refine gG (Z:=Z.at _) Y (pv 1) [05] ft hm R λH R=>?_;refine g9 (Z:=Z.at _) Y (aaz T) (aa (pv 1) (aa (pv 2) ag)) [05] R rfl λw H i R=>?_;have l:t.length+1<=r.length+1:=R.l;have R:=RS.back (Z:=Z) lL R;refine q (.bind u e,Kn.with u,Bs) w H t B.bl.c ⟨rfl,ft⟩ hB (by rw[EZ] at hc;lia) ((R.cut 1).and ?_);show aZ a (eQ B) H (.bind u e) w;unfold aZ;exact#[v,i,R.f (i:=0) rfl]
theorem alw (T:aU K mg a) (XC:XT K a) (hk:9<=k)
  (G1: ∀ {v:Fh}{s:String},cU v (ED s)->T.Wx.O P w base k (gt a [.str v] (du s) 12 FB FB .e))
  (G2:T.d_A.O P w base k (gt a [.str "to"] (λf Kn=>GJ "to" (Ff f GW Kn)) 12 FB FM .o)):
  T.d_X.O P w base (k+1) (mz a (λ_=>[]) λ_ t=>EV t "let"=FM/\EV t "for"=FM/\EV t "if"=FM/\EV t "block"=FM):=by
 refine xL T XC (by lia) T.d_X.F akG (λ_=>rfl) λGp A outer s H β B L H0 Ro F b t Kn Bs d fu g Q E hr hd ho hf hB hc=>?_;intro X D Z en Y R q;have lL:=R.lL;obtain⟨n1,n2,n3,n4⟩:=ho;obtain⟨f,rfl⟩: ∃f,fu=f+1:=#[fu-1,by lia];have hF:16*(Z.at t.length).L+12<=f+16:=by show 16*t.length+12<=f+16;lia
 have cp: ∀ {v:Fh}{s:String},cU v (ED s)->CB X "read_part" ["reader","word"] (gt a [.str v] (du s) 12 FB FB .e):=λl=>#[G1 l,hr,T.Wx.c,FS]
 have ps: ∀ {γ:Type}{s:String}{f:E1}{h:ER->EU γ},aI (du s f Kn>>=h):=(eW _).bind.bind;refine wP (Z:=Z.at t.length) 1 Y (R.at.as (D4 n1 n2 n3 n4)) (hr.mono hk) λbu H t1 R=>?_
 refine ja (Z:=Z.at t.length) 2 Y (cp vK) R hF (λ_=>ps) λe1 v1 H t2 R=>?_;refine ja (Z:=Z.at t.length) 3 Y (cp uo) R hF (λ_=>ps) λe2 v2 H t3 R=>?_;refine ja (Z:=Z.at t.length) 4 Y (cp si) R hF (λ_=>(ga "to" _).strict λ_=>ps) λe3 v3 H t4 R=>?_;refine pL (Z:=Z.at t.length) 5 Y #[G2,hr,T.d_A.c,FS] R hF (λ_=>ps) λe4 v4 H t5 R=>?_;refine ja (Z:=Z.at t.length) 6 Y (cp pR) R hF (λ_=>(bf ";").bind) λe5 v5 H t6 R=>?_;refine cB (Z:=Z.at t.length) Y B6 R λH t7 R=>?_;refine g9 (Z:=Z.at t.length) Y (Ey T) (aa (pv 1) (aa (pv 2) (aa (pv 3) (aa (pv 4) (aa (pv 5) (aa (pv 6) ag)))))) [05] R rfl λw H i R=>?_;have l:t7.length+1<=t.length:=R.l;have R:=RS.back (Z:=Z) lL R;refine q (.step bu e1 e2 e3 e4 e5,Kn,Bs) w H t7 B.bl.c rfl hB (by lia) ((R.cut 5).and ?_);show aZ a (eQ B) H (.step bu e1 e2 e3 e4 e5) w;unfold aZ;exact#[v1,v2,v3,v4,v5,i,R.f (i:=4) rfl,R.f (i:=3) rfl,R.f (i:=2) rfl,R.f (i:=1) rfl,R.f (i:=0) rfl]
theorem Bj {B:Hm}{t:EG}(Rm:FZ.contains u=FM):Jn B ((.word u,xp)::t)=if B.contains u=FB then E9 4 ((.word u,xp)::t) else .ok (EQ u,t):=by
 have c: ¬(EV ((.word u,xp)::t) "sell"=FB\/EV ((.word u,xp)::t) "buy"=FB):=λz=>z.elim (λz=>by
  have:GV u= .word (ED "sell"):=beq_iff_eq.mp z;cases this;exact E7 Rm [00]) λz=>by
  have:GV u= .word (ED "buy"):=beq_iff_eq.mp z;cases this;exact E7 Rm [00]
 unfold Jn;rw[EI c];unfold UI;rw[cT,EI (by rw[Rm];exact EE)];dsimp only;by_cases h:B.contains u=FB
 ·rw[EL h,EL h]
  rfl
 ·rw[EI h,EI h]
theorem Bc {γ:Type}{B:Hm}{t:EG}(nb:x.1≠ .bad) (en:cN x.1=FM) {g:ET EC->FR->EU γ} :(Jn B>>=λm=>Ib>>=λb=>g m b) (x::t)=(Ib>>=λb=>g Fa b) (x::t):=by
 by_cases c:EV (x::t) "sell"=FB\/EV (x::t) "buy"=FB
 ·exact bG (by unfold Jn;rw[EL c])
 ·have e:Jn B (x::t)= .error (2,HC (x::t)):=by
   unfold Jn UI;rw[EI c,mG en];unfold E9;rw[EI (show¬E4 (x::t)= .bad from nb)]
  have e2:Ib (x::t)= .error (2,HC (x::t)):=by
   rw[wQ (t:=x::t) (by cases h:(E4 (x::t) == GV (ED "sell"));rfl;exact E7 (.inl h) c) (by cases h:(E4 (x::t) == GV (ED "buy"));rfl;exact E7 (.inr h) c)];unfold E9;rw[EI (show¬E4 (x::t)= .bad from nb)]
  show Fi _ _ (x::t)=Fi _ _ (x::t)
  unfold Fi;rw[e,e2]
  rfl
theorem fo.aa0 {a:be}{H:Hp}{B:Rb}{t:EG}{Kn:EK}(S:fo a B H n t Kn):fo a (B.bk c) (aF H B.bl.p (.dK c)) n t Kn:=by
 obtain⟨dr,er⟩:=S.rd.ins;obtain⟨as,all,h1,h2,h3⟩:=S.rd.toks;obtain⟨kk,k1,k2,k3⟩:=S.kn.vals;obtain⟨ff,f1,f2⟩:=S.kn.funs;have hy:=S.R8;have e:=S.RB;obtain⟨d1,d2,d3,d4,d5,d6⟩:=S.O8;have nr:B.r≠B.bl.p:=λw=>by rw[w,e] at er;cases er
 have nq:B.q≠B.bl.p:=λw=>by rw[w,e] at h1;cases h1
 refine#[#[#[dr,(by show aF H B.bl.p (.dK c) B.r=_;rw[ac nr];exact er)],as,all,(by show aF H B.bl.p (.dK c) B.q=_;rw[ac nq];exact h1),Paired.M7 h2 λb x ⟨dx,ex⟩=>#[dx,?_],h3],S.wh,#[#[kk,(by show aF H B.bl.p (.dK c) B.kd=_;rw[ac d3];exact k1),k2,k3],#[ff,(by show aF H B.bl.p (.dK c) B.fn=_;rw[ac d5];exact f1),f2],S.kn.len,#[ff,(by show aF H B.bl.p (.dK c) B.fn=_;rw[ac d5];exact f1),S.kn.fl f1]],(by show aF H B.bl.p (.dK c) B.ds.p=_;rw[ac d6];exact hy),ae,S.O8,λb xs h=>?_]
 ·rw[ac λw=>by rw[w,e] at ex;cases ex]
  exact ex
 ·have e2:=S.fr b xs h
  rw[ac λw=>by rw[w,e] at e2;cases e2];exact e2
section
variable {β:Type}{Z:Zf β}{H:Hp}{Q:VK}{p:EU β}
theorem uv (Y:RX X Z.a Z.E) (R:RS Z F b H t Kn p) (hb:E4 t= .bad->QE Z.a Z.B Z.H0 Z.E 1 (HC t)) (no:E4 t≠ .bad->lU v (E4 t)=FM->Q (.bl FM) H)
  (yes: ∀ {x:F5×FT}{r:EG},t=x::r->lU v x.1=FB->x.1≠ .bad-> ¬js x/\ ∃p',p (x::r)=(F3>>=λ_=>p') (x::r)/\ ∀H',RS Z F FB H' r Kn p'->Q (.bl FB) H') (hp:ig p2 p4:=by rfl):
  Pe X (.Call (.Attribute (.Name "reader" p1) "skips" p2) [.Constant (.str v) j p3] [] p4) (EQ (.ref Z.B.r)::σ) H Q:=by
 obtain⟨n,S⟩:=R.S;obtain⟨x,t',rfl,tok,Ql,Ma,_⟩:=S.wh.first;refine Y.m1 Y.T.Zd.c (AK Y.T Y.C) [01] Y.up S rfl (Xu #[Z.B.r,Z.B.q,Z.B.kd,Z.B.fn,Z.B.ds,Z.B.bl,n,x,t',v,FS,S.rd,λb=>hb (Ql.trans b) H R.k,no,λnb e H' hp=>?_]) hp rfl;obtain⟨nf,p',e',q⟩:=yes rfl e nb;exact q H' ((R.as e').past S nf hp (R.as e').w)
theorem vW (Y:RX X Z.a Z.E) (R:RS Z F b H t Kn p) (hf: ∀n,(qT Z.B.q Z.B.kd Z.B.fn Z.B.ds.p Z.B.bl.p n).lookup fld=EQ (.ref gd)) (na:ak X.K Z.a.FX fld) (hg:H gd=EQ (.dK gg)) (st:aI p) (h2:E4 t≠ .bad->cN (E4 t)=FM->p t=E9 2 t) (h4: ∀u,E4 t= .word u->FZ.contains u=FM->has gg u=FB->p t=E9 4 t)
  (q: ∀u xp r,t=(.word u,xp)::r->FZ.contains u=FM->has gg u=FM-> ∃p',p ((.word u,xp)::r)=(F3>>=λ_=>p') ((.word u,xp)::r)/\ ∀H',RS Z F FB H' r Kn p'->Q (.str (sb u)) H') (hp:ig p2 p4:=by rfl):
  Pe X (.Call (.Attribute (.Name "reader" p1) "take_name_not_in" p2) [.Attribute (.Name "reader" p3) fld p6] [] p4) (EQ (.ref Z.B.r)::σ) H Q:=by
 obtain⟨n,S⟩:=R.S;obtain⟨dr,er⟩:=S.rd.ins;obtain⟨⟨x,xp⟩,t',rfl,tok,Ql,Ma,_⟩:=S.wh.first;refine Y.m1 Y.T.Zg.c (jb Y.T Y.C) [01] Y.up S rfl #[_,ao Y.rd rfl,Z.B.r,_,dr,_,_,FS,er,Y.T.Fy,na,hf n,Z.B.r,Z.B.q,Z.B.kd,Z.B.fn,Z.B.ds,Z.B.bl,gd,n,(x,xp),t',gg,FS,S.rd,hg,λb=>st.K6 (Ql.trans b) R.w H R.k,λnb e=>fF (h2 nb e) nb R.w H R.k,λu ex e hu=>?_,λu ex e hu H' hp=>?_] hp rfl
 ·obtain⟨u',e1,e2⟩:=gD e
  obtain rfl:u=u':=by have:=ex.symm.trans e1;cases this;rfl
  exact fF (h4 u ex e2 hu) (by rw[show E4 ((x,xp)::t')= .word u from ex];intro z;cases z) R.w H R.k
 ·obtain⟨u',e1,e2⟩:=gD e
  obtain rfl:u=u':=by have:=ex.symm.trans e1;cases this;rfl
  obtain rfl:x= .word u:=ex;obtain⟨p',e',q⟩:=q u xp t' rfl e2 hu;exact q H' ((R.as e').past S Yb hp (R.as e').w)
theorem RS.aa0 {a:be}{E:XK}{B:Rb}{H0:Hp}{Ro:β->EG->Prop}(R:RS #[a,E,B,L,H0,Ro] F b H t Kn p):RS #[a,E,B.bk c,L,H0,Ro] F b (aF H B.bl.p (.dK c)) t Kn p:=by
 obtain⟨n,S⟩:=R.S;have k:db (eQ B) H (aF H B.bl.p (.dK c)):=eR (.inr (.inr (.inr (.inr (.inl rfl)))));exact#[#[n,S.aa0],R.k.trans k,λe=>jc.Hj k.two (R.f e),R.l,R.w]
end
section
variable {K:EK}{β:Type}{g:At->EU β}
theorem zI (h1:EV t "let"=FM) (h2:EV t "for"=FM) (h3:EV t "if"=FM) (h:EV t "block"=FB):(Kv (k+1) d K B>>=g) t=(F3>>=λ_=>Jn B>>=λm=>Ib>>=λWR=>du "zone" k K>>=λz=>du "price" k K>>=λp=>iS k K>>=λx=>
  GJ "under" (IB B)>>=λu=>GJ "group" (Ff k GW K)>>=λgr=>FC ";">>=λ_=>g (.block m WR z p x.1 x.2 u gr,K,kr m B)) t:=by
 rw[aS (vp h1 h2 h3 h)];simp only[du,iS,bind_assoc,pure_bind]
end
theorem alx (T:aU K mg a) (XC:XT K a) (hk:9<=k)
  (G1: ∀ {v:Fh}{s:String},cU v (ED s)->T.Wx.O P w base k (gt a [.str v] (du s) 12 FB FB .e))
  (G2:T.d_A.O P w base k (gt a [.str "group"] (λf Kn=>GJ "group" (Ff f GW Kn)) 12 FB FM .o))
  (G3:T.Wy.O P w base k (gt a [] iS 12 FB FB .am)):
  T.d_Y.O P w base (k+1) (mz a (λ_=>[]) λ_ t=>EV t "let"=FM/\EV t "for"=FM/\EV t "if"=FM/\EV t "block"=FB):=by
 refine xL T XC (by lia) T.d_Y.F akH (λ_=>rfl) λGp A outer s H β B L H0 Ro F b t Kn Bs d fu g Q E hr hd ho hf hB hc=>?_;intro X D Z en Y R q;have lL:=R.lL;have hm:Kn.values.length+(Z.at t.length).L<=4000:=R.room;obtain⟨n1,n2,n3,n4⟩:=ho;obtain⟨f,rfl⟩: ∃f,fu=f+1:=#[fu-1,by lia];have hF:16*(Z.at t.length).L+12<=f+16:=by show 16*t.length+12<=f+16;lia
 have cp: ∀ {v:Fh}{s:String},cU v (ED s)->CB X "read_part" ["reader","word"] (gt a [.str v] (du s) 12 FB FB .e):=λl=>#[G1 l,hr,T.Wx.c,FS]
 have ps: ∀ {γ:Type}{s:String}{f:E1}{h:ER->EU γ},aI (du s f Kn>>=h):=(eW _).bind.bind;obtain⟨xp,r,e⟩:=e7 R (beq_iff_eq.mp n4)
 have R:=R.at.as (zI n1 n2 n3 n4);generalize hl:t.length=l at R lL hF hm hc hf;subst e;refine iL (Z:=Z.at l) Y tG R λH t R=>?_
 refine aN 1 Y.nd (oB ?_);refine gh (λσ' H'=> ∃(m:ET EC) (t:EG),σ'=[EQ (.ref B.r),EQ (hU m),Fa,Fa,Fa,Fa,Fa,Fa]/\RS (Z.at l) F FB H' t Kn (Ib>>=λWR=>du "zone" f Kn>>=λz=>du "price" f Kn>>=λp=>iS f Kn>>=λx=>
  GJ "under" (IB Bs)>>=λu=>GJ "group" (Ff f GW Kn)>>=λgr=>FC ";">>=λ_=>g (.block m WR z p x.1 x.2 u gr,Kn,kr m Bs))) ?_ ?_
 ·rintro σ H ⟨m,t,rfl,R⟩
  refine wP (Z:=Z.at l) 2 Y R (hr.mono hk) λbu H t R=>?_;refine ja (Z:=Z.at l) 3 Y (cp vK) R hF (λ_=>ps) λe1 v1 H t R=>?_;refine ja (Z:=Z.at l) 4 Y (cp si) R hF (λ_=>(eW _).bind.bind) λe2 v2 H t R=>?_;have l5:t.length+1<=l:=R.l;have en6: ∀x:EC×ER,aI (GJ "under" (IB Bs)>>=λu=>GJ "group" (Ff f GW Kn)>>=λgr=>FC ";">>=λ_=>g (.block m bu e1 e2 x.1 x.2 u gr,Kn,kr m Bs)):=λ_=>(ga "under" _).strict λ_=>(ga "group" _).strict λ_=>(bf ";").bind;refine aN 5 Y.nd (eZ Y #[G3,hr,T.Wy.c,FS] #[B,l,H0,Ro,_,FB,t,Kn,f,_,FS,(by have:16*l+12<=f+16:=hF;lia),λ_=>Ec en6,R,λe3 v3 H t R=>?_]);have R:RS (Z.at l) _ FB H t Kn _:=R;refine aN 6 Y.nd (oB ?_);refine gh (λσ' H'=> ∃(un:ET EC) (t:EG),σ'=[EQ (.ref B.r),EQ (hU m),EQ (jJ bu),EQ v1,EQ v2,EQ v3,EQ (hU un),Fa]/\RS (Z.at l) ((.am e3,v3)::(.e e2,v2)::(.e e1,v1)::F) FB H' t Kn (GJ "group" (Ff f GW Kn)>>=λgr=>FC ";">>=λ_=>g (.block m bu e1 e2 e3.1 e3.2 un gr,Kn,kr m Bs))) ?_ ?_
  ·rintro σ H ⟨un,t,rfl,R⟩
   refine pL (Z:=Z.at l) 7 Y #[G2,hr,T.d_A.c,FS] R hF (λ_=>(bf ";").bind) λe4 v4 H t R=>?_;refine cB (Z:=Z.at l) Y B6 R λH t R=>?_;have l9:t.length+1<=l:=R.l;have R:=RS.back (Z:=Z) lL R;refine gh (λσ' H'=> ∃c',σ'=[EQ (.ref B.r),EQ (hU m),EQ (jJ bu),EQ v1,EQ v2,EQ v3,EQ (hU un),EQ v4]/\Bk (B.bl.at_ c') (kr m Bs)/\c'.length+t.length<=4000/\RS #[a,E,B.bk c',L,H0,Ro] ((.o e4,v4)::(.am e3,v3)::(.e e2,v2)::(.e e1,v1)::F) FB H' t Kn (g (.block m bu e1 e2 e3.1 e3.2 un e4,Kn,kr m Bs))) ?_ ?_
   ·rintro σ H ⟨c',rfl,hB',VZ,R⟩
    refine g9 (Z:=#[a,E,B.bk c',L,H0,Ro]) Y (AG T) (aa (pv 1) (aa (pv 2) (aa (pv 3) (aa (pv 4) (aa (pv 5) (aa (pv 6) (aa (pv 7) ag))))))) [05] R rfl λw H i R=>?_;refine q (.block m bu e1 e2 e3.1 e3.2 un e4,Kn,kr m Bs) w H t c' rfl hB' VZ ((R.cut 4).and ?_);show aZ a (eQ B) H (.block m bu e1 e2 e3.1 e3.2 un e4) w;unfold aZ;exact#[v1,v2,v3,v4,i,R.f (i:=3) rfl,R.f (i:=2) rfl,R.f (i:=1) rfl,R.f (i:=0) rfl]
   ·refine#[_,fC (DL (pv 1)),_,FS,?_]
    cases m with
    |none=>exact bK #[B.bl.c,FS,hB,by lia,R]
    |some u=>
     obtain⟨n,S⟩:=R.S;obtain⟨dr,er⟩:=S.rd.ins;refine cg (aQ (gQ (dq hr) (ao (pv 0) rfl) (pv 1) tR rfl) #[B.r,_,dr,_,_,FS,er,T.Fy,T.Jl,FS,B.bl.p,_,FS, .inl #[B.bl.c,nk u,S.RB,FS,FP (show B.bl.c.length<=4000 by lia) [01],FS],cc #[dy B.bl.c (nk u) (.bl FB),FS,λv=>?_,?_,R.aa0]])
     ·show has (dy B.bl.c (nk u) (.bl FB)) v=(u::Bs).contains v
      rw[qK,FY,hB v]
      congr 1
      rw[GD,FH,beq_iff_eq]
     ·have:=cD B.bl.c (nk u) (.bl FB)
      lia
  ·refine dv (uv (Z:=Z.at l) Y R (λb=>(en6 e3).K6 b R.w) (λnb e=>#[_,FS,bK #[Fa,t,FS,R.as (bG (oy ((bZ R.tok tW).symm.trans e)))]]) λ{x r} et e nb=>?_)
   subst et;have e:=(bZ R.tok tW).symm.trans e;obtain⟨x,xp⟩:=x;obtain rfl:x=_:=beq_iff_eq.mp e;refine#[Yb,IB Bs>>=λu=>GJ "group" (Ff f GW Kn)>>=λgr=>FC ";">>=λ_=>g (.block m bu e1 e2 e3.1 e3.2 (EQ u) gr,Kn,kr m Bs),?_,λH R=>#[_,FS,cg (aN 6 Y.nd (eZ Y #[ahN T XC,hr.mono hk,T.Zn.c,FS] #[B,l,H0,Ro,_,FB,r,Kn,_,_,FS,#[Bs,hB,FS],R,λu H t R=>cc #[EQ u,t,FS,R]]))]];rw[aS (pQ e),bind_assoc];simp only[bind_assoc,pure_bind];exact bG (by unfold GN;rw[EL (show EV ((.word (ED "under"),xp)::r) "under"=FB from e)])
 ·obtain⟨⟨x,xp⟩,r,rfl⟩:=R.cons
  refine dv (X7 (Z:=Z.at l) Y T.d_U.c (nv T XC) [01] (λ_=>rfl) R (gL Bs).bind λnb=>#[_,FS,aP (λe=>?_) λe=>?_])
  ·obtain⟨u,rfl,hu⟩:=gD e
   have em:=Bj (B:=Bs) (xp:=xp) (t:=r) hu;obtain⟨n,S⟩:=R.S;refine aN 1 Y.nd (vW (Z:=Z.at l) Y R (λ_=>rfl) T.Jl S.RB (gL Bs).bind (λ_ z=>E7 e (by rw[z];exact EE)) (λu' e1 _ hu'=>?_) λu' xp' r' e1 _ hu'=>?_)
   ·cases e1
    rw[EL ((hB u).symm.trans hu')] at em;exact(aS (q:=E9 4) em).trans rfl
   ·cases e1
    have hx:Bs.contains u=FM:=(hB u).symm.trans hu';rw[hx,EI EE] at em;exact#[_,(bG em).trans rfl,λH R=>cc #[EQ u,r,FS,R]]
  ·exact#[Fa,_,FS,R.as (Bc nb e)]
structure pi (K:EF) (a:be):Prop where
 t1:Ak K a.Lb
 t2:Ak K a.Mz
 t3:Ak K a.PN
 t4:Ak K a.Km
 t5:Ak K a.Jb
 k1:Hy K (.ref a.Lb) (.ref a.Lb)=EQ FB
 k2:Hy K (.ref a.Mz) (.ref a.Lb)=EQ FM
 k3:Hy K (.ref a.PN) (.ref a.Lb)=EQ FM
 k4:Hy K (.ref a.Km) (.ref a.Lb)=EQ FM
 k5:Hy K (.ref a.Jb) (.ref a.Lb)=EQ FM
theorem pi.of {K:EF}{a:be}{M:EJ->Prop}{H:Hp}(I:pi K a) (h:aZ a M H s v): ∃C,jz K H v (.ref C)/\Hy K (.ref C) (.ref a.Lb)=EQ (lJ s).isSome:=by
 cases s with
 |bind x e=>
  unfold aZ at h;obtain⟨u,⟨p,dx,rfl,m,z⟩,_⟩:=h;exact#[_,I.t1.of z,I.k1]
 |loop x lo hi l=>
  unfold aZ at h;obtain⟨u1,u2,q,us,⟨p,dx,rfl,m,z⟩,_⟩:=h;exact#[_,I.t2.of z,I.k2]
 |cond c x y=>
  unfold aZ at h;obtain⟨u,q,us,g,ws,⟨p,dx,rfl,m,z⟩,_⟩:=h;exact#[_,I.t3.of z,I.k3]
 |step b z qu p top am=>
  unfold aZ at h;obtain⟨u1,u2,u3,u4,u5,⟨p,dx,rfl,m,z⟩,_⟩:=h;exact#[_,I.t4.of z,I.k4]
 |block nm b z p x am un g=>
  unfold aZ at h;obtain⟨u1,u2,u3,u4,⟨p,dx,rfl,m,z⟩,_⟩:=h;exact#[_,I.t5.of z,I.k5]
theorem fo.WU {a:be}{H:Hp}{t:EG}{K1 K2:EK}(S:fo a B H n t K1) (hc:K1.values.contains u=FB) (hf:K2.funs=K1.funs) (hl:K2.values.length+1=K1.values.length)
  (hv: ∀v,K2.values.contains v=(!decide (v=u)&&K1.values.contains v)) {kk:EA (a0×V)}(e:H B.kd=EQ (.dK kk)):has kk u=FB/\fo a B (aF H B.kd (.dK (fD kk (nk u)))) n t K2:=by
 obtain⟨dr,er⟩:=S.rd.ins;obtain⟨as,all,h1,h2,h3⟩:=S.rd.toks;obtain⟨kk',k1,k2,k3⟩:=S.kn.vals;obtain⟨ff,f1,f2⟩:=S.kn.funs;have hy:=S.R8;have hz:=S.RB;obtain rfl:kk'=kk:=by rw[e] at k1;cases k1;rfl
 obtain⟨d1,d2,d3,d4,d5,d6⟩:=S.O8;have nr:B.r≠B.kd:=λw=>by rw[w,e] at er;cases er
 have nq:B.q≠B.kd:=λw=>by rw[w,e] at h1;cases h1
 have hu:has kk' u=FB:=by rw[k3];exact hc
 have len:=S.kn.len;refine#[hu,#[#[dr,by rw[ac nr];exact er],as,all,by rw[ac nq];exact h1,Paired.M7 h2 λb x ⟨dx,ex⟩=>#[dx,?_],h3],S.wh,#[#[_,ae,?_,λv=>?_],#[ff,by rw[ac d1.symm];exact f1,by rw[hf];exact f2],by lia,#[ff,by rw[ac d1.symm];exact f1,(by rw[hf];exact S.kn.fl f1)]],(by rw[ac d2.symm];exact hy),(by rw[ac d3.symm];exact hz),S.O8,λb xs h=>?_]
 ·rw[ac λw=>by rw[w,e] at ex;cases ex]
  exact ex
 ·have:(fD kk' (nk u)).length<kk'.length:=by
   unfold fD;refine UZ (Nz _ _) λw=>?_;rw[Pb] at w;unfold has bN at hu;rw[Hv,Mx] at hu;obtain⟨p,hp,e1⟩:=hu;have:=w p hp;simp only[M9] at this e1;exact this e1
  lia
 ·rw[r9,k3,hv]
 ·have e2:=S.fr b xs h
  rw[ac λw=>by rw[w,e] at e2;cases e2];exact e2
def yK (Kn:EK) (ss:EA Gv):EK:=#[(jx ss).reverse++Kn.values,Kn.funs]
theorem tL {x:EC}{rest V:EA EC}(h1:x∉rest) (h2:x∉V) (v:EC):(rest.reverse++V).contains v=(!decide (v=x)&&((x::rest).reverse++V).contains v):=by
 by_cases e:v=x
 ·subst e
  rw[Gb rfl];show _=FM;rw[U9];intro z;rcases Fp.mp (FK.mp z) with z|z
  ·exact h1 (Js.mp z)
  ·exact h2 z
 ·rw[FA e]
  show _=((x::rest).reverse++V).contains v
  rw[GD,FK,FK,Fp,Fp,Js,Js,EW];constructor
  ·rintro(z|z)
   ·exact .inl (.inr z)
   ·exact .inr z
  ·rintro((z|z)|z)
   ·exact E7 z e
   ·exact .inl z
   ·exact .inr z
inductive kh (a:be) (m:E1) (vs:EA V) (H:Hp) (Q:VK) (E:XK):Prop
 |mk {β:Type}(B:Rb) (L:E1) (H0:Hp) (Ro:β->EG->Prop) (F:EA (Fk×V)) (b:FR) (t:EG) (Kn:EK) (Bs:Hm) (d f:E1) (g:Ip×Hm->EU β) (_:vs=[.ref B.r, .int d]) (_:d<=6) (_:7<=d+m) (_:16*t.length<=f) (_:Bk B.bl Bs) (_:B.bl.c.length+t.length<=4000) (_:RS ⟨a,E,B,L,H0,Ro⟩ F b H t Kn (FC "{">>=λ_=>JA f (6-d) Kn Bs>>=g))
  (_: ∀l v H' t' c',Bk (B.bl.at_ c') l.2->c'.length+t'.length<=4000->RS #[a,E,B.bk c',L,H0,Ro] ((.sts l.1,v)::F) FB H' t' Kn (g l)->Q v H'):kh a m vs H Q E
abbrev pV (a:be) (m:E1) (ok:EG->Prop):Sp:=mz a (λd=>[.int d]) λd t=>7<=d+m/\ok t
section
variable {k m:E1}{x Gz:Fh}{st:Stmt}{f:EJ}{fd:FL}{N:EA Fh}
theorem aly (T:aU K mg a) (XC:XT K a) (hk:8<=k) (F:oF K x Gz st f fd) (S:az N ["reader","depth"] (af st))
  (Jc: ∀(Gp:EH) (A:Gk) (outer:EA Env) (s:EM) (H:Hp) {β:Type}(B:Rb) (L:E1) (H0:Hp) (Ro:β->EG->Prop) (F:EA (Fk×V)) (b:FR) (t:EG) (Kn:EK) (Bs:Hm) (d fu:E1) (g:Ip×Hm->EU β) (Q:VK) (E:XK),bW k (A.deeper (Jf Gz (af st) s.heap.objs.size f Gp))->d<=6->7<=d+m->16*t.length<=fu->Bk B.bl Bs->B.bl.c.length+t.length<=4000->
   let X:=fi (fW P w) P w K mg base N Gz (af st) f Gp A outer s H E
   let D:eJ:= { nx:=λ_ H'=>Q .HZ H',rt:=Q }
   let Z:Zf β:=#[a,E,B,L,H0,Ro]
   RX X a E->RS Z F b H t Kn (FC "{">>=λ_=>JA fu (6-d) Kn Bs>>=g)->(∀l v H' t' c',Bk (B.bl.at_ c') l.2->c'.length+t'.length<=4000->RS #[a,E,B.bk c',L,H0,Ro] ((.sts l.1,v)::F) FB H' t' Kn (g l)->Q v H')->Bd X (a8 st) D (L2.start N [.ref B.r, .int d]) H):bS P w K mg base (fW P w) (k+1) f fd ["reader","depth"] (kh a m):=by
 refine fP F S [03] [02];obtain⟨B,L,H0,Ro,F,b,t,Kn,Bs,d,fu,g,rfl,h1,h2,h3,h4,h5,R,q⟩:=h;exact Jc Gp A outer s H B L H0 Ro F b t Kn Bs d fu g Q E hr h1 h2 h3 h4 h5 (ku T XC hk S hr) R q
end
abbrev fkS (ps:EA (Gv×V)) (F:EA (Fk×V)):EA (Fk×V):=(ps.map λx=>(Fk.st x.1,x.2))++F
theorem tP {a:be}{M:EJ->Prop}{H:Hp}{F:EA (Fk×V)}{l:Ip}{ws:EA V}(hl:bw a M H l ws): ∀ {ps:EA (Gv×V)},(∀ {i:E1}{x:Fk×V},(fkS ps F)[i]?=EQ x->jc a M H x)->bw a M H (B4 (ps.map (·.1)).reverse l) ((ps.map (·.2)).reverse++ws)
 |[],_=>hl
 | (e,v)::ps,h=>by
  rw[Fe,Fe,Gf,Gf,sx,F4];refine tP (l:= .cons e l) ?_ λ{i x} q=>h (i:=i+1) q;unfold bw;exact#[v,ws,FS,h (i:=0) rfl,hl]
theorem aa1 {F:EA (Fk×V)}{ps:EA (Gv×V)}{i:E1}{y:V}(h:((ps.map λx:Gv×V=>x.2).reverse)[i]?=EQ y): ∃(s:Gv) (j:E1),((ps.map λx:Gv×V=>x.1).reverse)[i]?=EQ s/\(fkS ps F)[j]?=EQ (Fk.st s,y):=by
 have hi:i<ps.length:=by
  obtain⟨h,_⟩:=FF.mp h;rw[F7,EY] at h;exact h
 rw[SH (by rw[EY];exact hi),EY,FQ] at h;obtain⟨⟨s,v⟩,e,rfl⟩:=FG.mp h;refine#[s,ps.length-1-i,?_,?_]
 ·rw[SH (by rw[EY];exact hi),EY,FQ,e]
  rfl
 ·rw[QR (by rw[EY];lia),FQ,e]
  rfl
theorem g8.drop {Kn K1:EK}{ss:EA Gv}{x:EC}(lo:g8 Kn ss K1) (h:ss[i]?=EQ (.bind x e)):(yK Kn (ss.drop i)).values.contains x=FB/\(yK Kn (ss.drop (i+1))).values.length+1=(yK Kn (ss.drop i)).values.length/\ ∀v,(yK Kn (ss.drop (i+1))).values.contains v=(!decide (v=x)&&(yK Kn (ss.drop i)).values.contains v):=by
 have ed:ss.drop i= .bind x e::ss.drop (i+1):=by
  obtain⟨h,e⟩:=FF.mp h;rw[<-e];exact GO h
 have el:jx (Gv.bind x e::ss.drop (i+1))=x::jx (ss.drop (i+1)):=rfl
 have sub:(x::jx (ss.drop (i+1))).Sublist (jx ss):=by
  rw[<-el,<-ed];exact(Va i ss).filterMap lJ
 have nin:=(FI.mp (sub.nodup lo.nodup)).1
 have nV:=lo.free x (sub.subset (EO ..));unfold yK;rw[ed,el];refine#[FK.mpr (Fp.mpr (.inl (Js.mpr (EO ..)))),?_,tL nin nV];simp only[Fc,F7,EZ];lia
theorem Bx {Kn:EK}{ss:EA Gv}(h:ss[i]?=EQ s) (hl:lJ s=Fa):yK Kn (ss.drop i)=yK Kn (ss.drop (i+1)):=by
 have ed:ss.drop i=s::ss.drop (i+1):=by
  obtain⟨h,e⟩:=FF.mp h;rw[<-e];exact GO h
 rw[ed];unfold yK jx;rw[Kb,hl]
theorem AR {x:EC}(hl:lJ s=EQ x): ∃e1,s= .bind x e1:=by
 cases s with
 |bind y e1=>cases hl;exact#[e1,FS]
 |loop _ _ _ _=>cases hl
 |cond _ _ _=>cases hl
 |step _ _ _ _ _ _=>cases hl
 |block _ _ _ _ _ _ _ _=>cases hl
inductive BrI {β:Type}(Z:Zf β) (Ls:EJ) (F:EA (Fk×V)) (Kn:EK) (d l:E1) (g:Ip×Hm->EU β) (σ0:L2.St) (m:E1) (σ:L2.St) (H:Hp):Prop
 |mk (ps:EA (Gv×V)) (K1:EK) (B1:Hm) (c:EA (a0×V)) (t:EG) (f:E1) (_:m=t.length) (_:σ=σ0) (_:ps.length+t.length<l) (_:Bk (Z.B.bl.at_ c) B1) (_:c.length+t.length<=4000) (_:16*t.length+15<=f) (_:g8 Kn (ps.map (·.1)).reverse K1)
  (_:RS (Zf.mo { Z with B:=Z.B.bk c } Ls (ps.map (·.2)).reverse) (fkS ps F) FB H t K1 (JA f d K1 B1>>=λx=>g (B4 (ps.map (·.1)).reverse x.1,x.2))):BrI Z Ls F Kn d l g σ0 m σ H
section
variable {β:Type}{Z:Zf β}{H:Hp}{p:EU β}
theorem mI {e f:G8}{te:TE}(hL:H L=EQ (.lst us)) (he:PE X e te) (hv: ∀R:VK,R (.ref L) H->te σ H R) (q:Pe X f σ H λv H1=> ∃(Z:Zf β) (F':EA (Fk×V)) (b':FR) (t':EG) (WQ:EK) (p':EU β),uN Z L/\us.length<FE/\RS (Z.mo L us) F' b' H1 t' WQ p'/\(∀H2,RS (Z.mo L (us++[v])) F' b' H2 t' WQ p'->Bd X ss D σ H2))
  (hb:HM e "append" X.env (eval e X.env)=eval e X.env:=by rfl) (JS:Fb [f] X.env=[(FM,eval f X.env)]:=by rfl) (hp:ig p2 p4:=by rfl):
  Bd X (.Expr (.Call (.Attribute e "append" p2) [f] [] p4) p5::ss) D σ H:=by
 refine ik he hv hL (q.mono λv H1 z=>?_) hb JS hp;obtain⟨Z,F',b',t',WQ,p',N,h1,R',h2⟩:=z;exact#[us,R'.P0,h1,h2 _ (R'.push N)]
theorem nD {te:TE}(Y:RX X Z.a Z.E) (he:PE X e te) (hv: ∀Q:VK,Q (.str (sb u)) H->te (EQ (.ref Z.B.r)::σ) H Q) (R:RS Z F b H t K1 p) (hc:K1.values.contains u=FB) (hf:K2.funs=K1.funs) (hl:K2.values.length+1=K1.values.length) (hk: ∀v,K2.values.contains v=(!decide (v=u)&&K1.values.contains v))
  (q: ∀H',RS Z F b H' t K2 p->Bd X ss D (EQ (.ref Z.B.r)::σ) H') (hp:ig p2 p4:=by rfl) (JS:Fb [e] X.env=[(FM,eval e X.env)]:=by rfl):
  Bd X (.Expr (.Call (.Attribute (.Name "reader" p1) "forget" p2) [e] [] p4) p5::ss) D (EQ (.ref Z.B.r)::σ) H:=by
 obtain⟨n,S⟩:=R.S;obtain⟨dr,er⟩:=S.rd.ins;obtain⟨kk,k1,k2,k3⟩:=S.kn.vals;obtain⟨hu,S'⟩:=S.WU hc hf hl hk k1;refine bA (Y.m1 Y.T.Wj.c (py Y.T) [01] aY S rfl #[_,he,hv _ #[Z.B.r,dr,Z.B.q,Z.B.kd,Z.B.fn,Z.B.ds,Z.B.bl,n,u,kk,FS,er,k1,hu,?_]] hp JS);exact q _ (R.go S' (eR (.inr (.inl rfl))) R.l R.w)
end
theorem alz (T:aU K mg a) (XC:XT K a) (IL:pi K a) (hk:8<=k)
  (G:T.Wu.O P w base k (pV a m λ_=>True)):
  T.VY.O P w base (k+1) (kh a m):=by
 refine aly T XC hk T.VY.F agw λGp A outer s H β B L H0 Ro F b t Kn Bs d fu g Q E hr hd hm hf hB hc=>?_;intro X D Z Y R q;have lL:=R.lL;have room:=R.room;refine cB (Z:=Z.at t.length) Y ahG R.at λH t1 R=>?_;have l1:t1.length+1<=t.length:=R.l;have R:=RS.back (Z:=Z) lL R;refine l8 2 Y R λLs H N R=>?_;refine fU Y.lv (BrI Z Ls F Kn (6-d) t.length g [EQ (.ref B.r),EQ (.int d),EQ (.ref Ls),Fa]) _ #[[],Kn,Bs,B.bl.c,t1,fu,FS,FS,by show 0+t1.length<_;lia,hB,by lia,by lia,g8.nil,R] ?_;rintro mm σ H ⟨ps,K1,B1,c,t2,f,rfl,rfl,ul,hB1,hc1,hf1,lo,R⟩;obtain⟨f,rfl⟩: ∃f',f=f'+1:=#[f-1,by lia];have N': ∀ {c:EA (a0×V)},uN { Z with B:=Z.B.bk c } Ls:=#[N.n0,N.nm,N.nx,N.nq];have len:((ps.map (·.2)).reverse:EA V).length=ps.length:=by rw[F7,EY]
 refine jm (dv (io (Z:=Zf.mo { Z with B:=Z.B.bk c } Ls (ps.map (·.2)).reverse) Y R (jM _ _ _ _).bind λnb=>#[_,FS,?_]));rw[cQ R.tok Yf];cases hs:(E4 t2 == Iu (ED "}")) with
 |false=>
  have R1:RS (Zf.mo { Z with B:=Z.B.bk c } Ls (ps.map (·.2)).reverse) (fkS ps F) FB H t2 K1 (Kv f (6-d) K1 B1>>=λs=>JA f (6-d) s.2.1 s.2.2>>=λx=>g (B4 (ps.map (·.1)).reverse (.cons s.1 x.1),x.2)):=by
   have:=R.asf (Au hs);simp only[bind_assoc,pure_bind] at this;exact this
  refine cg (mI (β:=β) R.P0 (pv 2) [05] #[_,Y.call2 #[G,hr,T.Wu.c,FS] (pv 1) [01] rfl,(B.bk c).more Ls (ps.map (·.2)).reverse,t2.length,H0,Ro,fkS ps F,FM,t2,K1,B1,d,f,_,FS,hd,#[hm,GH],by lia,hB1,hc1,Ec λs=>(jM f (6-d) s.2.1 s.2.2).bind,R1.at,λs v H' t' c' kn hB' VZ R2=>?_]);have l2:t'.length+1<=t2.length:=R2.l;have R2:=RS.back (Z:=Zf.mo { Z with B:=Z.B.bk c' } Ls (ps.map λx:Gv×V=>x.2).reverse) (l:=t2.length) (by show t2.length<=L;have:t.length<=L:=lL;lia) R2;refine#[{ Z with B:=Z.B.bk c' },_,_,_,_,_,N',by rw[len];exact FP (show ps.length<=4000 by lia) [01],R2,λH3 R3=>?_];refine fY #[_,l2,(s.1,v)::ps,s.2.1,s.2.2,c',t',f,FS,FS,(by rw[EZ];lia),hB',VZ,(by lia),?_,?_]
  ·rw[Fe,Gf]
   exact lo.snoc kn
  ·rw[Fe,Fe,Gf,Gf]
   simp only[sx];exact R3
 |true=>
  obtain⟨xp,r,rfl⟩:=xj R (beq_iff_eq.mp hs);refine bK (AH (Z:=Zf.at (Zf.mo { Z with B:=Z.B.bk c } Ls (ps.map (·.2)).reverse) ((Iu (ED "}"),xp)::r).length) Y Yf (R.at.as (p':=F3>>=λ_=>g (B4 (ps.map (·.1)).reverse .nil,B1)) (bG (yi hs))) λH t5 R=>?_);have l5:t5.length+1<=((Iu (ED "}"),xp)::r).length:=R.l;have R:=RS.back (Z:=Zf.mo { Z with B:=Z.B.bk c } Ls (ps.map λx:Gv×V=>x.2).reverse) (by show((Iu (ED "}"),xp)::r).length<=L;have:t.length<=L:=lL;lia) R;have eK:K1=yK Kn (ps.map (·.1)).reverse:=by
   obtain⟨v1,f1⟩:=K1;unfold yK;rw[<-lo.vals,<-lo.funs]
  rw[eK] at R;generalize hss:(ps.map (·.1)).reverse=ss at R lo;generalize hus:(ps.map (·.2)).reverse=us at R len;refine jH 3 Y.lv Y.nd (pv 2) [05] (λi σ H=> ∃v:ET V,σ=[EQ (.ref B.r),EQ (.int d),EQ (.ref Ls),v]/\RS (Zf.mo { Z with B:=Z.B.bk c } Ls us) (fkS ps F) FB H t5 (yK Kn (ss.drop i)) (g (B4 ss .nil,B1))) #[Fa,FS,R] (λ_ _ _ _ ⟨_,_,R⟩=>R.P0) ?_ ?_
  ·rintro i y σ H hi ⟨v,rfl,R⟩
   rw[<-hus] at hi;obtain⟨s,j,hs,hj⟩:=aa1 (F:=F) hi;rw[hss] at hs;have sa:aZ a (eQ (Zf.mo { Z with B:=Z.B.bk c } Ls us).B) H s y:=R.f hj;obtain⟨C,ty,kit⟩:=IL.of sa;refine bE #[_,di (bF pw (by rfl) T.LK boot_isinstance (aa (pv 3) (aa (iQ (by rfl) T.SS) ag))),_,_,_,_,FS,ty,kit,_,FS,?_];cases hl:lJ s with
   |none=>
    rw[Bx hs hl] at R;exact bK (cc #[_,FS,R])
   |some x=>
    obtain⟨e1,rfl⟩:=AR hl;obtain⟨h1,h2,h3⟩:=lo.drop hs;unfold aZ at sa;obtain⟨ue,⟨p,dx,rfl,mp,zp⟩,_⟩:=sa;exact cg (nD (Z:=Zf.mo { Z with B:=Z.B.bk c } Ls us) Y (ao (pv 3) rfl) (λQ q=>#[p,_,dx,_,_,FS,zp,T.Q4,T.Nk,FS,q]) (K2:=yK Kn (ss.drop (i+1))) R h1 rfl h2 h3 λH R=>cc (cc #[_,FS,R]))
  ·rintro σ H ⟨v,rfl,R⟩
   have eL:us.length=ss.length:=by rw[len,<-hss,F7,EY]
   rw[eL,PX] at R;have R1:=R.less N';refine aJ #[_,pv 2,q (B4 ss .nil,B1) (.ref Ls) H t5 c hB1 (by lia) ?_];have R2:RS { Z with B:=Z.B.bk c } F FB H t5 Kn (g (B4 ss .nil,B1)):=by
    have:=R1.cut ps.length;rw[show(fkS ps F).drop ps.length=F from EA.drop_left' (by rw[EY])] at this;exact this
   refine R2.and #[us,#[Ls,FS,N.nm,R.P0],?_];rw[<-hss,<-hus,<-Gw (EA.reverse (ps.map (·.2)))];exact tP (F:=F) (by unfold bw;rfl) λe=>R1.f e
theorem BL:cU "for" (ED "for"):=#[by decide+kernel,by decide+kernel,by decide+kernel]
section
variable {K:EK}{β:Type}{g:At->EU β}{a:Ip×Hm}
theorem aa2 (h1:EV t "let"=FM) (h:EV t "for"=FB):(Kv (k+1) d K B>>=g) t=(GS d>>=λn=>F3>>=λ_=>Ge K>>=λx=>GN "in">>=λ_=>Ff k GW K>>=λlo=>FC "..">>=λ_=>Ff k GW K>>=λhi=>
  FC "{">>=λ_=>JA k n (K.with x) B>>=λl=>g (.loop x lo hi l.1,K,l.2)) t:=by
 rw[aS (Aa h1 h)];simp only[bind_assoc,pure_bind]
theorem ahO (h1:EV t "let"=FM) (h2:EV t "for"=FM) (h:EV t "if"=FB):(Kv (k+1) d K B>>=g) t=(GS d>>=λn=>F3>>=λ_=>Ff k GW K>>=λc=>FC "{">>=λ_=>JA k n K B>>=λa=>kG k n K c a>>=g) t:=by
 rw[aS (DI h1 h2 h)];simp only[bind_assoc]
theorem xo (h:EV t "else"=FM):(kG k n K c a>>=g) t=g (.cond c a.1 .nil,K,a.2) t:=by
 unfold kG;rw[bind_assoc];exact(bG (x:=FM) (r:=t) (by unfold W5;rw[EI (by rw[h];exact EE)])).trans rfl
theorem BT (h:EV (x::r) "else"=FB):(kG k n K c a>>=g) (x::r)=(F3>>=λ_=>FC "{">>=λ_=>JA k n K a.2>>=λb=>g (.cond c a.1 b.1,K,b.2)) (x::r):=by
 unfold kG;rw[bind_assoc];refine(bG (x:=FB) (r:=r) (by unfold W5;rw[EL h];rfl)).trans ?_;rw[EL rfl];simp only[bind_assoc,pure_bind]
 rfl
end
theorem ahP (T:aU K mg a) (XC:XT K a) (hk:8<=k) (G:m6 P w K mg base a k)
  (G2:T.VY.O P w base k (kh a m)):
  T.Wv.O P w base (k+1) (pV a (m+1) λt=>EV t "let"=FM/\EV t "for"=FB):=by
 refine xL T XC hk T.Wv.F agz (λ_=>rfl) λGp A outer s H β B L H0 Ro F b t Kn Bs d fu g Q E hr hd ho hf hB hc=>?_;intro X D Z en Y R q;have lL:=R.lL;have hm:Kn.values.length+(Z.at t.length).L<=4000:=R.room;obtain⟨dm,n1,n2⟩:=ho;obtain⟨xp,r,e⟩:=e7 R (beq_iff_eq.mp n2);obtain⟨f,rfl⟩: ∃f,fu=f+1:=#[fu-1,by lia];have c:CB X "read_exp" ["reader","depth"] (aV a FB Ff 12 (Lv 13)):=#[G,hr,T.RM.c,FS];have hF:16*(Z.at t.length).L+12<=f+16:=by show 16*t.length+12<=f+16;lia
 have R:=R.at.as (aa2 n1 n2);generalize hl:t.length=l at R lL hF hm hc hf
 have nb:E4 t≠ .bad:=by rw[e];intro z;cases z
 subst e;refine rP (Z:=Z.at l) 2 Y hd nb R λlt R=>?_;refine iL (Z:=Z.at l) Y BL R λH t R=>?_;refine i4 (Z:=Z.at l) 3 Y R λu H t ft R=>?_;refine kP (Z:=Z.at l) Y X8 R λH t R=>?_;refine eG (Z:=Z.at l) (d:=0) 4 Y c aj [05] R (nz λ_=>(bf "..").bind) (Fs _) ya hF λe1 v1 H t R=>?_;refine cB (Z:=Z.at l) Y X9 R λH t R=>?_;refine eG (Z:=Z.at l) (d:=0) 5 Y c aj [05] R (nz λ_=>(bf "{").bind) (Fs _) ya hF λe2 v2 H t R=>?_;refine gG (Z:=Z.at l) Y (pv 3) [05] ft hm R λH R=>?_;have l7:t.length+1<=l:=R.l;refine aN 6 Y.nd #[_,Y.call2 #[G2,hr,T.VY.c,FS] (pv 2) [01] rfl,B,l,H0,Ro,_,_,t,Kn.with u,Bs,d+1,f,_,FS,lt,by lia,by lia,hB,by lia,R,λx v3 H t c' hB' VZ R=>?_];refine ld (Z:=#[a,E,B.bk c',l,H0,Ro]) Y (pv 3) [05] ft R λH R=>?_;refine g9 (Z:=#[a,E,B.bk c',l,H0,Ro]) Y (aaA T) (aa (pv 3) (aa (pv 4) (aa (pv 5) (aa (pv 6) ag)))) [05] R rfl λw H i R=>?_;have R:=RS.back (Z:=#[a,E,B.bk c',L,H0,Ro]) lL R;refine q (.loop u e1 e2 x.1,Kn,x.2) w H t c' rfl hB' VZ ((R.cut 3).and ?_);obtain⟨us,la,sa⟩:mt a (eQ B) H x.1 v3:=R.f (i:=0) rfl;show aZ a (eQ B) H (.loop u e1 e2 x.1) w;unfold aZ;exact#[v1,v2,v3,us,i,R.f (i:=2) rfl,R.f (i:=1) rfl,la,sa]
theorem ahQ (T:aU K mg a) (XC:XT K a) (hk:8<=k) (G:m6 P w K mg base a k)
  (G2:T.VY.O P w base k (kh a m)):
  T.Ww.O P w base (k+1) (pV a (m+1) λt=>EV t "let"=FM/\EV t "for"=FM/\EV t "if"=FB):=by
 refine xL T XC hk T.Ww.F agA (λ_=>rfl) λGp A outer s H β B L H0 Ro F b t Kn Bs d fu g Q E hr hd ho hf hB hc=>?_;intro X D Z en Y R q;have lL:=R.lL;obtain⟨dm,n1,n2,n3⟩:=ho;obtain⟨xp,r,e⟩:=e7 R (beq_iff_eq.mp n3);obtain⟨f,rfl⟩: ∃f,fu=f+1:=#[fu-1,by lia];have c:CB X "read_exp" ["reader","depth"] (aV a FB Ff 12 (Lv 13)):=#[G,hr,T.RM.c,FS];have hF:16*(Z.at t.length).L+12<=f+16:=by show 16*t.length+12<=f+16;lia
 have R:=R.at.as (ahO n1 n2 n3);generalize hl:t.length=l at R lL hF hc hf
 have nb:E4 t≠ .bad:=by rw[e];intro z;cases z
 subst e;refine rP (Z:=Z.at l) 2 Y hd nb R λlt R=>?_;refine iL (Z:=Z.at l) Y vO R λH t R=>?_;refine eG (Z:=Z.at l) (d:=0) 3 Y c aj [05] R (nz λ_=>(bf "{").bind) (Fs _) ya hF λe1 v1 H t R=>?_;have l4:t.length+1<=l:=R.l;have cb:CB X "read_braces" ["reader","depth"] (kh a m):=#[G2,hr,T.VY.c,FS];refine aN 4 Y.nd #[_,Y.call2 cb (pv 2) [01] rfl,B,l,H0,Ro,_,_,t,Kn,Bs,d+1,f,_,FS,lt,by lia,by lia,hB,by lia,R,λx v3 H t c3 hB3 hc3 R=>?_];refine l8 (Z:=#[a,E,B.bk c3,l,H0,Ro]) 5 Y R λLs H N R=>?_;have R:=(R.less N).and (e:=(.sts .nil, .ref Ls)) #[[],#[Ls,FS,N.nm,R.P0],by unfold bw;rfl];have l5:t.length+1<=l:=R.l;refine gh (λσ' H'=> ∃(y:Ip) (B5:Hm) (v5:V) (c5:EA (a0×V)) (t5:EG),σ'=[EQ (.ref B.r),EQ (.int d),EQ (.int ((d+1:E1):Int)),EQ v1,EQ v3,EQ v5]/\Bk (B.bl.at_ c5) B5/\c5.length+t5.length<=4000/\RS #[a,E,B.bk c5,l,H0,Ro] ((.sts y,v5)::(.sts x.1,v3)::(.e e1,v1)::F) FB H' t5 Kn (g (.cond e1 x.1 y,Kn,B5))) ?_ ?_
 ·rintro σ H ⟨y,B5,v5,c5,t5,rfl,hB5,hc5,R⟩
  refine g9 (Z:=#[a,E,B.bk c5,l,H0,Ro]) Y (agN T) (aa (pv 3) (aa (pv 4) (aa (pv 5) ag))) [05] R rfl λw H i R=>?_;have R:=RS.back (Z:=#[a,E,B.bk c5,L,H0,Ro]) lL R;refine q (.cond e1 x.1 y,Kn,B5) w H t5 c5 rfl hB5 hc5 ((R.cut 3).and ?_);obtain⟨us,la,sa⟩:mt a (eQ B) H x.1 v3:=R.f (i:=1) rfl;obtain⟨us5,la5,sa5⟩:mt a (eQ B) H y v5:=R.f (i:=0) rfl;show aZ a (eQ B) H (.cond e1 x.1 y) w;unfold aZ;exact#[v1,v3,us,v5,us5,i,R.f (i:=2) rfl,la,sa,la5,sa5]
 ·refine dv (uv (Z:=#[a,E,B.bk c3,l,H0,Ro]) Y R (λb=>en _ t b (R.as (xo (cq b "else"))).w) (λnb e=>#[_,FS,bK #[.nil,x.2, .ref Ls,c3,t,FS,hB3,hc3,R.as (xo ((bZ R.tok qm).symm.trans e))]]) λ{y r} et e nb=>?_)
  subst et;have e:=(bZ R.tok qm).symm.trans e;obtain⟨y,yp⟩:=y;obtain rfl:y=_:=beq_iff_eq.mp e;refine#[Yb,_,BT e,λH R=>#[_,FS,cg (aN 5 Y.nd #[_,Y.call2 cb (pv 2) [01] rfl,B.bk c3,l,H0,Ro,_,_,r,Kn,x.2,d+1,f,_,FS,lt,by lia,by rw[EZ] at l5;lia,hB3,by rw[EZ] at hc3;show c3.length+_<=_;lia,R.cut 1,λy v5 H t c5 hB5 hc5 R=>cc #[y.1,y.2,v5,c5,t,FS,hB5,hc5,R]])]]
abbrev aa3 (P:Fz) (w:Ga) (K:EF) (mg:Fh->ET EH) (base:Gn) (a:be) (k:E1) (f:EJ) (fd:FL) (ok:EG->Prop):Prop:=bS P w K mg base (fW P w) k f fd ["reader"] (mz a (λ_=>[]) λ_ t=>ok t)
theorem ahR (T:aU K mg a) (XC:XT K a) (hk:8<=k)
  (G1:aa3 P w K mg base a k a.f_W a.ad5 λt=>EV t "let"=FB)
  (G2:T.Wv.O P w base k (pV a m λt=>EV t "let"=FM/\EV t "for"=FB))
  (G3:T.Ww.O P w base k (pV a m λt=>EV t "let"=FM/\EV t "for"=FM/\EV t "if"=FB))
  (G4:aa3 P w K mg base a k a.f_Y a.aeb λt=>EV t "let"=FM/\EV t "for"=FM/\EV t "if"=FM/\EV t "block"=FB)
  (G5:aa3 P w K mg base a k a.f_X a.aea λt=>EV t "let"=FM/\EV t "for"=FM/\EV t "if"=FM/\EV t "block"=FM):
  T.Wu.O P w base (k+1) (pV a m λ_=>True):=by
 refine xL T XC hk T.Wu.F agx (λ_=>rfl) λGp A outer s H β B L H0 Ro F b t Kn Bs d fu g Q E hr hd ho hf hB hc=>?_;intro X D Z en Y R q;have see: ∀ {ss:EA Stmt}{A:EA Stmt}{s:String}{v:Fh}{j:E1}{p1 p2 p3 p4 p5:Pos}(lit:cU v (ED s)) (hp:ig p2 p4),(EV t s=FB->Bd X A (D.to X ss) [EQ (.ref B.r),EQ (.int d)] H)->(EV t s=FM->Bd X ss D [EQ (.ref B.r),EQ (.int d)] H)->Bd X (.If (.Call (.Attribute (.Name "reader" p1) "sees" p2) [.Constant (.str v) j p3] [] p4) A [] p5::ss) D [EQ (.ref B.r),EQ (.int d)] H:=λlit hp yes no=>
  bE (dv (io (Z:=Z) Y R (lH _ _ _ _).bind (λnb=>#[_,FS,by rw[bZ R.tok lit];exact aP yes no]) hp))
 refine see Ab rfl (λe1=>aJ (eZ Y #[G1,hr,T.d_W.c,FS] #[B,L,H0,Ro,F,b,t,Kn,Bs,d,fu,g,FS,hd,e1,hf,hB,hc,en,R,q])) λe1=>?_;refine see BL rfl (λe2=>aJ #[_,Y.call2 #[G2,hr,T.Wv.c,FS] (pv 1) [01] rfl,B,L,H0,Ro,F,b,t,Kn,Bs,d,fu,g,FS,hd,#[ho.1,e1,e2],hf,hB,hc,en,R,q]) λe2=>?_;refine see vO rfl (λe3=>aJ #[_,Y.call2 #[G3,hr,T.Ww.c,FS] (pv 1) [01] rfl,B,L,H0,Ro,F,b,t,Kn,Bs,d,fu,g,FS,hd,#[ho.1,e1,e2,e3],hf,hB,hc,en,R,q]) λe3=>?_;refine see tG rfl (λe4=>aJ (eZ Y #[G4,hr,T.d_Y.c,FS] #[B,L,H0,Ro,F,b,t,Kn,Bs,d,fu,g,FS,hd,#[e1,e2,e3,e4],hf,hB,hc,en,R,q])) λe4=>?_;exact aJ (eZ Y #[G5,hr,T.d_X.c,FS] #[B,L,H0,Ro,F,b,t,Kn,Bs,d,fu,g,FS,hd,#[e1,e2,e3,e4],hf,hB,hc,en,R,q])
theorem rL {H:Hp}{Q:VK}{E:XK}(h:kh a 0 vs H Q E):False:=by
 obtain⟨B,L,H0,Ro,F,b,t,Kn,Bs,d,f,g,e,hd,hm,_⟩:=h;lia
theorem zm (T:aU K mg a) (XC:XT K a) (IL:pi K a) (hk:8<=k) (G:m6 P w K mg base a k): ∀m:E1,
  T.VY.O P w base (k+3+3*m) (kh a m):=by
 intro m
 induction m with
 |zero=>exact fP T.VY.F agw (λ_ _ _ _ h=>(rL h).elim) (λ_ _ _ _ _ _ _ _ _ h=>(rL h).elim)
 |succ m ih=>
  have Pa: ∀ {v:Fh}{s:String},cU v (ED s)->T.Wx.O P w base (k+2) (gt a [.str v] (du s) 12 FB FB .e):=λl=>(aaX l T XC hk G).mono (by lia)
  have Am:=ahM T XC hk G
  have Le:=alv T XC (by lia) (ahI T XC hk G)
  have St:=alw T XC (by lia) Pa (ahJ Yg T XC (by lia) (aaX Yg T XC hk G))
  have Bl:=alx T XC (by lia) Pa (ahJ rR T XC (by lia) (aaX rR T XC hk G)) (Am.mono (by lia))
  have Fo:=ahP T XC (by lia) (G.mono (by lia:k<=k+3+3*m)) ih
  have If_:=ahQ T XC (by lia) (G.mono (by lia:k<=k+3+3*m)) ih
  have Sm:=ahR T XC (by lia) (Le.mono (by lia)) Fo If_ (Bl.mono (by lia)) (St.mono (by lia))
  have:=alz T XC IL (by lia) Sm;exact this.mono (by lia)
theorem sX:cU "const" (ED "const"):=#[by decide+kernel,by decide+kernel,by decide+kernel]
abbrev Rb.tp (B:Rb) (dc:EA (a0×V)) (bp:EJ) (bc:EA (a0×V)):Rb:= { B with ds:=#[B.ds.p,dc,B.ds.x],bl:=#[bp,bc,B.bl.x] }
def CW (B:Rb) (H:Hp):Prop:= ∀b,eQ B b->H b=Fa
inductive oM (a:be) (ok:EG->Prop) (vs:EA V) (H:Hp) (Q:VK) (E:XK):Prop
 |mk {β:Type}(B:Rb) (L:E1) (H0:Hp) (Ro:β->EG->Prop) (F:EA (Fk×V)) (b:FR) (t:EG) (Kn:EK) (nf:E1) (Ds:EA EC) (f:E1) (g:gR->EU β) (_:vs=[.ref B.r]) (_:ok t) (_:16*t.length<=f) (_:Bk B.ds Ds) (_:B.ds.c.length+t.length<=4000) (_:Kn.funs.length+nf=9) (_:CW B H0) (_:RS ⟨a,E,B,L,H0,Ro⟩ F b H t Kn (ib f Kn nf Ds>>=g))
  (_: ∀x v H' t' dc bp bc,(∀u,has dc u=x.2.2.2.contains u)->dc.length+t'.length<=4000->x.2.1.funs.length+x.2.2.1=9->CW (B.tp dc bp bc) H0->RS #[a,E,B.tp dc bp bc,L,H0,Ro] ((.top x.1,v)::F) FB H' t' x.2.1 (g x)->Q v H'):oM a ok vs H Q E
inductive DS (a:be) (vs:EA V) (H:Hp) (Q:VK) (E:XK):Prop
 |mk {β:Type}(B:Rb) (L:E1) (H0:Hp) (Ro:β->EG->Prop) (F:EA (Fk×V)) (b:FR) (t:EG) (Kn Kf:EK) (HJ:EC) (g:EC->EU β) (_:vs=[.ref B.r, .str (sb HJ)]) (_:cU (sb HJ) HJ) (_:FZ.contains HJ=FM) (_: ∀u,Kf.taken u=(decide (u=HJ)||Kn.taken u)) (_:RS ⟨a,E,B,L,H0,Ro⟩ F b H t Kn (Ge Kf>>=g))
  (_: ∀u H' t',Kn.values.contains u=FM->RS #[a,E,B,L,H0,Ro] F FB H' t' (Kn.with u) (g u)->Q (.str (sb u)) H'):DS a vs H Q E
section
variable {k m:E1}{x Gz:Fh}{st:Stmt}{f:EJ}{fd:FL}{N:EA Fh}{ok:EG->Prop}
theorem Dh (T:aU K mg a) (XC:XT K a) (hk:8<=k) (F:oF K x Gz st f fd) (S:az N ["reader"] (af st))
  (Jc: ∀(Gp:EH) (A:Gk) (outer:EA Env) (s:EM) (H:Hp) {β:Type}(B:Rb) (L:E1) (H0:Hp) (Ro:β->EG->Prop) (F:EA (Fk×V)) (b:FR) (t:EG) (Kn:EK) (nf:E1) (Ds:EA EC) (fu:E1) (g:gR->EU β) (Q:VK) (E:XK),bW k (A.deeper (Jf Gz (af st) s.heap.objs.size f Gp))->ok t->16*t.length<=fu->Bk B.ds Ds->B.ds.c.length+t.length<=4000->Kn.funs.length+nf=9->CW B H0->
   let X:=fi (fW P w) P w K mg base N Gz (af st) f Gp A outer s H E
   let D:eJ:= { nx:=λ_ H'=>Q .HZ H',rt:=Q }
   let Z:Zf β:=#[a,E,B,L,H0,Ro]
   RX X a E->RS Z F b H t Kn (ib fu Kn nf Ds>>=g)->(∀x v H' t' dc bp bc,(∀u,has dc u=x.2.2.2.contains u)->dc.length+t'.length<=4000->x.2.1.funs.length+x.2.2.1=9->CW (B.tp dc bp bc) H0->RS #[a,E,B.tp dc bp bc,L,H0,Ro] ((.top x.1,v)::F) FB H' t' x.2.1 (g x)->Q v H')->Bd X (a8 st) D (L2.start N [.ref B.r]) H):bS P w K mg base (fW P w) (k+1) f fd ["reader"] (oM a ok):=by
 refine fP F S [03] [02];obtain⟨B,L,H0,Ro,F,b,t,Kn,nf,Ds,fu,g,rfl,h1,h2,h3,h4,h5,h6,R,q⟩:=h;exact Jc Gp A outer s H B L H0 Ro F b t Kn nf Ds fu g Q E hr h1 h2 h3 h4 h5 h6 (ku T XC hk S hr) R q
theorem alA (T:aU K mg a) (XC:XT K a) (hk:8<=k) (F:oF K x Gz st f fd) (S:az N ["reader","function"] (af st))
  (Jc: ∀(Gp:EH) (A:Gk) (outer:EA Env) (s:EM) (H:Hp) {β:Type}(B:Rb) (L:E1) (H0:Hp) (Ro:β->EG->Prop) (F:EA (Fk×V)) (b:FR) (t:EG) (Kn Kf:EK) (HJ:EC) (g:EC->EU β) (Q:VK) (E:XK),bW k (A.deeper (Jf Gz (af st) s.heap.objs.size f Gp))->cU (sb HJ) HJ->FZ.contains HJ=FM->(∀u,Kf.taken u=(decide (u=HJ)||Kn.taken u))->
   let X:=fi (fW P w) P w K mg base N Gz (af st) f Gp A outer s H E
   let D:eJ:= { nx:=λ_ H'=>Q .HZ H',rt:=Q }
   let Z:Zf β:=#[a,E,B,L,H0,Ro]
   RX X a E->RS Z F b H t Kn (Ge Kf>>=g)->(∀u H' t',Kn.values.contains u=FM->RS #[a,E,B,L,H0,Ro] F FB H' t' (Kn.with u) (g u)->Q (.str (sb u)) H')->Bd X (a8 st) D (L2.start N [.ref B.r, .str (sb HJ)]) H):bS P w K mg base (fW P w) (k+1) f fd ["reader","function"] (DS a):=by
 refine fP F S [03] [02];obtain⟨B,L,H0,Ro,F,b,t,Kn,Kf,HJ,g,rfl,h1,h2,h3,R,q⟩:=h;exact Jc Gp A outer s H B L H0 Ro F b t Kn Kf HJ g Q E hr h1 h2 h3 (ku T XC hk S hr) R q
end
section
variable {K:EK}{β:Type}{g:gR->EU β}
theorem sJ (h:EV t "const"=FB):(ib k K n D>>=g) t=(F3>>=λ_=>Ge K>>=λx=>dS k K>>=λe=>g (.const x e,K.with x,n,D)) t:=by
 rw[aS (show ib k K n D t=(F3>>=λ_=>vC k K n D:EU gR) t by unfold ib;rw[EL h])];simp only[vC,dS,bind_assoc,pure_bind]
end
theorem ahS (T:aU K mg a) (XC:XT K a) (hk:8<=k) (G:T.Xc.O P w base k (gt a [] dS 12 FM FB .e)):
  T.Wr.O P w base (k+1) (oM a λt=>EV t "const"=FB):=by
 refine Dh T XC hk T.Wr.F agr λGp A outer s H β B L H0 Ro F b t Kn nf Ds fu g Q E hr ho hf hB hc hn hN=>?_;intro X D Z Y R q;have lL:=R.lL;have hm:Kn.values.length+(Z.at t.length).L<=4000:=R.room;obtain⟨xp,r,rfl⟩:=e7 R (beq_iff_eq.mp ho);have hF:16*(Z.at (((GV (ED "const"),xp)::r).length)).L+12<=fu+16:=by show 16*((GV (ED "const"),xp)::r).length+12<=fu+16;lia
 refine iL (Z:=Z.at _) Y sX (R.at.as (sJ ho)) λH t R=>?_;refine i4 (Z:=Z.at _) 1 Y R λu H t ft R=>?_;refine ou (Z:=Z.at _) 2 Y #[G,hr,T.Xc.c,FS] R hF λe v H t R=>?_;refine gG (Z:=Z.at _) Y (pv 1) [05] ft hm R λH R=>?_;refine g9 (Z:=Z.at _) Y (Cv T) (aa (pv 1) (aa (pv 2) ag)) [05] R rfl λw H i R=>?_;have l:t.length+1<=r.length+1:=R.l;have R:=RS.back (Z:=Z) lL R;refine q (.const u e,Kn.with u,nf,Ds) w H t B.ds.c B.bl.p B.bl.c hB (by rw[EZ] at hc;lia) hn hN ((R.cut 1).and ?_);exact#[v,i,R.f (i:=0) rfl]
theorem ahT (T:aU K mg a) (XC:XT K a):T.Zk.O P w base 9 (DS a):=by
 refine alA T XC (k:=8) [01] T.Zk.F agu λGp A outer s H β B L H0 Ro F b t Kn Kf HJ g Q E hr lit Uv hK=>?_;intro X D Z Y R q;have lL:=R.lL;have hm:Kn.values.length+(Z.at t.length).L<=4000:=R.room;refine bE (dv (me (Z:=Z) Y R (pv 1) [05] (λbd=>(fT Kf).bind.K6 bd R.w) λnb=>#[_,FS,?_]));rw[bZ R.tok lit];refine aP (λe=>?_) λe=>?_
 ·obtain⟨xp,r,rfl⟩:=e7 R (beq_iff_eq.mp e)
  refine bA (qU (Z:=Z) (i:=4) Y (aR (by rfl) T.Ob) R nb ?_);rw[aS (q:=(E9 4:EU EC)) (by rw[eu Uv,EL (by rw[hK,Gb rfl];rfl)])]
  rfl
 ·have en:Ge Kf t=Ge Kn t:=by
   obtain⟨⟨x,xp⟩,r,rfl⟩:=R.cons;cases x with
   |word u=>
    cases Rm:FZ.contains u with
    |true=>rw[iu Rm,iu Rm]
    |false=>
     have nf:decide (u=HJ)=FM:=FA λz=>by
      have e:(GV u == GV HJ)=FM:=e;rw[z,Gr] at e;cases e
     rw[eu Rm,eu Rm,hK,nf];rfl
   |num m=>rfl
   |sign s=>rfl
   |eof=>rfl
   |bad=>rfl
  refine i4 (Z:=Z.at t.length) 2 Y (R.at.asf en) λu H t ft R=>?_;refine gG (Z:=Z.at _) Y (pv 2) [05] ft hm R λH R=>?_;exact aJ (bv 2 (q u H t (jB ft) (RS.back (Z:=Z) lL R)))
def fH (f n:E1) (K:EK):EU (EA EC):=Kd ",">>=λm=>(if m=FB then JJ f n K else(FC ")">>=λ_=>pure []))
section
variable {K:EK}{β:Type}{g:EA EC->EU β}
theorem pN (hn:n≠0):(JJ (f+1) n K>>=g) t=(Ge K>>=λx=>fH f (n-1) (K.with x)>>=λl=>g (x::l)) t:=by
 rw[aS (xz hn),bind_assoc];have e: ∀x,((Kd ",">>=λm=>(if m=FB then(JJ f (n-1) (K.with x)>>=λl=>pure (x::l)) else(FC ")">>=λ_=>pure [x])):EU (EA EC))>>=g)=(fH f (n-1) (K.with x)>>=λl=>g (x::l)):=λx=>by
  unfold fH;rw[bind_assoc,bind_assoc]
  congr 1
  funext m
  cases m with
  |true=>rw[EL rfl,EL rfl,bind_assoc];simp only[pure_bind]
  |false=>rw[EI EE,EI EE,bind_assoc,bind_assoc];simp only[pure_bind]
 simp only[e]
theorem vj (no:FD t ","=FM):(fH f n K>>=g) t=(FC ")">>=λ_=>g []) t:=by
 unfold fH;rw[bind_assoc];refine(bG (x:=FM) (r:=t) (by unfold Kd;rw[EI (by rw[no];exact EE)])).trans ?_;rw[EI EE,bind_assoc];simp only[pure_bind]
theorem rn {x:F5×FT}(yes:FD (x::r) ","=FB):(fH f n K>>=g) (x::r)=(F3>>=λ_=>JJ f n K>>=g) (x::r):=by
 unfold fH;rw[bind_assoc];refine(bG (x:=FB) (r:=r) (by unfold Kd;rw[EL yes];rfl)).trans ?_;rw[EL rfl]
 rfl
theorem nJ (f n:E1) (K:EK):aI (fH f n K):=(lF ",").strict λm=>by
 cases m with
 |true=>
  rw[EL rfl];exact ji f n K
 |false=>
  rw[EI EE];exact(bf ")").bind
end
theorem mD {K:EK}{f u:EC} :(#[vs++f::K.values,K.funs]:EK).taken u=(decide (u=f)||(⟨vs++K.values,K.funs⟩:EK).taken u):=by
 unfold Na;rw[<-FR.or_assoc]
 congr 1
 rw[GD,LL,FH,FK,FK,Fp,Fp,EW];constructor
 ·rintro(h|h|h)
  ·exact .inr (.inl h)
  ·exact .inl h
  ·exact .inr (.inr h)
 ·rintro(h|h|h)
  ·exact .inr (.inl h)
  ·exact .inl h
  ·exact .inr (.inr h)
theorem eU {α β:Type}{g:α->EU β}(t:EG):((E9 i:EU α)>>=g) t=E9 i t:=rfl
section
variable {β:Type}{Z:Zf β}{H:Hp}{Q:VK}{p:EU β}
theorem wX {e:G8}{i:E1}(Y:RX X Z.a Z.E) (he:PE X e (tC (.int i))) (R:RS Z F b H t Kn p) (h:p t=E9 i t) (hp:ig p2 p4:=by rfl) (JS:Fb [e] X.env=[(FM,eval e X.env)]:=by rfl):
  Pe X (.Call (.Attribute (.Name "reader" p1) "fail" p2) [e] [] p4) (EQ (.ref Z.B.r)::σ) H Q:=by
 obtain⟨n,S⟩:=R.S;obtain⟨⟨x,xp⟩,t',rfl,tok,Ql,Ma,_⟩:=S.wh.first;refine Y.m1 Y.T.Vq.c (fE Y.T Y.C) [01] Y.up S rfl #[_,he,Z.B.r,Z.B.q,Z.B.kd,Z.B.fn,Z.B.ds,Z.B.bl,n,(x,xp),t',i,FS,S.rd,?_] hp JS;have w:=R.w;have w:=ahl (p':=E9 i) h w;rw[aaM] at w;exact w H R.k
end
inductive aa4 (a:be) (vs:EA V) (H:Hp) (Q:VK) (E:XK):Prop
 |mk {β:Type}(B:Rb) (L:E1) (H0:Hp) (Ro:β->EG->Prop) (F:EA (Fk×V)) (b:FR) (t:EG) (Kn:EK) (HJ:EC) (f:E1) (g:EA EC->EU β) (_:vs=[.ref B.r, .str (sb HJ)]) (_:cU (sb HJ) HJ) (_:FZ.contains HJ=FM) (_:t.length<f) (_:RS ⟨a,E,B,L,H0,Ro⟩ F b H t Kn (JJ f 6 (Kn.with HJ)>>=g))
  (_: ∀ps v H' t',ps.length<=6->ps.Nodup->(∀x∈ps,x∉Kn.values)->RS #[a,E,B,L,H0,Ro] ((.ps ps,v)::F) FB H' t' #[ps.reverse++Kn.values,Kn.funs] (FC ")">>=λ_=>g ps)->Q v H'):aa4 a vs H Q E
inductive PsI {β:Type}(Z:Zf β) (Ls:EJ) (F:EA (Fk×V)) (Kn:EK) (HJ:EC) (g:EA EC->EU β) (σ0:L2.St) (m:E1) (σ:L2.St) (H:Hp):Prop
 |mk (ps:EA EC) (t:EG) (f:E1) (_:m=t.length) (_:σ=σ0) (_:ps≠[]) (_:ps.length<=6) (_:ps.Nodup) (_: ∀x∈ps,x∉Kn.values) (_:t.length<f)
  (_:RS (Z.mo Ls (gI ps)) F FB H t #[ps.reverse++Kn.values,Kn.funs] (fH f (6-ps.length) #[ps.reverse++HJ::Kn.values,Kn.funs]>>=λl=>g (ps++l))):PsI Z Ls F Kn HJ g σ0 m σ H
section
variable {k m:E1}{x Gz:Fh}{st:Stmt}{f:EJ}{fd:FL}{N:EA Fh}
theorem alB (T:aU K mg a) (XC:XT K a) (hk:8<=k) (F:oF K x Gz st f fd) (S:az N ["reader","function"] (af st))
  (Jc: ∀(Gp:EH) (A:Gk) (outer:EA Env) (s:EM) (H:Hp) {β:Type}(B:Rb) (L:E1) (H0:Hp) (Ro:β->EG->Prop) (F:EA (Fk×V)) (b:FR) (t:EG) (Kn:EK) (HJ:EC) (fu:E1) (g:EA EC->EU β) (Q:VK) (E:XK),bW k (A.deeper (Jf Gz (af st) s.heap.objs.size f Gp))->cU (sb HJ) HJ->FZ.contains HJ=FM->t.length<fu->
   let X:=fi (fW P w) P w K mg base N Gz (af st) f Gp A outer s H E
   let D:eJ:= { nx:=λ_ H'=>Q .HZ H',rt:=Q }
   let Z:Zf β:=#[a,E,B,L,H0,Ro]
   RX X a E->RS Z F b H t Kn (JJ fu 6 (Kn.with HJ)>>=g)->(∀ps v H' t',ps.length<=6->ps.Nodup->(∀x∈ps,x∉Kn.values)->RS ⟨a,E,B,L,H0,Ro⟩ ((.ps ps,v)::F) FB H' t' ⟨ps.reverse++Kn.values,Kn.funs⟩ (FC ")">>=λ_=>g ps)->Q v H')->Bd X (a8 st) D (L2.start N [.ref B.r, .str (sb HJ)]) H):bS P w K mg base (fW P w) (k+1) f fd ["reader","function"] (aa4 a):=by
 refine fP F S [03] [02];obtain⟨B,L,H0,Ro,F,b,t,Kn,HJ,fu,g,rfl,h1,h2,h3,R,q⟩:=h;exact Jc Gp A outer s H B L H0 Ro F b t Kn HJ fu g Q E hr h1 h2 h3 (ku T XC hk S hr) R q
theorem ahU (T:aU K mg a) (XC:XT K a):T.Zj.O P w base 10 (aa4 a):=by
 refine alB T XC (k:=9) [01] T.Zj.F agt λGp A outer s H β B L H0 Ro F b t Kn HJ fu g Q E hr lit Uv hf=>?_;intro X D Z Y R q;have lL:=R.lL;have one: ∀ {σ:L2.St}{H:Hp}{Q:VK}{p1 p2 p3 p4:Pos},DS a [.ref B.r, .str (sb HJ)] H Q E->Pe X (.Call (.Name "read_parameter" p1) [.Name "reader" p2, .Name "function" p3] [] p4) (EQ (.ref B.r)::EQ (.str (sb HJ))::σ) H Q:=λh=>#[_,aL (ahT T XC) hr (by rfl) T.Zk.c Y.up (aa Y.rd (aa (pv 1) ag)),h]
 obtain⟨f,rfl⟩: ∃f,fu=f+1:=#[fu-1,by lia];refine aN 2 Y.nd (uc (aO (one #[B,t.length,H0,Ro,F,FM,t,Kn,Kn.with HJ,HJ,_,FS,lit,Uv,λu=>mD (vs:=[]),R.at.as (pN [01]),λu H t1 fv R=>cC #[by show 1<=FE;decide,λLs hL=>?_]])));have l1:t1.length+1<=t.length:=R.l;have R:=RS.back (Z:=Z) lL R;have N:=R.nwl hL;have fr: ∀ {vs:EA EC}{u:EC},vs.contains u=FM->u∉vs:=λh z=>by rw[FK.mpr z] at h;cases h
 refine fU Y.lv (PsI Z Ls F Kn HJ g [EQ (.ref B.r),EQ (.str (sb HJ)),EQ (.ref Ls)]) _ #[[u],t1,f,FS,FS,EA.cons_ne_nil _ _,(by show 1<=6;decide),FI.mpr #[GZ,Mb],λx hx=>by rw[Fd.mp hx];exact fr fv,by lia,R.more hL] ?_;rintro mm σ H ⟨ps,t,f,rfl,rfl,pne,p6,pnd,pfr,hf1,R⟩;have lL:=R.lL;have sl:(gI ps).length=ps.length:=EY ..;refine dv (uv (Z:=(Zf.mo Z Ls (gI ps)).at t.length) Y R.at (λb=>(nJ _ _ _).bind.K6 b R.w) (λnb e=>#[_,FS,bK ?_]) λ{x r} et e nb=>?_)
 ·have R:=R.as (vj ((cQ R.tok xn).symm.trans e))
  rw[Gw] at R;exact aJ (bv 2 (q ps (.ref Ls) H t p6 pnd pfr ((R.less N).and #[Ls,FS,N.nm,R.P0])))
 ·subst et
  have e:=(cQ R.tok xn).symm.trans e;obtain⟨x,xp⟩:=x;obtain rfl:x=_:=beq_iff_eq.mp e;refine#[nfS,_,rn e,λH R=>#[_,FS,cg ?_]]
  have l5:r.length+1<=_:=R.l;obtain⟨f,rfl⟩: ∃f',f=f'+1:=#[f-1,by lia]
  have hLs:H Ls=EQ (.lst (gI ps)):=RS.P0 (Z:=Z.at ((Iu (ED ","),xp)::r).length) (L:=Ls) (us:=gI ps) R;refine bE (cP b7 (iP T.JP hLs (pv 2) [05] #[_,aR (by rfl) T.OK,FS,_,FS,?_]));rw[cn,sl];refine aP (λe=>?_) λe=>?_
  ·have p6':ps.length=6:=by have:=Ft e;lia
   exact bA (wX (Z:=(Zf.mo Z Ls (gI ps)).at _) (i:=7) Y (aR (by rfl) T.Qh) R ((aS (q:=(E9 7:EU (EA EC))) (ur (by lia))).trans (eU _)))
  ·have p5:ps.length<6:=by have:=Fw e;lia
   refine mI (β:=β) hLs (pv 2) [05] (one #[B.more Ls (gI ps),_,H0,Ro,F,FB,r,_,_,HJ,_,FS,lit,Uv,λu=>mD,R.as (pN (by lia)),λu H t5 fv R=>?_]);have l6:t5.length+1<=_:=R.l;have R:=RS.back (Z:=Zf.mo Z Ls (gI ps)) lL R;refine#[Z,_,_,_,_,_,N,FP (show(gI ps).length<=6 by rw[sl];exact p6) [01],R,λH R=>?_];have ns:gI ps++[V.str (sb u)]=gI (ps++[u]):=by unfold gI;rw[GG];rfl
   rw[ns] at R;have nu:=fr fv;have er: ∀(V:EA EC),(ps++[u]).reverse++V=u::(ps.reverse++V):=λV=>by rw[T6];rfl
   refine fY #[_,l6,ps++[u],t5,f,FS,FS,(λz=>by rw[Sa] at z;exact nomatch z.2),by rw[Fc,IT];lia,?_,λx hx z=>?_,by lia,?_]
   ·rw[KO]
    refine#[pnd,FI.mpr #[GZ,Mb],λx hx y hy z=>?_];rw[Fd.mp hy] at z;exact nu (Fp.mpr (.inl (Js.mpr (by rw[<-z];exact hx))))
   ·rcases Fp.mp hx with hx|hx
    ·exact pfr x hx z
    ·rw[Fd.mp hx] at z
     exact nu (Fp.mpr (.inr z))
   ·rw[er,er,Fc,IT]
    have e2: ∀l,g (ps++[u]++l)=g (ps++u::l):=λl=>by rw[F4];rfl
    simp only[e2];exact R
end
theorem zH:cU "fun" (ED "fun"):=#[by decide+kernel,by decide+kernel,by decide+kernel]
theorem fo.Tg {a:be}{H:Hp}{n:E1}{t:EG}{K1 K2:EK}(S:fo a B H n t K1) (hc: ∀u,K2.values.contains u=K1.values.contains u) (hl:K2.values.length=K1.values.length) (hf:K2.funs=K1.funs):fo a B H n t K2:=by
 obtain⟨kk,k1,k2,k3⟩:=S.kn.vals;obtain⟨ff,f1,f2⟩:=S.kn.funs;refine#[S.rd,S.wh,#[#[kk,k1,by rw[hl];exact k2,λu=>by rw[hc];exact k3 u],#[ff,f1,by rw[hf];exact f2],by rw[hl];exact S.kn.len,#[ff,f1,by rw[hf];exact S.kn.fl f1]],S.R8,S.RB,S.O8,S.fr]
theorem Bu {aC:EA (a0×V)}{j:a0}{v:V}(h:bN aC j=Fa):(dy aC j v).length=aC.length+1:=by
 unfold dy;rw[EI,Fc]
 ·rfl
 ·intro z
  rw[Lh] at z;obtain⟨p,hp,e⟩:=z;have:(bN aC j).isSome=FB:=by
   unfold bN;rw[Hv,Mx];exact#[p,hp,e]
  rw[h] at this;cases this
theorem fo.Hs {a:be}{H:Hp}{B:Rb}{n:E1}{t:EG}{Kn:EK}{x:EC}{c:E1}{ff:EA (a0×V)}(S:fo a B H n t Kn) (hx:Kn.taken x=FM) (e:H B.fn=EQ (.dK ff)):
  fo a B (aF H B.fn (.dK (dy ff (nk x) (.int (c:E1))))) n t { Kn with funs:=(x,c)::Kn.funs } :=by
 obtain⟨dr,er⟩:=S.rd.ins;obtain⟨as,all,h1,h2,h3⟩:=S.rd.toks;obtain⟨kk,k1,k2,k3⟩:=S.kn.vals;obtain⟨ff',f1,f2⟩:=S.kn.funs;have hy:=S.R8;have hz:=S.RB;have fl:=S.kn.fl e;obtain rfl:ff'=ff:=by rw[e] at f1;cases f1;rfl
 obtain⟨d1,d2,d3,d4,d5,d6⟩:=S.O8;have nr:B.r≠B.fn:=λw=>by rw[w,e] at er;cases er
 have nq:B.q≠B.fn:=λw=>by rw[w,e] at h1;cases h1
 unfold Na at hx;rw[Lx] at hx;have none_:bN ff' (nk x)=Fa:=by
  rw[f2];have:Kn.funs.find? (λf=>f.1 == x)=Fa:=by
   rw[OO];intro y hy z;have:=hx.2;rw[U2] at this;exact this y hy z
  rw[this]
  rfl
 refine#[#[#[dr,by rw[ac nr];exact er],as,all,by rw[ac nq];exact h1,Paired.M7 h2 λb x ⟨dx,ex⟩=>#[dx,?_],h3],S.wh,#[#[kk,by rw[ac d1];exact k1,k2,k3],#[_,ae,λu=>?_],S.kn.len,#[_,ae,?_]],(by rw[ac d4.symm];exact hy),(by rw[ac d5.symm];exact hz),S.O8,λb xs h=>?_]
 ·rw[ac λw=>by rw[w,e] at ex;cases ex]
  exact ex
 ·rw[gB,GF]
  by_cases w:u=x
  ·rw[EL (by rw[w]),w,show((x,c).1 == x)=FB from Gr x]
   rfl
  ·rw[EI λz=>w (eE (Ja z)),show((x,c).1 == u)=FM from beq_eq_false_iff_ne.mpr (HS w)]
   exact f2 u
 ·rw[Bu none_,fl]
  rfl
 ·have e2:=S.fr b xs h
  rw[ac λw=>by rw[w,e] at e2;cases e2];exact e2
theorem vB:gF X (.builtin "len") (λxs H Q=> ∃a aC,xs=[V.ref a]/\CU X.prog X.w X.K a aC/\Q (.int aC.length) H):=by
 intro pins s σ H xs us Q I r h;obtain⟨a,aC,rfl,kd,q⟩:=h;obtain⟨u,rfl,ru⟩:=oj r;cases ru;obtain⟨vs,dd,rel⟩:=kd.at_;have z:=kd.len;refine call_len_dict kd.no (dd _ I.MI) (by rw[<-rel.length];rw[Ht] at z;lia) ?_;rw[<-rel.length];exact#[.int aC.length,H,I.tok _,#[_,FS],q]
theorem b4.is {M:EJ->Prop}{H:Hp}(h:b4 M H us (.ref L)):H L=EQ (.lst us):=by
 obtain⟨p,e,_,h⟩:=h;cases e;exact h
section
variable {β:Type}{Z:Zf β}{H:Hp}{p:EU β}
theorem RS.Tg (R:RS Z F b H t Kn p) (hc: ∀u,K2.values.contains u=Kn.values.contains u) (hl:K2.values.length=Kn.values.length) (hf:K2.funs=Kn.funs):RS Z F b H t K2 p:=by
 obtain⟨n,S⟩:=R.S;exact R.go (S.Tg hc hl hf) db.refl R.l R.w
theorem RS.Hs (R:RS Z F b H t Kn p) (hx:Kn.taken x=FM) (e:H Z.B.fn=EQ (.dK ff)):RS Z F b (aF H Z.B.fn (.dK (dy ff (nk x) (.int (c:E1))))) t { Kn with funs:=(x,c)::Kn.funs } p:=by
 obtain⟨n,S⟩:=R.S;exact R.go (S.Hs hx e) (eR (.inr (.inr (.inl rfl)))) R.l R.w
end
section
variable {K:EK}{β:Type}{g:gR->EU β}
def kz (k n:E1) (K:EK) (D:EA EC) (g:gR->EU β) (x:EC) (ps:EA EC):EU β:=dS k { K with values:=ps++K.values } >>=λe=>g (.func x ps e,{ K with funs:=(x,ps.length)::K.funs },n-1,D)
def lB (k n:E1) (K:EK) (D:EA EC) (g:gR->EU β) (x:EC):EU β:=Kd ")">>=λm=>(if m=FB then Vbemac.give [] else JJ k 6 (K.with x))>>=λps=>kz k n K D g x ps
theorem Bb (h1:EV t "const"=FM) (h2:EV t "fun"=FB) (hn:n≠0):(ib k K n D>>=g) t=(F3>>=λ_=>Ge K>>=λx=>FC "(">>=λ_=>lB k n K D g x) t:=by
 rw[aS (show ib k K n D t=(F3>>=λ_=>aaV k K n D:EU gR) t by unfold ib;rw[EI (by rw[h1];exact EE),EL h2,EI hn])];unfold aaV lB;simp only[kz,dS,bind_assoc,pure_bind]
 rfl
theorem wE (h1:EV t "const"=FM) (h2:EV t "fun"=FB) (hn:n=0):(ib k K n D>>=g) t=E9 7 t:=
 (aS (q:=(E9 7:EU gR)) (by unfold ib;rw[EI (by rw[h1];exact EE),EL h2,EL hn])).trans (eU t)
theorem rb:aI (kz k n K D g x ps):=(bf "=").bind.bind
theorem qA:aI (lB k n K D g x):=(lF ")").strict λm=>by
 cases m with
 |true=>rw[EL rfl];exact rb
 |false=>rw[EI EE];exact(ji _ _ _).bind
theorem zL (h:FD t ")"=FB):lB k n K D g x t=(FC ")">>=λ_=>kz k n K D g x []) t:=by
 unfold lB;refine(bG (x:=FB) (r:=t.drop 1) (by unfold Kd;rw[EL h])).trans ?_;rw[EL rfl];refine Eq.trans (b:=kz k n K D g x [] (t.drop 1)) rfl ?_;exact(bG (p:=FC ")") (g:=λ_=>kz k n K D g x []) (x:=()) (r:=t.drop 1) (by unfold FC;rw[EL h])).symm
theorem yg (h:FD t ")"=FM):lB k n K D g x t=(JJ k 6 (K.with x)>>=kz k n K D g x) t:=by
 unfold lB;refine(bG (x:=FM) (r:=t) (by unfold Kd;rw[EI (by rw[h];exact EE)])).trans ?_;rw[EI EE]
end
theorem uF {ps V:EA EC}{i:E1}{x:EC}(h:ps[i]?=EQ x) (nd:ps.Nodup) (fr: ∀x∈ps,x∉V):(ps.drop i++V).contains x=FB/\(ps.drop (i+1)++V).length+1=(ps.drop i++V).length/\ ∀v,(ps.drop (i+1)++V).contains v=(!decide (v=x)&&(ps.drop i++V).contains v):=by
 have ed:ps.drop i=x::ps.drop (i+1):=by
  obtain⟨h,e⟩:=FF.mp h;rw[<-e];exact GO h
 have sub:(x::ps.drop (i+1)).Sublist ps:=by
  rw[<-ed];exact Va i ps
 have nin:=(FI.mp (sub.nodup nd)).1
 have nV:=fr x (sub.subset (EO ..));rw[ed];refine#[FK.mpr (EO ..),FS,λz=>?_]
 rw[VJ,FY];by_cases e:z=x
 ·subst e
  rw[Gb rfl];show _=FM;rw[U9];intro w;rcases Fp.mp (FK.mp w) with w|w
  ·exact nin w
  ·exact nV w
 ·rw[FA e,show(z == x)=FM from beq_eq_false_iff_ne.mpr e]
  rfl
theorem ahV (T:aU K mg a) (XC:XT K a) (kF:CU P w K a.GC dn) (hk:10<=k) (G:T.Xc.O P w base k (gt a [] dS 12 FM FB .e)):
  T.Ws.O P w base (k+1) (oM a λt=>EV t "const"=FM/\EV t "fun"=FB):=by
 refine Dh T XC (by lia) T.Ws.F ags λGp A outer s H β B L H0 Ro F b t Kn nf Ds fu g Q E hr ho hf hB hc hn hN=>?_;intro X D Z Y R q;have lL:=R.lL;obtain⟨n1,n2⟩:=ho;obtain⟨xp,r,ex⟩:=e7 R (beq_iff_eq.mp n2);have hF:16*(Z.at t.length).L+12<=fu+16:=by show 16*t.length+12<=fu+16;lia
 obtain⟨n,S⟩:=R.S;obtain⟨dr,er⟩:=S.rd.ins;obtain⟨ff,f1,_⟩:=S.kn.funs;have fl:=S.kn.fl f1;refine bE #[_,a7 b7 (bF ye (by rfl) T.JP Hl (aa (ao (pv 0) rfl) ag)) (ca dU (bF vB (by rfl) T.JP Hl (aa (iQ (by rfl) T.Mh) ag)) (aR (by rfl) T.O7)) (aM _),B.r,_,dr,_,_,FS,er,T.Fy,T.HV,FS,B.fn,ff,FS,f1,a.GC,dn,FS,kF,_,_,FS,FS,FS,_,FS,?_];rw[cn];refine aP (λe=>?_) λe=>?_
 ·have e:(ff.length:Int)=3+6:=Ft e
  exact bA (wX (Z:=Z) (i:=7) Y (aR (by rfl) T.Qh) R (wE n1 n2 (by lia)))
 have n0:nf≠0:=λz=>Fw e (by show(ff.length:Int)=3+6;lia)
 have R:=R.at.as (Bb n1 n2 n0);generalize hl:t.length=l at R lL hF hc hf;subst ex;refine iL (Z:=Z.at l) Y zH R λH t R=>?_
 refine tq (Z:=Z.at l) 1 Y R λu H t lit Uv ft R=>?_;refine cB (Z:=Z.at l) Y yB R λH t R=>?_;refine l8 (Z:=Z.at l) 2 Y R λLs H N R=>?_;have R:=(R.less N).and (e:=(.ps [], .ref Ls)) #[Ls,FS,N.nm,R.P0];have l5:t.length+1<=l:=R.l;refine gh (λσ' H'=> ∃(ps:EA EC) (v:V) (t:EG),σ'=[EQ (.ref B.r),EQ (.str (sb u)),EQ v,Fa,Fa]/\ps.length<=6/\ps.Nodup/\(∀x∈ps,x∉Kn.values)/\RS (Z.at l) ((.ps ps,v)::F) FB H' t #[ps.reverse++Kn.values,Kn.funs] (FC ")">>=λ_=>kz fu nf Kn Ds g u ps)) ?_ ?_
 ·rintro σ H ⟨ps,v,t,rfl,p6,pnd,pfr,R⟩
  refine cB (Z:=Z.at l) Y uw R λH t R=>?_;have R:=R.Tg (K2:= { Kn with values:=ps++Kn.values }) (λv=>by
   rw[GD,FK,FK,Fp,Fp,Js]) (by
   show(ps++Kn.values).length=(ps.reverse++Kn.values).length
   rw[Fc,Fc,F7]) rfl
  refine ou (Z:=Z.at l) 3 Y #[G,hr,T.Xc.c,FS] R hF λe v3 H t R=>?_;obtain⟨Lp,rfl,nLp,hLp⟩:b4 (eQ B) H (gI ps) v:=R.f (i:=1) rfl;refine jH 4 Y.lv Y.nd (pv 2) [05] (λi σ H=> ∃y:ET V,σ=[EQ (.ref B.r),EQ (.str (sb u)),EQ (.ref Lp),EQ v3,y]/\RS (Z.at l) ((.e e,v3)::(.ps ps, .ref Lp)::F) FB H t { Kn with values:=ps.drop i++Kn.values } (g (.func u ps e,{ Kn with funs:=(u,ps.length)::Kn.funs },nf-1,Ds))) #[Fa,FS,R] (λ_ _ _ _ ⟨_,_,R⟩=>b4.is (R.f (i:=1) rfl)) ?_ ?_
  ·rintro i y σ H hi ⟨y0,rfl,R⟩
   unfold gI at hi;rw[FQ] at hi;obtain⟨x,hx,rfl⟩:=FG.mp hi;obtain⟨h1,h2,h3⟩:=uF hx pnd pfr;exact nD (Z:=Z.at l) (K2:= { Kn with values:=ps.drop (i+1)++Kn.values }) Y (pv 4) [05] R h1 rfl h2 h3 λH R=>cc #[_,FS,R]
  ·rintro σ H ⟨y0,rfl,R⟩
   have sl:(gI ps).length=ps.length:=EY ..;rw[sl,PX] at R
   have R:RS (Z.at l) _ FB H t Kn _:=R;obtain⟨n,S⟩:=R.S;obtain⟨dr,er⟩:=S.rd.ins;obtain⟨gg,g1,_⟩:=S.kn.funs
   have gl:=S.kn.fl g1;refine aQ (gQ (dq hr) (ao (pv 0) rfl) (pv 1) (bF bM (by rfl) T.JP Hl (aa (pv 2) ag)) rfl) #[_,_,FS, .inl (cO.of (b4.is (R.f (i:=1) rfl))),B.r,_,dr,_,_,FS,er,T.Fy,T.HV,FS,B.fn,_,FS, .inl #[gg,nk u,g1,FS,FP (show gg.length<=9 by lia) [01],FS],?_]
   have R:=R.Hs (x:=u) (c:=(gI ps).length) ft g1;rw[sl] at R ⊢;refine g9 (Z:=Z.at l) Y (aaB T) (aa (pv 1) (aa (pv 2) (aa (pv 3) ag))) [05] R rfl λw H i R=>?_
   have l9:t.length+1<=l:=R.l
   have R:=RS.back (Z:=Z) lL R;refine q (.func u ps e,{ Kn with funs:=(u,ps.length)::Kn.funs },nf-1,Ds) w H t B.ds.c B.bl.p B.bl.c hB (by lia) (by show Kn.funs.length+1+(nf-1)=9;lia) hN ((R.cut 2).and ?_);exact#[.ref Lp,v3,i,R.f (i:=1) rfl,R.f (i:=0) rfl]
 ·refine jm (dv (io (Z:=Z.at l) Y R qA λnb=>#[_,FS,?_]))
  rw[cQ R.tok uw];cases hs:(E4 t == Iu (ED ")")) with
  |true=>exact bK #[[], .ref Ls,t,FS,Fs _,Mb,(λ_ z=>nomatch z),R.as (zL hs)]
  |false=>exact cg (aN 2 Y.nd #[_,aL (ahU T XC) (hr.mono hk) (by rfl) T.Zj.c Y.up (aa Y.rd (aa (pv 1) ag)),B,l,H0,Ro,F,FB,t,Kn,u,fu,_,FS,lit,Uv,by lia,(R.as (yg hs)).cut 1,λps v H t p6 pnd pfr R=>cc #[ps,v,t,FS,p6,pnd,pfr,R]])
theorem DH:cU "desk" (ED "desk"):=#[by decide+kernel,by decide+kernel,by decide+kernel]
theorem gM {α:Type}{o:ET α}{x:α}(h1:o=Fa) (h2:o=EQ x):False:=nomatch h1.symm.trans h2
theorem Yh {b:FR}(h:b=FM): ¬b=FB:=λz=>EE (h.symm.trans z)
abbrev Rb.nb (B:Rb) (nb:EJ):Rb:= { B with bl:=#[nb,[],B.bl.x] }
abbrev Rb.dk (B:Rb) (c:EA (a0×V)):Rb:= { B with ds:=#[B.ds.p,c,B.ds.x] }
theorem fo.aa5 {a:be}{H:Hp}{B:Rb}{n:E1}{t:EG}{Kn:EK}{nb:EJ}(S:fo a B H n t Kn) (Uw:H nb=Fa) {dr:EJ}(er:H B.r=EQ (.ins a.FX dr (qT B.q B.kd B.fn B.ds.p B.bl.p n))):
  fo a (B.nb nb) (aF (aF H nb (.dK [])) B.r (.ins a.FX dr (qT B.q B.kd B.fn B.ds.p nb n))) n t Kn/\db (eQ B) H (aF (aF H nb (.dK [])) B.r (.ins a.FX dr (qT B.q B.kd B.fn B.ds.p nb n))):=by
 obtain⟨as,all,h1,h2,h3⟩:=S.rd.toks;obtain⟨kk,k1,k2,k3⟩:=S.kn.vals;obtain⟨ff,f1,f2⟩:=S.kn.funs;have hy:=S.R8;obtain⟨d1,d2,d3,d4,d5,d6⟩:=S.O8;have old: ∀ {b:EJ}{o:HO},H b=EQ o->b≠B.r->aF (aF H nb (.dK [])) B.r (.ins a.FX dr (qT B.q B.kd B.fn B.ds.p nb n)) b=EQ o:=λe w=>by
  rw[ac w,ac (ai e Uw)];exact e
 have nir: ∀ {b:EJ}{o:HO},H b=EQ o->(∀C dx fs,o≠ .ins C dx fs)->b≠B.r:=λe no w=>by
  rw[w,er] at e;exact no _ _ _ (E5 e).symm
 have nbr:nb≠B.r:=(ai er Uw).symm
 have alC: ∀ {b:EJ}{x:F5×FT},fS a.IA H b x->b≠B.r:=λ{b x} ⟨dx,ex⟩ w=>by
  rw[w,er] at ex;have:=FN (λo:HO=>match o with| .ins _ _ fs=>fs.length|_=>0) (E5 ex)
  exact E7 this (by show¬(6=4);decide)
 refine#[#[#[#[dr,ae],as,all,old h1 (nir h1 λ_ _ _ z=>nomatch z),Paired.M7 h2 λb x h=>?_,h3],S.wh,#[#[kk,old k1 (nir k1 λ_ _ _ z=>nomatch z),k2,k3],#[ff,old f1 (nir f1 λ_ _ _ z=>nomatch z),f2],S.kn.len,#[ff,old f1 (nir f1 λ_ _ _ z=>nomatch z),S.kn.fl f1]],old hy (nir hy λ_ _ _ z=>nomatch z),by show aF (aF H nb (.dK [])) B.r _ nb=EQ (.dK []);rw[ac nbr];exact ae,#[d1,d2,ai k1 Uw,d4,ai f1 Uw,ai hy Uw],λb xs h=>?_],λb o e m=>old e λz=>m (.inl z)]
 ·have w:=alC h
  obtain⟨dx,ex⟩:=h;exact#[dx,old ex w]
 ·have e2:=S.fr b xs h
  exact old e2 (nir e2 λ_ _ _ z=>nomatch z)
theorem rM {q kd fn ds bl nb:EJ}{n:E1} :Hs "blocks" (.ref nb) (qT q kd fn ds bl n)=qT q kd fn ds nb n:=by
 unfold qT;simp only[Hs]
 rfl
theorem fo.putD {a:be}{H:Hp}{B:Rb}{n:E1}{t:EG}{Kn:EK}(S:fo a B H n t Kn):fo a (B.dk c) (aF H B.ds.p (.dK c)) n t Kn:=by
 obtain⟨dr,er⟩:=S.rd.ins;obtain⟨as,all,h1,h2,h3⟩:=S.rd.toks;obtain⟨kk,k1,k2,k3⟩:=S.kn.vals;obtain⟨ff,f1,f2⟩:=S.kn.funs;have hy:=S.RB;have e:=S.R8;obtain⟨d1,d2,d3,d4,d5,d6⟩:=S.O8;have nr:B.r≠B.ds.p:=λw=>by rw[w,e] at er;cases er
 have nq:B.q≠B.ds.p:=λw=>by rw[w,e] at h1;cases h1
 refine#[#[#[dr,(by show aF H B.ds.p (.dK c) B.r=_;rw[ac nr];exact er)],as,all,(by show aF H B.ds.p (.dK c) B.q=_;rw[ac nq];exact h1),Paired.M7 h2 λb x ⟨dx,ex⟩=>#[dx,?_],h3],S.wh,#[#[kk,(by show aF H B.ds.p (.dK c) B.kd=_;rw[ac d2];exact k1),k2,k3],#[ff,(by show aF H B.ds.p (.dK c) B.fn=_;rw[ac d4];exact f1),f2],S.kn.len,#[ff,(by show aF H B.ds.p (.dK c) B.fn=_;rw[ac d4];exact f1),S.kn.fl f1]],ae,(by show aF H B.ds.p (.dK c) B.bl.p=_;rw[ac d6.symm];exact hy),S.O8,λb xs h=>?_]
 ·rw[ac λw=>by rw[w,e] at ex;cases ex]
  exact ex
 ·have e2:=S.fr b xs h
  rw[ac λw=>by rw[w,e] at e2;cases e2];exact e2
section
variable {β:Type}{H H0:Hp}{p:EU β}{E:XK}{Ro:β->EG->Prop}
theorem RS.putD (R:RS #[a,E,B,L,H0,Ro] F b H t Kn p):RS #[a,E,B.dk c,L,H0,Ro] F b (aF H B.ds.p (.dK c)) t Kn p:=by
 obtain⟨n,S⟩:=R.S;have k:db (eQ B) H (aF H B.ds.p (.dK c)):=eR (.inr (.inr (.inr (.inl rfl))));exact#[#[n,S.putD],R.k.trans k,λe=>jc.Hj k.two (R.f e),R.l,R.w]
theorem RS.aa5 {n:E1}{nb dr:EJ}(R:RS #[a,E,B,L,H0,Ro] F b H t Kn p) (hN:CW B H0) (S:fo a B H n t Kn) (Uw:H nb=Fa) (er:H B.r=EQ (.ins a.FX dr (qT B.q B.kd B.fn B.ds.p B.bl.p n))):
  CW (B.nb nb) H0/\RS #[a,E,B.nb nb,L,H0,Ro] F b (aF (aF H nb (.dK [])) B.r (.ins a.FX dr (qT B.q B.kd B.fn B.ds.p nb n))) t Kn p:=by
 obtain⟨S',k⟩:=S.aa5 Uw er;have m: ∀ {b},eQ (B.nb nb) b->eQ B b\/b=nb:=λ{b} z=>by
  rcases z with z|z|z|z|z|z
  ·exact .inl (.inl z)
  ·exact .inl (.inr (.inl z))
  ·exact .inl (.inr (.inr (.inl z)))
  ·exact .inl (.inr (.inr (.inr (.inl z))))
  ·exact .inr z
  ·exact .inl (.inr (.inr (.inr (.inr (.inr z)))))
 have h0:H0 nb=Fa:=by
  cases e:H0 nb with
  |none=>rfl
  |some o=>
   have:=R.k nb o e λz=>by rw[hN nb z] at e;cases e
   rw[Uw] at this;cases this
 have N':CW (B.nb nb) H0:=λb z=>(m z).elim (hN b) λz=>by rw[z];exact h0
 refine#[N',#[n,S'],λb o e _=>?_,λe=>jc.Hj (λb o e w=>#[λz=>(m z).elim w (λz=>gM (by rw[z];exact Uw) e),k b o e w]) (R.f e),R.l,R.w.mono (λ_ _ z=>z) λ_ _ z H' k'=>z H' λb o e _=>k' b o e λz=>gM (N' b z) e];have w: ¬eQ B b:=λz=>gM (hN b z) e
 exact k b o (R.k b o e w) w
end
section
variable {K:EK}{β:Type}{g:gR->EU β}
theorem wF (h1:EV t "const"=FM) (h2:EV t "fun"=FM):(ib k K n D>>=g) t=(GN "desk">>=λ_=>ee D>>=λx=>FC "{">>=λ_=>JA k 6 K []>>=λl=>g (.desk x l.1,K,n,x::D)) t:=by
 have c1: ¬EV t "const"=FB:=by rw[h1];exact EE
 have c2: ¬EV t "fun"=FB:=by rw[h2];exact EE
 cases hd:EV t "desk" with
 |true=>
  rw[aS (show ib k K n D t=(F3>>=λ_=>Cl k K n D:EU gR) t by unfold ib;rw[EI c1,EI c2,EL hd])];refine Eq.trans ?_ (bG (p:=GN "desk") (x:=()) (r:=t.drop 1) (by unfold GN;rw[EL hd])).symm;unfold Cl;simp only[bind_assoc,pure_bind]
  rfl
 |false=>
  have c3: ¬EV t "desk"=FB:=by rw[hd];exact EE
  refine(aS (q:=(E9 2:EU gR)) (by unfold ib;rw[EI c1,EI c2,EI c3])).trans ?_;exact((eU t).trans (eU t).symm).trans (aS (p:=GN "desk") (q:=(E9 2:EU Mo)) (by unfold GN;rw[EI c3])).symm
theorem rW (nb:x≠ .bad) (en:cN x=FM):ee D ((x,xp)::t)=E9 2 ((x,xp)::t):=by
 cases x with
 |word u=>
  rw[dB] at en;have Rm:FZ.contains u=FB:=by cases h:FZ.contains u;rw[h] at en;cases en;rfl
  unfold ee;rw[cT,EL Rm]
  rfl
 |num m=>rfl
 |sign s=>rfl
 |eof=>rfl
 |bad=>exact E7 rfl nb
theorem lG (Rm:FZ.contains u=FM):ee D ((.word u,xp)::t)=if D.contains u=FB then E9 4 ((.word u,xp)::t) else .ok (u,t):=by
 unfold ee;rw[cT,EI (by rw[Rm];exact EE)]
end
theorem ahW (T:aU K mg a) (XC:XT K a) (hk:8<=k)
  (G:T.VY.O P w base k (kh a 7)):
  T.Wt.O P w base (k+1) (oM a λt=>EV t "const"=FM/\EV t "fun"=FM):=by
 refine Dh T XC hk T.Wt.F agv λGp A outer s H β B L H0 Ro F b t Kn nf Ds fu g Q E hr ho hf hB hc hn hN=>?_;intro X D Z Y R q;have lL:=R.lL;have hm:Kn.values.length+t.length<=4000:=R.room;have R:=R.at.as (wF ho.1 ho.2);generalize hl:t.length=l at R lL hc hf hm;refine kP (Z:=Z.at l) Y DH R λH t R=>?_;have l1:t.length+1<=l:=R.l;obtain⟨n,S⟩:=R.S;refine aN 1 Y.nd (vW (Z:=Z.at l) Y R (λ_=>rfl) T.Lo S.R8 (lT Ds).bind (λnb en=>?_) (λu e1 hk hu=>?_) λu xp r e1 hk hu=>#[FC "{">>=λ_=>JA fu 6 Kn []>>=λl=>g (.desk u l.1,Kn,nf,u::Ds),(bG (x:=u) (r:=r) ((lG hk).trans (EI (Yh ((hB u).symm.trans hu))))).trans rfl,λH R=>?_])
 ·obtain⟨⟨x,xp⟩,r,rfl⟩:=R.cons
  exact(aS (q:=E9 2) (rW nb en)).trans (eU _)
 ·obtain⟨⟨x,xp⟩,r,rfl⟩:=R.cons
  obtain rfl:x= .word u:=e1;exact(aS (q:=E9 4) ((lG hk).trans (EL ((hB u).symm.trans hu)))).trans (eU _)
 rw[e1,EZ] at l1;obtain⟨n,S⟩:=R.S;obtain⟨dr,er⟩:=S.rd.ins;refine aQ (gQ (dq hr) (ao (pv 0) rfl) (pv 1) tR rfl) #[B.r,_,dr,_,_,FS,er,T.Fy,T.Lo,FS,B.ds.p,_,FS, .inl #[B.ds.c,nk u,S.R8,FS,FP (show B.ds.c.length<=4000 by lia) [01],FS],?_];have hD: ∀v,has (dy B.ds.c (nk u) (.bl FB)) v=(u::Ds).contains v:=λv=>by
  rw[qK,FY,hB v]
  congr 1
  rw[GD,FH,beq_iff_eq]
 have hDl:=cD B.ds.c (nk u) (.bl FB)
 have R:=R.putD (c:=dy B.ds.c (nk u) (.bl FB));generalize dy B.ds.c (nk u) (.bl FB)=c3 at R hD hDl ⊢;generalize aF H B.ds.p (.dK c3)=H at R ⊢;obtain⟨n,S⟩:=R.S;obtain⟨dr,er⟩:=S.rd.ins;refine aQ (b5 (pv 0) e9 rfl) λnb Uw=>#[B.r,_,dr,_,FS,(by rw[ac λz=>by rw[<-z,er] at Uw;cases Uw];exact er),T.Fy,T.Jl,(by show 6<1000;decide),?_]
 rw[rM];obtain⟨hN,R⟩:=R.aa5 hN S Uw er;refine aJ (jw Y (Dk T) (aO (bv 1 (aO #[_,Y.call2 #[G,hr,T.VY.c,FS] aj [01] rfl,(B.dk c3).nb nb,l,H0,Ro,F,_,r,Kn,[],0,fu,_,FS,Fs _,by decide,by lia,(λv=>rfl),(by show 0+r.length<=4000;lia),R,λx v H t c' hB' VZ R=>cC (R.new rfl λw H i R=>?_)]))));have l9:t.length+1<=l:=R.l;have R:=RS.back (Z:=#[a,E,B.tp c3 nb c',L,H0,Ro]) lL R;obtain⟨us,la,sa⟩:mt a (eQ (B.tp c3 nb c')) H x.1 v:=R.f (i:=0) rfl;exact q (.desk u x.1,Kn,nf,u::Ds) w H t c3 nb c' hD (by lia) hn hN ((R.cut 1).and #[v,us,i,la,sa])
theorem ahX (T:aU K mg a) (XC:XT K a) (hk:8<=k)
  (G1:T.Wr.O P w base k (oM a λt=>EV t "const"=FB))
  (G2:T.Ws.O P w base k (oM a λt=>EV t "const"=FM/\EV t "fun"=FB))
  (G3:T.Wt.O P w base k (oM a λt=>EV t "const"=FM/\EV t "fun"=FM)):
  T.Wq.O P w base (k+1) (oM a λ_=>True):=by
 refine Dh T XC hk T.Wq.F agq λGp A outer s H β B L H0 Ro F b t Kn nf Ds fu g Q E hr ho hf hB hc hn hN=>?_;intro X D Z Y R q;refine bE (dv (io (Z:=Z) Y R (lA _ _ _ _).bind λnb=>#[_,FS,?_]));rw[bZ R.tok sX];refine aP (λe1=>aJ (eZ Y #[G1,hr,T.Wr.c,FS] #[B,L,H0,Ro,F,b,t,Kn,nf,Ds,fu,g,FS,e1,hf,hB,hc,hn,hN,R,q])) λe1=>?_;refine bE (dv (io (Z:=Z) Y R (lA _ _ _ _).bind λnb=>#[_,FS,?_]));rw[bZ R.tok zH];refine aP (λe2=>aJ (eZ Y #[G2,hr,T.Ws.c,FS] #[B,L,H0,Ro,F,b,t,Kn,nf,Ds,fu,g,FS,#[e1,e2],hf,hB,hc,hn,hN,R,q])) λe2=>?_;exact aJ (eZ Y #[G3,hr,T.Wt.c,FS] #[B,L,H0,Ro,F,b,t,Kn,nf,Ds,fu,g,FS,#[e1,e2],hf,hB,hc,hn,hN,R,q])
section
open Vbemac (tokens)
theorem ua (u:EC):bN dn (nk u)=(Im.funs.find? λf=>f.1 == u).map λf=>V.int (f.2:E1):=by
 have h1:(Hu "min":a0)=nk (ED "min"):=by show(Hu "min":a0)=Hu (sb (ED "min"));congr 1
 have h2:(Hu "max":a0)=nk (ED "max"):=by show(Hu "max":a0)=Hu (sb (ED "max"));congr 1
 have h3:(Hu "abs":a0)=nk (ED "abs"):=by show(Hu "abs":a0)=Hu (sb (ED "abs"));congr 1
 unfold dn Im KI;rw[h1,h2,h3];have ne: ∀ {v:EC},¬v=u-> ¬nk v=nk u:=λh z=>h (eE (Ja z))
 have st: ∀(v:EC) (x:V) (r:EA (a0×V)),bN ((nk v,x)::r) (nk u)=if v=u then EQ x else bN r (nk u):=λv x r=>by
  by_cases e:v=u
  ·rw[EL e];exact cf (by rw[e])
  ·rw[EI e];exact bX (ne e)
 rw[st,st,st,GF,GF,GF];dsimp only;by_cases e1:ED "min"=u
 ·rw[EL e1,show(ED "min" == u)=FB from beq_iff_eq.mpr e1];rfl
 ·rw[EI e1,show(ED "min" == u)=FM from beq_eq_false_iff_ne.mpr e1]
  dsimp only;by_cases e2:ED "max"=u
  ·rw[EL e2,show(ED "max" == u)=FB from beq_iff_eq.mpr e2];rfl
  ·rw[EI e2,show(ED "max" == u)=FM from beq_eq_false_iff_ne.mpr e2]
   dsimp only;by_cases e3:ED "abs"=u
   ·rw[EL e3,show(ED "abs" == u)=FB from beq_iff_eq.mpr e3];rfl
   ·rw[EI e3,show(ED "abs" == u)=FM from beq_eq_false_iff_ne.mpr e3];rfl
abbrev F0:EJ->EA V->Prop:=λ_ _=>False
theorem aax.st {a:be}{H H':Hp}(N:aax a H H' r dr q kd fn ds bl) (hq:H q=EQ (.lst (as.map V.ref))) (nq:q≠r) (tk:Paired (fS a.IA H) as (tokens bs)) (nt: ∀b∈as,b≠r) (hl:bs.length<=3000):
  fo a #[r,q,kd,fn,#[ds,[],F0],#[bl,[],F0]] H' 0 (tokens bs) Im:=by
 have len:(tokens bs).length<=4000:=by
  have:=dW (bs.length+1) (1,1) bs;unfold tokens;lia
 refine#[#[#[dr,N.ins],as,tokens bs,N.kept _ _ hq nq,?_,FS],fJ _ _ _,#[#[[],N.kd1,E6 _,λu=>rfl],#[dn,N.fn1,ua],by show 0+(tokens bs).length<=4000;lia,#[dn,N.fn1,FS]],N.ds1,N.bl1,#[N.O8.1,N.O8.2.1,N.O8.2.2.1,N.O8.2.2.2.1,N.O8.2.2.2.2.1,N.O8.2.2.2.2.2],λ_ _ z=>z.elim];clear len hq;revert nt;generalize tokens bs=ts at tk ⊢
 induction tk with
 |nil=>exact λ_=> .nil
 |cons h t ih=>exact λnt=> .cons (by obtain⟨dx,e⟩:=h;exact#[dx,N.kept _ _ e (nt _ (EO ..))]) (ih λb hb=>nt b (EN _ hb))
end
abbrev DV (a:be) (M:EJ->Prop) (H:Hp) (ss:EA GK) (us:EA V):Prop:=Paired (λs v=>fk a M H s v) ss us
inductive j6 (K:EF) (a:be) (vs:EA V) (H:Hp) (Q:VK) (E:XK):Prop
 |mk (l:EJ) (bs:EC) (_:vs=[.ref l]) (_:cO K H l (jG bs)) (_:bs.length<=3000) (_:W (Jx (Lj (Gq bs)) Im Mp []) (Gq bs) (λss _=> ∀H' (L:EJ) (us:EA V) (M:EJ->Prop),a9 H H'->H L=Fa-> ¬M L->H' L=EQ (.lst us)->DV a M H' ss us->Q (.ref L) H') (λk x=> ∀H',a9 H H'->nX a.Hd E H' k x)):j6 K a vs H Q E
theorem Eo {k n:E1}{K:EK}{β:Type}{g:IG->EU β}(h0:E4 t≠ .eof):(Jx (k+1) K n D>>=g) t=(ib k K n D>>=λx=>Jx k x.2.1 x.2.2.1 x.2.2.2>>=λl=>g (x.1::l)) t:=by
 have e:Jx (k+1) K n D t=(ib k K n D>>=λx=>Jx k x.2.1 x.2.2.1 x.2.2.2>>=λl=>pure (x.1::l):EU IG) t:=by
  cases h1:EV t "const" with
  |true=>
   rw[uq h0 h1,sJ h1];simp only[dS,bind_assoc,pure_bind]
  |false=>
   cases h2:EV t "fun" with
   |true=>
    by_cases hn:n=0
    ·rw[zb h0 h1 h2 hn,wE h1 h2 hn]
    ·rw[Aw h0 h1 h2 hn,Bb h1 h2 hn]
     unfold lB;simp only[kz,dS,bind_assoc,pure_bind]
     rfl
   |false=>
    rw[wF h1 h2];cases h3:EV t "desk" with
    |true=>
     rw[yF h0 h1 h2 h3];refine Eq.trans ?_ (bG (p:=GN "desk") (x:=()) (r:=t.drop 1) (by unfold GN;rw[EL h3])).symm
     rfl
    |false=>
     rw[yQ h0 h1 h2 h3];exact((aS (p:=GN "desk") (q:=(E9 2:EU Mo)) (by unfold GN;rw[EI (Yh h3)])).trans (eU t)).symm
 rw[aS e];simp only[bind_assoc,pure_bind]
abbrev fkT (ps:EA (GK×V)):EA (Fk×V):=ps.map λx=>(Fk.top x.1,x.2)
theorem xc {a:be}{M:EJ->Prop}{H:Hp}{l:EA GK}{ws:EA V}(hl:DV a M H l ws): ∀ {ps:EA (GK×V)},(∀ {i:E1}{x:Fk×V},(fkT ps)[i]?=EQ x->jc a M H x)->DV a M H ((ps.map λx:GK×V=>x.1).reverse++l) ((ps.map λx:GK×V=>x.2).reverse++ws)
 |[],_=>hl
 | (e,v)::ps,h=>by
  rw[Fe,Fe,Gf,Gf,F4,F4];exact xc (.cons (h (i:=0) rfl) hl) λ{i x} q=>h (i:=i+1) q
inductive ShI (a:be) (E:XK) (B:Rb) (H0:Hp) (Ro:IG->EG->Prop) (Ls:EJ) (l:E1) (σ0:L2.St) (m:E1) (σ:L2.St) (H:Hp):Prop
 |mk (ps:EA (GK×V)) (K1:EK) (nf:E1) (D:EA EC) (dc:EA (a0×V)) (bp:EJ) (bc:EA (a0×V)) (t:EG) (f:E1) (_:m=t.length) (_:σ=σ0) (_:ps.length+t.length<=l) (_: ∀u,has dc u=D.contains u) (_:dc.length+t.length<=4000) (_:K1.funs.length+nf=9) (_:16*t.length+1<=f) (_:CW (B.tp dc bp bc) H0)
  (_:uN #[a,E,B.tp dc bp bc,l,H0,Ro] Ls) (_:RS (Zf.mo #[a,E,B.tp dc bp bc,l,H0,Ro] Ls (ps.map λx:GK×V=>x.2).reverse) (fkT ps) FM H t K1 (Jx f K1 nf D>>=λx=>pure ((ps.map λx:GK×V=>x.1).reverse++x))):ShI a E B H0 Ro Ls l σ0 m σ H
theorem alD (T:aU K mg a) (XC:XT K a) (kS:zr P w K a.Jy dO) (kF:CU P w K a.GC dn) (hk:8<=k)
  (G:T.Wq.O P w base k (oM a λ_=>True)):
  T.d_j.O P w base (k+1) (j6 K a):=by
 have G1:=nW (P:=P) (w:=w) (base:=base) T kF
 have G2:=akR (P:=P) (w:=w) (base:=base) T kS
 have G3:=xW (P:=P) (w:=w) (base:=base) T XC;refine fP T.d_j.F aal (λvs H Q E h=>?_) [02]
 ·obtain⟨l,bs,rfl,_⟩:=h
  rfl
 obtain⟨l,bs,rfl,hS,hl,hW⟩:=h;refine aN 1 aal.nd #[_,gX T.Uo G1 (hr.mono (by lia)) (by rfl) T.Ui T.Y8.c.b .nil aY (aa (aL G2 (hr.mono (by lia)) (by rfl) T.d_i.c aY (aa (pv 0) ag)) ag),l,bs,FS,hS,hl,λH1 q as s1 hq0 hq1 tk=>?_];intro r dr hr0 hdr ne;refine#[r,dr,q,FS,ae,λH2 kd fn ds bl N=>#[FS,?_]];have qr:q≠r:=(ai hq1 hr0);have up1: ∀ {b:EJ}{o:HO},H1 b=EQ o->aF (aF H1 dr (.own r)) r (.ins a.FX dr []) b=EQ o:=λe=>by
  rw[ac (ai e hr0),ac (ai e hdr)];exact e
 have ahY: ∀ {as:EA EJ}{ts:EG},Paired (fS a.IA H1) as ts-> ∀b∈as,b≠r:=λtk=>by
  induction tk with
  |nil=>exact λb hb=>nomatch hb
  |cons h t ih=>
   intro b hb;rcases EW.mp hb with hb|hb
   ·obtain⟨dx,e⟩:=h
    rw[hb];exact ai e hr0
   ·exact ih b hb
 have S2:=N.st (up1 hq1) qr (Paired.M7 tk λb x ⟨dx,e⟩=>#[dx,up1 e]) (ahY tk) hl
 have s02:a9 H H2:=λb o e=>N.kept b o (up1 (s1 b o e)) (ai (s1 b o e) hr0)
 have upn: ∀ {b:EJ},aF (aF H1 dr (.own r)) r (.ins a.FX dr []) b=Fa->H b=Fa:=λ{b} e=>by
  cases z:H b with
  |none=>rfl
  |some o=>rw[up1 (s1 b o z)] at e;cases e
 have hN:CW ⟨r,q,kd,fn,⟨ds,[],F0⟩,⟨bl,[],F0⟩⟩ H:=λb z=>by
  rcases z with z|z|z|z|z|⟨_,z⟩
  ·rw[z]
   cases e:H r with
   |none=>rfl
   |some o=>exact(gM hr0 (s1 r o e)).elim
  ·rw[z];exact upn N.kd0
  ·rw[z];exact upn N.fn0
  ·rw[z];exact upn N.ds0
  ·rw[z];exact upn N.bl0
  ·exact z.elim
 clear N ahY up1 upn;have tl:(Gq bs).length<=3002:=by
  have:=dW (bs.length+1) (1,1) bs;unfold Gq;lia
 generalize hRo:(λ(ss:IG) (_:EG)=> ∀H' (L:EJ) (us:EA V) (M:EJ->Prop),a9 H H'->H L=Fa-> ¬M L->H' L=EQ (.lst us)->DV a M H' ss us->Q (.ref L) H')=Ro at hW;generalize hB:(#[r,q,kd,fn,#[ds,[],F0],#[bl,[],F0]]:Rb)=B at S2 hN;have Br:B.r=r:=by rw[<-hB]
 have same: ∀ {dc bp bc} {H':Hp},CW (B.tp dc bp bc) H->db (eQ (B.tp dc bp bc)) H H'->a9 H H':=λn k b o e=>k b o e λz=>gM (n b z) e
 have R:RS ⟨a,E,B,(Gq bs).length,H,Ro⟩ (fkT []) FM H2 (Gq bs) Im (Jx (Lj (Gq bs)) Im Mp []>>=λx=>pure ([]++x)):=#[#[_,S2],λb o e _=>s02 b o e,(λe=>nomatch e),E6 _,by
  rw[jy];exact hW.mono (λ_ _ z=>z) λ_ _ z H' k'=>z H' λb o e=>k' b o e λz=>gM (hN b z) e]
 rw[<-Br];refine aN 2 aal.nd (mq λLs hL=>?_);have hx: ∀b zs,¬B.bl.x b zs:=λb zs=>by rw[<-hB];exact λz=>z
 have hdc:B.ds.c=[]:=by rw[<-hB]
 refine fU Iq (ShI a E B H Ro Ls (Gq bs).length [EQ (.ref l),EQ (.ref B.r),EQ (.ref Ls)]) _ #[[],Im,Mp,[],B.ds.c,B.bl.p,B.bl.c,Gq bs,Lj (Gq bs),FS,FS,by show 0+_<=_;lia,(λ_=>by rw[hdc];rfl),by rw[hdc];show 0+_<=_;lia,FS,by unfold Lj;lia,hN,R.nwl hL,R.more hL] ?_;rintro mm σ H4 ⟨ps,K1,nf,D,dc,bp,bc,t,f,rfl,rfl,ul,hD,hDl,hn,hf,hN',N,R⟩;obtain⟨f,rfl⟩: ∃f',f=f'+1:=#[f-1,by lia];obtain⟨n4,S⟩:=R.S;obtain⟨⟨x,xp⟩,t5,rfl,tok,Ql,Ma,_⟩:=S.wh.first;obtain⟨dr4,er4⟩:=S.rd.ins;refine#[_,kY (di (bQ (pv 1) T.Fy T.Y9.c G3 (hr.mono (by lia)) aA)),B.r,dr4,_,FS,er4,FS,B.r,B.q,B.kd,B.fn,B.ds.p,bp,n4,(x,xp),t5,FS,S.rd,(λb=>(tT _ _ _ _).bind.K6 (Ql.trans b) R.w H4 R.k),λnb=>#[_,FS,?_]];have len:((ps.map λx:GK×V=>x.2).reverse:EA V).length=ps.length:=by rw[F7,EY]
 cases he:An x with
 |true=>
  have ex:x= .eof:=by cases x<;>first|rfl|cases he
  subst ex;refine bK (aJ (bv 2 ?_));have w:=(R.as (p':=pure ((ps.map λx:GK×V=>x.1).reverse++[])) ((bG (AM rfl)).trans rfl)).w
  have w:Ro ((ps.map λx:GK×V=>x.1).reverse++[]) ((.eof,xp)::t5):=w
  rw[<-hRo] at w;refine w H4 Ls _ (eQ (B.tp dc bp bc)) (same hN' (R.less N).k) N.n0 N.nm R.P0 ?_;rw[<-Gw (ps.map λx:GK×V=>x.2).reverse];exact xc .nil λe=>(R.less N).f e
 |false=>
  have ne:E4 ((x,xp)::t5)≠ .eof:=λz=>by
   have z:x= .eof:=z;rw[z] at he;cases he
  refine cg (mI (β:=IG) R.P0 (pv 2) [05] #[_,aL G hr (by rfl) T.Wq.c aA (aa (pv 1) ag),(B.tp dc bp bc).more Ls (ps.map λx:GK×V=>x.2).reverse,((x,xp)::t5).length,H,Ro,fkT ps,FM,(x,xp)::t5,K1,nf,D,f,_,FS,GH,by lia,hD,hDl,hn,λb z=>(c9 z).elim (λz=>by rw[z];exact N.n0) (hN' b),R.at.as (Eo ne),λy v H' t' dc' bp' bc' UT alE Xj hN2 R2=>?_]);have l2:t'.length+1<=((x,xp)::t5).length:=R2.l;have R2:=RS.back (Z:=Zf.mo #[a,E,B.tp dc' bp' bc',(Gq bs).length,H,Ro] Ls (ps.map λx:GK×V=>x.2).reverse) (by show((x,xp)::t5).length<=(Gq bs).length;lia) R2;have N2:uN ⟨a,E,B.tp dc' bp' bc',(Gq bs).length,H,Ro⟩ Ls:=by
   refine#[N.n0,λz=>?_,N.nx,N.nq];rcases z with z|z|z|z|z|⟨zs,z⟩
   ·exact N.nm (.inl z)
   ·exact N.nm (.inr (.inl z))
   ·exact N.nm (.inr (.inr (.inl z)))
   ·exact N.nm (.inr (.inr (.inr (.inl z))))
   ·obtain⟨n5,S5⟩:=R2.S
    have h1:=R2.P0
    have h2:=S5.RB
    have z:Ls=bp':=z;rw[z] at h1;cases h1.symm.trans h2
   ·exact hx _ _ z
  refine#[_,_,_,_,_,_,N2,by rw[len];exact FP (show ps.length<=4000 by lia) [01],R2,λH3 R3=>?_];refine fY #[_,l2,(y.1,v)::ps,y.2.1,y.2.2.1,y.2.2.2,dc',bp',bc',t',f,FS,FS,(by rw[EZ];lia),UT,alE,Xj,(by lia),λb z=>hN2 b (cr z),N2,?_];rw[Fe,Fe,Gf,Gf];simp only[F4];exact#[R3.S,R3.k,R3.f,Fj (Ju _ _) R3.l,R3.w]
theorem CH {P:Fz}{w:Ga}{K:EF}{mg:Fh->ET EH}{base:Gn}{a:be}(T:aU K mg a) (XC:XT K a) (IL:pi K a) (KT:zt K a.Hz dh) (kS:zr P w K a.Jy dO) (kF:CU P w K a.GC dn):
  T.d_j.O P w base 178 (j6 K a):=by
 have E:m6 P w K mg base a 151:=(alu T XC KT 13).1
 have Br:=zm T XC IL [01] E 7
 have Gi:=ahI T XC [01] E
 have Co:=ahS T XC [01] Gi
 have Fu:=ahV T XC kF [01] Gi
 have De:=ahW T XC [01] Br
 have To:=ahX T XC [01] (Co.mono (by decide:153<=176)) (Fu.mono [01]) De;exact alD T XC kS kF [01] To
def iq (z:Int):FR:=decide (0<=z)&&decide (z<=255)
def jv (zs:EA Int):FR:=decide (zs.length<=3000)&&zs.all iq
inductive sV (K:EF) (vs:EA V) (H:Hp) (Q:VK) (_E:XK):Prop
 |mk (l:EJ) (zs:EA Int) (_:vs=[.ref l]) (_:cO K H l (lz zs)) (_:zs.length<=4000) (_: ∀H',a9 H H'->Q (.bl (jv zs)) H'):sV K vs H Q _E
theorem rK (h:jv zs=FM):JQ zs=Fa:=by
 unfold JQ;rw[EI];intro z;have:jv zs=FB:=z;rw[h] at this;cases this
theorem vk (h:jv zs=FB): ∃bs:EC,JQ zs=EQ bs/\jG bs=lz zs/\bs.length<=3000:=by
 have h0:=h;unfold jv at h;rw[Gh,FH] at h;refine#[zs.map λc=>NI c.toNat,?_,?_,by rw[EY];exact h.1]
 ·unfold JQ
  exact EL h0
 ·unfold jG lz
  rw[Jg];refine EA.map_congr_left λz hz=>?_;have b:=Lf.mp h.2 z hz;unfold iq at b;rw[Gh,FH,FH] at b;show V.int (nb (NI z.toNat))=V.int z;unfold nb
  congr 1
  rw[Io.toNat_ofNat'];lia
theorem alF (T:aU K mg a):T.d_J.U P w base 1 (sV K):=by
 refine T.d_J.F.ok aam [03] [02];obtain⟨l,zs,rfl,hS,hl,hQ⟩:=h;refine#[_,(ah (aK (nh (b8 eO (bF bM (by rfl) T.JP Hl (aa (pv 0) ag)) (aR (by rfl) T.Qi) (aM _)) (jo (bF (Z1 rfl) (by rfl) T.aeB boot_all (aa (Xr rfl aam.nd (mf (pv 0)) (own:=[("byte",1)]) (sO (by show Eu ["text","byte"] (af s_J) _ [("byte",1)]=FB;decide+kernel)) (λ_ _ _ _ _=>jR (i:=1) aam.nd rfl (Gx rfl)) (λ_ _ _ _ _=>w6) (λ_ _ _ _ _=>(iz eO eO aj (pv 1) aj))) ag)))))),?_];have il:(lz zs).length=zs.length:=EY ..;refine#[_,_,FS, .inl hS,_,_,FS,FS,_,FS,?_];rw[il];unfold jv at hQ;refine aP (λe=>?_) λe=>?_
 ·have le:zs.length<=3000:=by have:=Ft e;lia
  rw[Gb le] at hQ;refine#[l,FS,#[_,hS],λD hD=>?_];refine vP (K:=K) (a:=l) (xs:=lz zs) (λi H'=>a9 H H'/\H' D=EQ (.lst (((zs.take i).map iq).map V.bl))) #[b3 hD,ae] (λi H' _ z=>z.1.seq hS) ?_ ?_
  ·rintro i y H' hi ⟨s1,UT⟩
   obtain⟨z,hz,rfl⟩: ∃z,zs[i]?=EQ z/\y=V.int z:=by
    unfold lz at hi;rw[FQ] at hi;cases e:zs[i]? with
    |none=>rw[e] at hi;cases hi
    |some c=>rw[e] at hi;exact#[c,FS,(E5 hi).symm]
   have eN: ∀b:FR,b=iq z-> ∃acc,H' D=EQ (.lst acc)/\acc.length<FE/\(a9 H (aF H' D (.lst (acc++[V.bl b])))/\aF H' D (.lst (acc++[V.bl b])) D=EQ (.lst (((zs.take (i+1)).map iq).map V.bl))):=λb hb=>by
    refine#[_,UT,?_,λb' o e=>by rw[ac (ai e hD)];exact s1 b' o e,?_]
    ·rw[EY,EY]
     exact FP (Fj (Ti i zs) hl) [01]
    ·rw[ae,Mw,hz,hb]
     show EQ (HO.lst (((zs.take i).map iq).map V.bl++[V.bl (iq z)]))=EQ (HO.lst (((zs.take i++[z]).map iq).map V.bl))
     rw[GG,GG]
     rfl
   refine#[FS,?_];unfold Z6;dsimp only;rw[EL rfl];refine#[_,_,FS,FS,_,FS,?_];refine aP (λe0=>?_) λe0=>?_
   ·refine#[_,_,FS,FS,eN _ ?_]
    unfold iq;rw[e0]
    rfl
   ·refine eN _ ?_
    unfold iq;rw[e0]
    rfl
  ·rintro H' ⟨s1,UT⟩
   rw[il,MX] at UT;refine#[D,zs.map iq,FS,cO.of UT,?_];have:=hQ H' s1;rw[IK] at this;rw[Sn];exact this
 ·have le: ¬zs.length<=3000:=by have:=Fw e;lia
  rw[FA le] at hQ;exact hQ H λ_ _ e=>e
section
open Vbemac (expandSteps)
theorem aa6 {Qo:IG->EG->Prop}{Qe:E1->FT->Prop}(ho: ∀ss t,NA bs= .ok ss->wq [] KI ss->Qo ss t) (he: ∀e,NA bs= .error e->Qe e.1 e.2):W (Jx (Lj (Gq bs)) Im Mp []) (Gq bs) Qo Qe:=by
 unfold W;have r:NA bs=(match Jx (Lj (Gq bs)) Im Mp [] (Gq bs) with
  | .error e=> .error e
  | .ok (a,_)=> .ok a):=rfl
 cases e:Jx (Lj (Gq bs)) Im Mp [] (Gq bs) with
 |error x=>rw[e] at r;exact he x r
 |ok z=>rw[e] at r;exact ho z.1 z.2 r (ml _ Im _ _ rfl _ _ _ (kO _ _ _) e).1
def Yi (M:JI) (bs:EC):Except Int (IG×EA IF×E1):=match NA bs with
 | .error _=> .error (-3)
 | .ok s=>match expandSteps M s with
  | .error c=> .error c
  | .ok (l,n)=> .ok (s,l,n)
theorem ahZ {f:IG->EA IF->E1->Vbemac.Ans} :Ua M bs f=(match Yi M bs with
  | .error c=>[c]
  | .ok (s,l,n)=>f s l n):=by
 unfold Ua Vbemac.withSheet Yi;cases NA bs with
 |error e=>rfl
 |ok s=>dsimp only;cases expandSteps M s<;>rfl
def Bad (K:EF) (a:be) (E:XK) (H:Hp) (c:Int):Prop:= ∀(C d fI:EJ) (fs:EA (Fh×V)),dA K a.GB C fI->fs.lookup ("number":Fh)=EQ (.int c)->H d=Fa->E (.ref C) (EQ d) (aF H d (cj d fs))
theorem Bad.toW {K:EF}{a:be}{E:XK}{H:Hp}(XC:XW K a) (h:Bad K a E H c):oU a E H c:=λC hC d hd=>by
 have: ∃fI,dA K a.GB C fI:=by
  unfold xcl at hC;simp only[EW,GZ,or_false,Prod.mk.injEq] at hC;rcases hC with⟨_,rfl⟩|⟨_,rfl⟩|⟨_,rfl⟩|⟨_,rfl⟩|⟨_,rfl⟩|⟨_,rfl⟩
  ·exact#[_,XC.Lq]
  ·exact#[_,XC.Oc]
  ·exact#[_,XC.MU]
  ·exact#[_,XC.MV]
  ·exact#[_,XC.Lr]
  ·exact#[_,XC.Od]
 obtain⟨fI,x⟩:=this;exact h C d fI _ x rfl hd
theorem vF {X:Cx}{σ:L2.St}{H:Hp}{Q:VK}{e1 e2 e3:G8}{t1 t2 t3:TE}{lo x hi:Int}{p:Pos}(h1:PE X e1 t1) (h2:PE X e2 t2) (h3:PE X e3 t3) (v1: ∀Q:VK,Q (.int lo) H->t1 σ H Q) (v2: ∀Q:VK,Q (.int x) H->t2 σ H Q) (v3: ∀Q:VK,Q (.int hi) H->t3 σ H Q) (q:Q (.bl (E8 x lo hi)) H) (hm:UD [.LtE, .LtE] [e2,e3]=FM:=by with_unfolding_all rfl):
  Pe X (.Compare e1 [.LtE, .LtE] [e2,e3] p) σ H Q:=by
 refine#[_,iz eO eO h1 h2 h3 hm,v1 _ (v2 _ #[_,_,FS,FS,_,FS,?_])];unfold E8 at q;by_cases h:lo<=x
 ·rw[Gb h,IK] at q
  rw[Gb h];exact cg (v3 _ #[_,_,FS,FS,q])
 ·rw[FA h,Iy] at q
  rw[FA h];exact bK q
theorem vL {H:Hp}{Q:VK}(b c:FR) (q:Pe X e σ H λv H1=>v= .bl b/\(b=FB->Pe X (.BoolOp .And (f::es) p) σ H1 Q)/\(b=FM->Q (.bl (b&&c)) H1)):Pe X (.BoolOp .And (e::f::es) p) σ H Q:=
 #[_,nh dj dj,q.mono λv H1 ⟨hv,h1,h2⟩=>#[b,hv,by
  cases b with
  |true=>exact cg (h1 rfl)
  |false=>exact bK (h2 rfl)]]
theorem Yj {H:Hp}{Q:VK}(q:Pe X e σ H Q):Pe X (.BoolOp .And [e] p) σ H Q:=#[_,jo dj,q]
theorem jO (T:aU K mg a) (XC:XN K a):T.YM.U P w mg base 2 (dP a.Lc (gC (-1))):=
 okI T.YM.F afA λGp A outer s H p Q hr q=>#[_,ah (bi (fg (by rfl) T.Hi XC.rm (bP T XC.Nu) hr T.VW.c.b .nil aY (aa (pv 0) (aa (dJ cG aj) ag)))),_,FS,q]
inductive wY (K:EF) (a:be) (vs:EA V) (H:Hp) (Q:VK) (E:XK):Prop
 |mk (x:FR) (_:vs=[.bl x]) (_:x=FB->Q .HZ H) (_:x=FM->Bad K a E H (-1)):wY K a vs H Q E
theorem alG (T:aU K mg a) (XC:XN K a):T.d_g.O P w base 4 (wY K a):=by
 refine fP T.d_g.F akJ [03] [02];obtain⟨x,rfl,h1,h2⟩:=h;refine bE (jm #[_,di (pv 0),?_]);cases x with
 |true=>exact#[_,FS,bK (cc (h1 rfl))]
 |false=>exact#[_,FS,cg (aQ (eS eD XC.Nu (jO T XC) (hr.mono (by decide)) (by rfl) T.Ot T.YM.c.b) #[Fs _,_,#[FS,FS],λd hd=>h2 rfl _ d _ _ XC.Nu rfl hd])]
inductive wR (vs:EA V) (H:Hp) (Q:VK) (_E:XK):Prop
 |mk (x:Int) (_:vs=[.int x]) (_:Q (.bl (Jo x)) H):wR vs H Q _E
theorem ah0 (T:aU K mg a):T.d_Z.U P w base 1 wR:=by
 refine T.d_Z.F.ok akI [03] [02];obtain⟨x,rfl,q⟩:=h;exact aJ (vF (lo:= -W6) (hi:=W6) (ca cZ aj (aR (by rfl) T.OL)) (pv 0) (aR (by rfl) T.OL) (λ_ q=>#[_,_,FS,FS,q]) [05] [05] q)
def vh (z t lo hi:Int):FR:=E8 z 1 6&&(E8 t 1 4&&(Jo lo&&(Jo hi&&decide (lo<=hi))))
inductive tu (vs:EA V) (H:Hp) (Q:VK) (_E:XK):Prop
 |mk (z t lo hi:Int) (_:vs=[.int z, .int t, .int lo, .int hi]) (_:Q (.bl (vh z t lo hi)) H):tu vs H Q _E
theorem ah1 (T:aU K mg a):T.Zo.U P w base 2 tu:=by
 refine T.Zo.F.ok Xy [03] [02];obtain⟨z,t,lo,hi,rfl,q⟩:=h;unfold vh at q;have h1: ∀ {X:Cx}{σ:L2.St}{e f:G8}{p:Pos},(∀Q:VK,Q (.bl (E8 z 1 6)) H->Pe X e σ H Q)->(∀Q:VK,Q (.bl (E8 t 1 4)) H->Pe X f σ H Q)->Pe X (.BoolOp .And [e,f] p) σ H λv H'=>v= .bl (E8 z 1 6&&E8 t 1 4)/\H'=H:=λh1 h2=>vL _ (E8 t 1 4) (h1 _ #[FS,λe=>Yj (h2 _ (by rw[e];exact#[FS,FS])),λe=>#[FS,FS]]);refine aN 4 Xy.nd (Pe.mono (h1 (λQ q=>vF aj (pv 0) (aR (by rfl) T.Rh) [05] [05] [05] q) λQ q=>vF aj (pv 1) (aR (by rfl) T.PQ) [05] [05] [05] q) λv H' ⟨hv,hH⟩=>?_);subst hv hH;refine aJ (vL (E8 z 1 6&&E8 t 1 4) (Jo lo&&(Jo hi&&decide (lo<=hi))) (bv 4 #[FS,λe=>?_,λe=>by rw[FR.and_assoc];exact q]))
 ·rw[Gh] at e
  rw[e.1,e.2,IK,IK] at q;refine vL (Jo lo) (Jo hi&&decide (lo<=hi)) (bI (aO (bv 2 (cC #[lo,FS,FS,λe=>?_,λ_=>q]))) (ah0 T) (hr.mono [01]) T.d_Z.c aY);rw[e,IK] at q;refine vL (Jo hi) (decide (lo<=hi)) (bI (aO (bv 3 (cC #[hi,FS,FS,λe=>?_,λ_=>q]))) (ah0 T) (hr.mono [01]) T.d_Z.c aY);rw[e,IK] at q;exact Yj #[_,b8 eO (pv 2) (pv 3) (aM _),_,_,FS,FS,q]
end
inductive Bg (K:EF) (a:be) (vs:EA V) (H:Hp) (Q:VK) (E:XK):Prop
 |mk {l:EJ}{bs:EC}{G:JI}(_:vs=[.int G.zones, .int G.quarters, .int G.lo, .int G.hi, .ref l]) (_:G.quarters<=4) (_:cO K H l (jG bs)) (_:bs.length<=3000) (_: ∀c,Yi G bs= .error c-> ∀H',a9 H H'->Bad K a E H' c) (_: ∀ss Z H' U o n,Yi G bs= .ok (ss,o,n)->Z.a=a->a9 H Z.N->TS Z H' U o n (IJ ss) []->Q (.ref Z.x) H'):Bg K a vs H Q E
theorem ah2 (T:aU K mg a) (XC:XN K a) (KX:ma K a) (G_j:T.d_j.O P w base 178 (j6 K a)):T.Zp.O P w base 179 (Bg K a):=by
 refine fP T.Zp.F agE [03] [02];obtain @⟨l,bs,G,rfl,q4,sl,lb,er,q⟩:=h;refine aJ (bI (aO (aaK (yY T) (hr.mono [01]) (aO (bv 0 (aO (bv 1 (aO (bv 2 (aO (bv 3 (cC #[FS,λm dm H1 hm s1 e1=>?_]))))))))))) (ale T XC.toXW KX) (hr.mono [01]) T.d_R.c aA);refine aO (bI (aO (bv 4 (cC #[l,bs,FS,s1.seq sl,lb,aa6 (λss t hr' wt=>?_) λe he=>?_]))) G_j hr T.d_j.c aA)
 ·intro H2 L us M s2 _ _ hL tl
  have ex:Yi G bs=(match LX G ss with| .error c=> .error c| .ok (l,n)=> .ok (ss,l,n)):=by unfold Yi;rw[hr']<;>rfl
  have tl':Paired (λs v=>fk a (λp=>H2 p=Fa) H2 s v) ss us:=Paired.M7 tl λs v h=>fk.Hj (λb o e _=>#[λz=>(by rw[z] at e;cases e),e]) s h
  refine cC (.mk rfl (s2 _ _ e1) q4 hL tl' wt (λc h H' s3=>(er c (by rw[ex,h]) H' ((s1.trans s2).trans s3)).toW XC.toXW) λZ H' U o n h ha hN R=>q ss Z H' U o n (by rw[ex,h]) ha (by rw[hN];exact s1.trans s2) R)
 ·intro H2 s2 d hd
  exact er (-3) (by unfold Yi;rw[he]) H2 (s1.trans s2) _ d _ _ XC.fc rfl hd
theorem pE {z t lo hi:Int}{zs:EA Int}(h:(vh z t lo hi&&jv zs)=FM):Ky z t lo hi zs=[-1]:=by
 show N5 [[5,z,t,lo,hi],zs]=_
 unfold N5;rw[show We [[5,z,t,lo,hi],zs]=(match Lz z t lo hi,JQ zs with
   |some M,some b=>EQ (.steps M b)
   |_,_=>Fa) from rfl]
 cases h1:vh z t lo hi with
 |false=>rw[show Lz z t lo hi=Fa from EI (by show¬vh z t lo hi=FB;rw[h1];exact EE)]
 |true=>
  rw[h1,IK] at h;rw[rK h];cases Lz z t lo hi<;>rfl
theorem CA {z t lo hi:Int}{zs:EA Int}{bs:EC}(h:vh z t lo hi=FB) (hb:JQ zs=EQ bs): ∃G:JI,(G.zones:Int)=z/\(G.quarters:Int)=t/\G.lo=lo/\G.hi=hi/\G.quarters<=4/\Ky z t lo hi zs=(match Yi G bs with
  | .error c=>[c]
  | .ok (s,l,n)=>[0,(Vbemac.BUDGET:Int)-n]):=by
 have h':=h;unfold vh E8 at h;simp only[Gh,FH] at h;refine#[#[z.toNat,t.toNat,lo,hi],by lia,by show(t.toNat:Int)=t;lia,FS,FS,by show t.toNat<=4;lia,?_]
 show N5 [[5,z,t,lo,hi],zs]=_
 unfold N5;rw[show We [[5,z,t,lo,hi],zs]=(match Lz z t lo hi,JQ zs with
   |some M,some b=>EQ (.steps M b)
   |_,_=>Fa) from rfl,hb,show Lz z t lo hi=EQ _ from EL h']
 exact ahZ
theorem alH (T:aU K mg a) (XC:XN K a) (KX:ma K a) (G_j:T.d_j.O P w base 178 (j6 K a)):
  T.d_d.U P w base 180 (jI K):=by
 refine T.d_d.F.ok aan [03] [02];obtain⟨z,t,lo,hi,l,zs,rfl,hS,hl,hQ⟩:=h;refine#[_,(ax (Bt (R:=a.GB) (G:=a.GB) (i:=6) (λv od Ry=> ∃(C d fI:EJ) (c:Int) (fs:EA (Fh×V)),v= .ref C/\od=EQ d/\dA K a.GB C fI/\Ky z t lo hi zs=[c]/\Ry d=EQ (cj d fs)/\fs.lookup ("number":Fh)=EQ (V.int c)) rfl rfl (λC d H h=>by obtain⟨_,_,fI,_,_,e,_,x,_⟩:=h;cases e;exact#[fI,x, .inr rfl]) (by rfl) T.Hi aan.nd rfl rfl
    (λpins Ew PE_=>ax (bi (aL (alG T XC) (hr.mono [01]) (by rfl) T.d_g.c PE_ (aa (nh (aL (ah1 T) (hr.mono [01]) (by rfl) T.Zo.c aY (aa (pv 0) (aa (pv 1) (aa (pv 2) (aa (pv 3) ag))))) (jo (aL (alF T) (hr.mono [01]) (by rfl) T.d_J.c aY (aa (pv 4) ag)))) ag)))
     (ah (cH (i:=5) aan.nd rfl (Gx rfl) (aL (ah2 T XC KX G_j) hr (by rfl) T.Zp.c PE_ (aa (pv 0) (aa (pv 1) (aa (pv 2) (aa (pv 3) (aa (pv 4) ag)))))))))
    (λa'=>(ah (aK (iG (aa (DX (K:=K) rfl [00] on (pv 6) (by rfl)) ag))))))
   (ah (aK (iG (aa aj (aa (ao (ao (pv 5) rfl) rfl) ag)))))),?_]
 refine#[?_,?_]
 ·have bad: ∀ {H1:Hp}{c:Int},Ky z t lo hi zs=[c]->Bad K a (λv od Ry=> ∃(C d fI:EJ) (c:Int) (fs:EA (Fh×V)),v= .ref C/\od=EQ d/\dA K a.GB C fI/\Ky z t lo hi zs=[c]/\Ry d=EQ (cj d fs)/\fs.lookup ("number":Fh)=EQ (V.int c)) H1 c:=λh C d fI fs x lk hd=>#[C,d,fI,_,fs,FS,FS,x,h,ae,lk]
  refine#[z,t,lo,hi,FS,_,FS,aP (λh1=>?_) λh1=>#[_,FS,nofun,λ_=>bad (pE (by rw[h1];rfl))]];refine#[l,zs,FS,hS,hl,λH1 s1=>#[_,FS,λht=>?_,λht=>bad (pE (by rw[h1,ht];rfl))]];obtain⟨bs,eb,ev',hb⟩:=vk ht;obtain⟨G,rfl,rfl,rfl,rfl,q4,ec⟩:=CA h1 eb;refine .mk rfl q4 (by rw[ev'];exact s1.seq hS) hb (λc h H' _=>bad (by rw[ec,h])) λss Z H' U o n h ha _ R=>?_;subst ha;rw[h] at ec;obtain⟨B,nm,R,_⟩:=R;obtain @⟨r,b,ff,d,s,nd,kk,os,FO,W,A,gs,eb',hj⟩:=R;refine#[Z.x,_,Z.dx,_,_,FS,W.O.same _ _ eb'.hx,T.G9,T.J1,FS,W.fld T T.Kh rfl #[by show 2<=FE;decide,λp hp=>hQ _ p ?_]];rw[ec];exact ae
 ·rintro C d H2 a' ⟨C',d',fI,c,fs,eC,ed,X1,ec',hd,lk⟩ ha'
  cases ed;cases eC;have nd:d≠a':=λz=>by rw[z,ha'] at hd;cases hd
  have h1:aF H2 a' (kC C d a') d=EQ (cj d fs):=by rw[ac nd];exact hd
  refine#[_,_,_,a',d,_,_,X1,FS,ae,h1,lk,?_];refine#[by show 1<=FE;decide,λp hp=>?_];refine hQ _ p ?_;rw[ec'];exact ae
theorem ma.at_ (I:ma K a) (hi:(zc a)[i]?=EQ C) (hj:(zc a)[j]?=EQ D) (h:i<15) (h':j<15):Hy K (.ref C) (.ref D)=EQ (decide (i=j)):=by
 have:=FN (λl=>(l[i]?.bind λr:EA (ET FR)=>r[j]?)) I.kit
 rw[FQ,hi,FQ,LO h] at this;simp only[Ly,ET.bind_some,FQ,hj,LO h'] at this;exact E5 this
theorem aa7 {a:be}(I:ma K a):pi K a:=#[I.ty _ (.tail _ (.tail _ (.tail _ (.tail _ (.tail _ (.tail _ (.tail _ (.head _)))))))),I.ty _ (.tail _ (.tail _ (.tail _ (.tail _ (.tail _ (.tail _ (.tail _ (.tail _ (.head _))))))))),I.ty _ (.tail _ (.tail _ (.tail _ (.tail _ (.tail _ (.tail _ (.tail _ (.tail _ (.tail _ (.head _)))))))))),I.ty _ (.tail _ (.tail _ (.tail _ (.tail _ (.tail _ (.tail _ (.tail _ (.tail _ (.tail _ (.tail _ (.head _))))))))))),I.ty _ (.tail _ (.tail _ (.tail _ (.tail _ (.tail _ (.tail _ (.tail _ (.tail _ (.tail _ (.tail _ (.tail _ (.head _)))))))))))),I.at_ (i:=7) (j:=7) rfl rfl [01] [01],I.at_ (i:=8) (j:=7) rfl rfl [01] [01],I.at_ (i:=9) (j:=7) rfl rfl [01] [01],I.at_ (i:=10) (j:=7) rfl rfl [01] [01],I.at_ (i:=11) (j:=7) rfl rfl [01] [01]]
theorem zE {mg:Fh->ET EH}{base:Gn}{a:be}(T:aU K mg a) (XC:XN K a) (kS:zr P w K a.Jy dO) (kF:CU P w K a.GC dn) (KT:zt K a.Hz dh) (I:ma K a):T.d_d.U P w base 180 (jI K):=
 alH T XC I (CH T XC.toXT (aa7 I) KT kS kF)
end OS
open PySem PySem.W PyProof.Rows
theorem PySem.Challenge.cw_ordersheets_s06_steps_holds : PySem.Challenge.rw_ordersheets_s06_steps.Holds :=
 OS.hd OS.zE

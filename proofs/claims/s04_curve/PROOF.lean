import PyProof.Rows.All
import KE.OsGo
import Wide.All
import OpenK.AllK
import Wide.FinOn
import PyProof.EqAt
import PyProof.EqKinds
import PyProof.TupleCall
import KE.BitLaws
import Open.SpecLaws
import KE.OsHead
import PyProof.StationsW
import PyProof.PassesOwn
import PyProof.ExcClass
import PyProof.ExcClass2
import PyProof.ExcArgs
import PyProof.ExcBaseAll.Exception
import PyProof.InstLoad
import PyProof.InstStoreFacts
import VbemacSpec
import PySem.Str
import PySem.Challenge.RW_ordersheets_s04_curve
import PyProof.RulesAs
import PyVbemac
local macro_rules|`(#[$x,*])=>`(⟨$x,*⟩)
open Option renaming some->FB,none->FM
open Bool renaming true->FS,false->Gc
open _root_ renaming rfl->Go
set_option compiler.extract_closed false
set_option hygiene false
local macro_rules
|`([00])=>`((by decide+kernel))
|`([01])=>`((by decide))
|`([02])=>`((λHn A outer s H vs Q E hr h=>?_))
|`([03])=>`((λvs H Q E h=>by cases h;subst_vars;rfl))
|`([04])=>`((λ_ _ _ _ _ _ us hl=>OS.u2 hl λ_ _=>[0x0]))
|`([05])=>`((λ_ q=>q))
|`([06])=>`((hr.mono [01]))
|`([07])=>`((λ_ _ _ _ _ _ us hl=>OS.u1 hl λ_=>[0x0]))
|`([08])=>`((by exact Go))
|`([09])=>`((ai (pv 0) Go))
|`([000])=>`((OS.aC KX G [0x5] [04]))
|`([001])=>`((Gc,eval e X.env))
|`([002])=>`((λ_ _=>rfl))
|`([003])=>`(("__debug__":Gf))
|`([004])=>`((λ_ _ _ _ _ _ us hl=>OS.u3 hl λ_ _ _=>[0x0]))
|`([005])=>`((.Name "reader" p1))
|`([006])=>`((Gm KX G [08]))
|`([007])=>`(#[by decide+kernel,by decide+kernel,by decide+kernel])
|`([008])=>`(#[by decide+kernel,by decide+kernel])
|`([009])=>`((OS.aC KX G [0x5] [07]))
|`([010])=>`((ai (pv 1) Go))
|`([011])=>`((J6 Hy (af st) s.heap.objs.size f Hn))
|`([012])=>`((λc h=>er c (by rw[<-Hq,h])))
|`([013])=>`(#[Go,_,Go,?_])
|`([014])=>`((OS.aC KX G [0x5] [004]))
|`([015])=>`((λe=>?_))
|`([016])=>`((.cons (.cons .nil)))
|`([017])=>`((hr.mono (by lia)))
|`([018])=>`((OS.aK [0x6] [07]))
|`([019])=>`((ps.zip us))
|`([020])=>`((OS.aK [0x6] [04]))
local macro_rules
|`(tactic|rw[00])=>`(tactic|(obtain⟨n,S⟩:=R.S))
|`(tactic|rw[01])=>`(tactic|(intro pins s σ H Q I h))
|`(tactic|rw[02])=>`(tactic|(obtain⟨dr,er⟩:=S.rd.ins))
|`(tactic|rw[03])=>`(tactic|(obtain⟨f,rfl⟩: ∃f',f=f'+1:=#[f-1,by lia]))
|`(tactic|rw[04])=>`(tactic|(intro pins s σ H D I h))
|`(tactic|rw[05])=>`(tactic|(refine aQ [015] λe=>?_))
set_option hygiene true
open _root_ renaming List->Fx,if_neg->FF,if_pos->FI,Option->FP,Nat->FX,absurd->F6,of_decide_eq_true->Gj,decide_eq_false->Gp,of_decide_eq_false->Gw,decide_eq_true_iff->GB,decide_eq_true->GL,congrArg->GO,Bool->GP,beq_self_eq_true->Ht,UInt8->Jx,Array->JN,if_false->M9,Unit->Nc,decide_eq_true_eq->Ot,if_true->TY,not_or->Wj
open Vbemac renaming Bytes->Fy,text->Fz,Toks->FD,Known->FH,Exp->FN,P->FQ,isKey->FR,within->FZ,peek->F3,fail->F8,expr->Gg,sign->Gz,isSign->GA,Order->GC,Bytes->GK,Pos->GS,Out->GU,KEYS->G6,next->G7,Tok->Ha,SIGNS->Hb,primary->He,newName->Hg,unary->Hl,tokens->Hr,Stmt->Hw,behind->HH,Top->HI,Env->HJ,key->HK,deeper->HR,DEEP->HV,digit->Ii,isKey->Io,Blocks->Iz,Scope->IC,place->IS,evAmounts->IZ,isPrice->Jh,side->Jo,runOne->Ju,zoneIn->Jv,known0->Jw,Stmts->Jy,MOST->JA,knownBlock->JG,Sheet->JK,deskCount->JM,Funs->J4,runAll->Ka,maybeName->Kj,Exps->Kt,tops->Ku,stmts->Kx,letter->KI,Market->KJ,params->KL,BIG->KY,ifSign->Lk,addBlock->Lr,marketOf->Lu,stmt->LH,BUILT->LR,signOf->L6,ev->Mf,fuel->Mu,isSign->Mv,expandSteps->M0,compare->M6,bit->M7,Toks->Nf,expandTops->Nz,FUNS->NA,truth->Of,bytesOf->ON,read->OO,lex->PF,withOrders->Qi,SLOPE->Qj,sells->Qk,arguments->QI,Rest->Q3,buys->Q4,valueIn->RF,supply->RW,demand->RY,blank->SW,evEither->Ul,MOSTORDERS->Vm,moreAdded->VO,moreTimes->VP,blockName->VQ,compared->Wf,evRest->Wl,builtIn->WX,checked->WY,moreAnd->W0,addStep->W3,runLoop->W4,anyName->W5,moreOr->Xn,placed->Xo,answer->Xp,arith->Yg,added->Yh,times->Yi,evOpt->Yj,ifKey->Yk,PRICE->Yl,total->Ym,evBoth->ZE,ands->ZI
open Bool renaming false_ne_true->FA,and_eq_true->GI,eq_iff_iff->HB,noConfusion->HN,and_false->Ia,false_and->Ip,true_and->Jj,false_eq_true->Jt,or_eq_false_iff->MF,or_eq_true->MP,or_false->PL,not_eq_false'->Qh,or_true->QM,false_or->SR,true_or->T3,and_eq_true_iff->UK,not_eq_true'->Wb,eq_false_iff->Wc
open PySem.W renaming Frag->FC,mg_of->Gm,kitOne->HM,mg_none_of->HQ,findIn->Iu,kia_one->IM,fnOf->IP,emptyDict->Jd,keepIn->Je,instObj->JV,nsIn->Ks,callWith_K->Lm,codeIn->LL,methodCall_KW->LV,plainGet->NK,lookIn->Oy,plainGet_of->OQ,callWith_K0->OR,methodObj->PH,hasDictIn->PJ,specialIn->PK,isFn->PM,length_le_weightAllW->QZ,takerIn->Q2,nsMap_none_of_in->RI,cellsFrom_some->Si,isNs_of_in->Uj,plainOver->UR,kitx_list->US,kitx_dict->UT,WRecords->Vn,handedIn->Vo,makesIn->VR,takesIn->VS,findCls->VT,WalkOS->Wg,typeIn->Wh,nsOkIn->Wi,mroIn->W6
open PySem renaming Value->FE,Addr->FG,Shared->FJ,wpAny_bind->FV,starEach->F9,Str->Gf,wpAny->Gk,wpAny_pure->Gu,Program->Gy,sizeLine->GD,FuncData->GQ,wpAny_loadPart_at->GW,World->Hf,mem_of_lookup->Hi,Around->Hm,Heap->Ho,bindArgs->HP,Expr->HX,typeLookup->Ir,boot_len->Iy,sizeLine_eq->IE,cellsFrom->IJ,excClassObj->IU,compareOp->IY,attributeBase->Ja,sysModules->Jb,wpAny_mono->Jc,Obj->Jp,wpAny_truthy_bool->Jq,backTo->Jr,builtinLookup_eq_fast->JC,mainGlobals->JI,keywordEach->JJ,checkBuiltinCall->JY,wpAny_Call_Name_kw->J5,NameKind->Kl,swapsWith->KG,tupleKind_room_in1->KS,wpAny_passesOwn->KZ,typeLookup_type->K0,foldedSetIterable->K7,backToKw->Ln,intItems->Lo,compEnvC->Lq,bootBuiltins->LC,getMethod->LG,codeAny->LX,plainObj_wpAny_Assign_Attribute->MM,numAt->MQ,StoreFacts->MT,noteFrame->MU,wpAny_standAt->MZ,argBest->M5,sliceBounds->M8,wpAny_execs_nil->Nv,codeAny_mono->NH,ExcBaseFacts->NI,tupleKind->N0,pushCells->N3,callWith->N7,Within->Om,wpAny_holding->Ov,rawInt->Ox,DictEntry->OT,letOwnedTupleGo->Py,pushCells_keeps->Pz,codeAny_call_builtin->Qp,importBound->Qr,binaryOp->Qs,cLine->Qt,PassesOwn->QG,setFlight->QH,valueAt->QL,wpAny_call->Rg,GenState->RJ,atKey->RK,wpAny_lookBehind->Sg,pastItsLine_dict->Sh,pyNext->Sk,IsPair->Sn,BindsTo->TN,callerA->TQ,getAttr->TR,setAttr->TU,getItem->TX,notedBy->T1,wpAny_setField->Uh,handleBy->Uk,lastMarks->VM,bindL->VU,bindC->VV,wpAny_nextOf_list_item->V3,tupleKeyHash->V5,wpAny_nsSet1->V7,wpAny_typeOf->V8,Fin->Wm,wpAny_isTrue_Compare1->WU,wpAny_loadName_local->Xf,ZipApart->Xm,wpAny_loadName_cell->Yc,Builtin->Yf,wpAny_getItem_heap->Zu,getattributeRaised->Zv,builtinsNs->Zw,wpAny_Name->Zy,typeIs_str->ZA,isInstance->ZC
open List renaming mem_cons_of_mem->FK,mem_cons_self->FL,length_map->FT,mem_cons->FU,length_cons->FW,mem_singleton->Ga,length_append->Gb,map_cons->Ge,mem_append->Gr,getElem?_eq_some_iff->GG,nodup_cons->GJ,contains_iff_mem->GN,getElem?_map->GR,contains_cons->GZ,mem_of_getElem?->G8,append_assoc->G9,length_reverse->Hc,size_toArray->Hd,reverse_cons->Hh,append_nil->Hj,map_append->Hk,find?_cons->HC,mem_append_right->HG,drop_eq_getElem_cons->HL,getElem?_eq_getElem->HS,length_filter_le->HW,not_mem_nil->HZ,getD_eq_getElem?_getD->Jl,getElem?_eq_none->Js,replicate->JE,take_of_length_le->JL,lookup->JO,take_length->JQ,range->JS,length_singleton->JT,length_take_le'->J7,take_add_one->J8,map_map->J9,takeWhile_cons->Kk,lookup_cons->Ko,mem_reverse->Kp,drop_of_length_le->KC,mem_filter->KO,length_nil->KP,mem_of_find?_eq_some->K8,filterMap_cons->Li,mem_map_of_mem->Lj,of_mem_zip->LF,getElem?_replicate->LK,nodup_append->LW,mem_map->LY,all_eq_true->Mq,length_drop->Mr,any_eq_true->Ms,mem_append_left->MC,mem_of_getLast?->ME,getElem?_range->MS,take_zero->Nh,nodup_nil->Ni,find?_isSome->NJ,all_cons->N4,any_cons->N5,length_eq_zero_iff->Od,filter_cons->Oe,getElem?_set_self->Oq,length_replicate->OM,getElem?_set_ne->OZ,drop_drop->O0,length->O2,find?_eq_none->Qg,length_filter_eq_length_iff->QD,length_range->QF,map_nil->QK,length_take->Q7,take_append->Q8,drop_length->Q9,eq_nil_of_length_eq_zero->Rf,find?_some->RE,forIn_nil->RU,getElem?_append_left->Se,getLastD_eq_getLast?->Sf,getLast?_cons_cons->S8,drop_eq_nil_of_le->TH,append_eq_nil_iff->TJ,all_map->TZ,any_map->T4,take_append_drop->Ua,eq_nil_or_concat->Ub,concat_eq_append->Uc,filterMap_append->Ud,getElem?_reverse->Ue,mem_of_mem_take->UL,dropLast_concat->UM,mem_of_mem_drop->UO,toList_toArray->Vh,reverse_append->Vj,mem_filterMap->VH,map_inj_right->VJ,any_eq_false->V6,find?_append->V9,mem_of_head?->Wa,drop_sublist->Wd,cons_append->WV,perm_middle->WW,forIn_cons->Xh,length_zip->Xi,map_const'->Xj,foldr_cons->Xk,sum_cons->ZD
open PySem.Heap renaming get?_push_of_some->FY,lt_size->Gq,get?_push_size->Hx,get?_update_other->Hz,size_push->Iq,get?_update_self->JU,SameBut->M4,get?_update_ne->Vi
open Option.some renaming inj->F4
open Nat renaming le_refl->F5,le_trans->F7,zero_le->Gn,lt_of_lt_of_le->Gv,lt_of_le_of_lt->GF,ne_of_lt->Hv,lt_succ_self->Ib,succ_le_succ->Ic,add_sub_cancel_left->Iw,lt_irrefl->IB,lt_succ_of_lt->JH,le_add_right->Kr,le_of_eq->KH,le_of_lt->Lb,add_comm->Lc,zero_add->Ld,le_succ->LQ,le_of_succ_le->L4,ne_of_gt->L5,add_sub_cancel->Nw,add_right_comm->Ny,le_succ_of_le->NZ,sub_self->Q1,succ->So,add_assoc->Ta,add_le_add_left->VG,lt_of_le_of_ne->V4,min_eq_right->Xg,min_eq_left->Yd
open StateT renaming bind->Gh
open PySem.Value renaming ref->Gs,none->IA,int->KQ,builtin->Mt,bool->Na,type->Nb,str->O3,isStrOf->PD,float->Um
open Option renaming map_eq_some_iff->GH,isSome_map->IG,bind_eq_some_iff->IX,isSome_iff_exists->Lh,map_some->MG,none->T5,some->T6,some_ne_none->Ui,isSome_some->UQ,getD_none->VN,map_map->WZ
open Or renaming inl->Hs
open True renaming intro->HD
open Vbemac.Tok renaming word->HU,sign->JB
open Sum renaming inr->IF,inl->Kb
open PySem.Obj renaming mapFields->IT,isFreed_of_fields->Mp,data_mapFields->Qq
open PySem.F renaming store_Exception->IV,plainAttrs_list->JD,slot_list_append->K9,type_list_append->La,slot_zip_getattribute->Mh,slot_dict_getitem->RC,excBase_Exception->RD,slot_dict_pop->SN,slot_list_pop->SO,type_list_pop->SQ
open Ne renaming symm->Jf
open False renaming elim->Jk
open PySem.PassesOwn renaming leaving->Jz,never->Mi
open Array renaming getElem?_eq_some_iff->JR,toList->Tb,getElem?_toList->TK,mem_toList_iff->Ug,length_toList->UP,find?_toList->Vl,toList_map->We
open List.cons renaming inj->JZ
open Sum.inr renaming inj->J1
open PyProof.Rows renaming envOfC->J6,callWith_type1->Kq,boot_tuple->M3,callWith_builtin1->OY,AllBare->QJ,boot_isinstance->S9,subscriptTail->Vk,subscriptTail_builtinR->V2,Subscript_->Zz
open PyVbemac renaming curve->Kc
open Int renaming toNat_of_nonneg->Km
open PySem.Calls renaming spliced_cons->LD,callWith_builtin->LS,spliced_nil->LU,evalArgs_plain->OP,Name_function_global->RH
open Int.ofNat renaming inj->LZ
open PySem.NameKind renaming free->L7,cell->RG
open PySem.Builtin.SmallTypes renaming ownedTupleIsFree->Nu,nextOf->OU
open UInt8 renaming toNat->NG,ofNat->OV,toNat_inj->Rh,ofNat_toNat->VL,toNat_lt->Xl
open ForInStep renaming yield->N6
open Vbemac.Known renaming taken->Ou
open PySem.Heap.Ns1 renaming of_empty->PB
open PySem.Builtin.Dict renaming updateFrom->Q0
open PySem.Paired renaming length->RV,snoc->ZF
open Nat.succ renaming inj->RZ
open PySem.EntryCells renaming newEntry->Sj
open PySem.SeqAt.EqAt renaming int_str->SS,str_int->SU
open PySem.Around renaming under->SV,under_plainId->TM
open Vbemac.Call renaming curve->SX
open PySem.Code renaming isFrame->TV,quiet_builtin->VI
open PySem.Heap.DictOf renaming new->T7
open Vbemac.Exp renaming call->Uo
open PySem.Data renaming seq->UU
open PySem.Value.type renaming inj->UW
open PySem.Txt renaming join->Vp
open PySem.Bind renaming checkArgs->Ye
open Sum.inl renaming inj->Yn
open PySem.Str renaming join->ZG
open PySem.Within renaming cons->ZH
open PySem.Heap.IsSliceOf renaming new->ach
set_option genSizeOf false
set_option Elab.async false
set_option linter.all false
set_option maxRecDepth 100000
set_option cleanup.letToHave false
set_option maxHeartbeats 4000000
set_option maxRecDepth 100000 in
set_option maxHeartbeats 0 in
def OS.aci:PySem.Challenge.rw_ordersheets_s04_curve.wellSaid=FS:=by decide+kernel
namespace OS
open PySem PySem.W
def live (o:Jp):FP Jp:=match o with
 |⟨_,_, .freed,_⟩=>FM
 |o=>FB o
noncomputable def pick (l:Fx Jp):FX->Fx FX->Fx (FP Jp):=
 @Fx.rec Jp (λ_=>FX->Fx FX->Fx (FP Jp)) (λ_ _=>[])
  (λo _ f i as=> @Fx.rec FX (λ_=>Fx (FP Jp)) [] (λa t _=> @GP.rec (λ_=>Fx (FP Jp)) (f (So i) as) (live o::f (So i) t) (FX.beq a i)) as) l
def zX (o:Jp) (l:Fx Jp) (i a:FX) (t:Fx FX):pick (o::l) i (a::t)=if a=i then live o::pick l (i+1) t else pick l (i+1) (a::t):=by
 show @GP.rec (λ_=>Fx (FP Jp)) _ _ (FX.beq a i)=_
 cases h:FX.beq a i
 .rw[FF (FX.ne_of_beq_eq_false h)];rfl
 .rw[FI (FX.eq_of_beq_eq_true h)];rfl
def ER {K:Fx (FX×Jp)}(l:Fx Jp): ∀(i:FX),pick l i (K.map (·.1))=K.map (λp=>FB p.2)-> ∀p∈K,i<=p.1/\l[p.1-i]?.bind live=FB p.2:=by
 induction l generalizing K with
 |nil=>
  intro i h p hp;cases K with
  |nil=>cases hp
  |cons q r=>cases h
 |cons o l ih=>
  intro i h p hp;cases K with
  |nil=>cases hp
  |cons q r=>
   rw[Ge,zX] at h;split at h
   .rename_i e
    obtain⟨h1,h2⟩:=JZ h;rcases FU.mp hp with z|z
    .rw[z,e,Q1];exact#[F5 _,h1]
    .have⟨a,b⟩:=ih (i+1) h2 p z
     refine#[by lia,?_];rw[show p.1-i=p.1-(i+1)+1 by lia];exact b
   .have⟨a,b⟩:=ih (K:=q::r) (i+1) h p hp
    refine#[by lia,?_];rw[show p.1-i=p.1-(i+1)+1 by lia];exact b
def wo {K:Frag}{a:FX}{o:Jp}(e:K.lookup a=FB o):(a,o)∈K:=by
 induction K with
 |nil=>cases e
 |cons p r ih=>
  obtain⟨b,x⟩:=p;simp only[JO] at e;split at e
  .rename_i q;cases e;rw[beq_iff_eq.mp q];exact .head _
  .exact .tail _ (ih e)
noncomputable def hook (K:Params->Frag) (as:Fx FX) (e: ∀P,as=(K P).map (·.1)):Hook:=
 #[Fx (FP Jp),λs=>pick s.heap.objs.toList 0 as,λw=>(K w.params).map λp=>FB p.2,InK K,λw s h a o x=>by
  rw[e w.params] at h;have:=(ER _ 0 h _ (wo x)).2;rw[TK] at this;unfold Ho.get?;cases z:s.heap.objs[a]? with
  |none=>rw[show(a,o).1-0=a from Go,z] at this;cases this
  |some y=>rw[show(a,o).1-0=a from Go,z] at this;rcases y with⟨_,_,x,_⟩;cases x<;>exact this,InK.keeps]
def VW {K:Params->Frag}{as:Fx FX}{e: ∀P,as=(K P).map (·.1)} {w:Hf}{h:Ho}(Y:(hook K as e).says w h):(K w.params).In h:=Y
end OS
namespace L2
open PySem PySem.Spec PyProof.Rows
abbrev be:=Sum Int Gf
def jE:be->FE->GP
 | .inl k,v=>FE.isInt k v
 | .inr x,v=>PD x v
def ajD (w:Hf):be->Int
 | .inl k=>hashInt k
 | .inr x=>hashStr w x
def cM: ∀ {k:be}{v:FE},jE k v=FS->(∃i t,k=Kb i/\v=KQ i t)\/(∃x t,k=IF x/\v=O3 x t)
 | .inl i,v,h=>by
  obtain⟨t,e⟩:=FE.isInt_shape (k:=i) (v:=v) h;exact .inl #[i,t,Go,e]
 | .inr x,v,h=>by
  obtain⟨t,e⟩:=FE.isStrOf_shape (x:=x) (v:=v) h;exact .inr #[x,t,Go,e]
def ZJ (a b:Int):decide ((Kb a:be)=Kb b)=(a == b):=by
 by_cases e:a=b
 .subst e;simp
 .have h: ¬(Kb a:be)=Kb b:=λq=>e (Yn q)
  rw[Gp h];exact(beq_eq_false_iff_ne.mpr e).symm
def ZK (a b:Gf):decide ((IF a:be)=IF b)=decide (a=b):=by
 by_cases e:a=b
 .subst e;simp
 .have h: ¬(IF a:be)=IF b:=λq=>e (J1 q)
  rw[Gp h,Gp e]
def ZL (a:Int) (b:Gf):decide ((Kb a:be)=IF b)=Gc:=Gp (λq=>nomatch q)
def ZM (a:Gf) (b:Int):decide ((IF a:be)=Kb b)=Gc:=Gp (λq=>nomatch q)
def aX (prog:Gy) (w:Hf):PySem.KeyKind prog w be where
 is:=jE
 hash:=ajD w
 inj:=λv a b ha hb=>by
  rcases cM ha with⟨i,t,rfl,rfl⟩|⟨x,t,rfl,rfl⟩
  .rcases cM hb with⟨j,u,rfl,e⟩|⟨y,u,rfl,e⟩
   .injection e with e1 _;rw[e1]
   .exact nomatch e
  .rcases cM hb with⟨j,u,rfl,e⟩|⟨y,u,rfl,e⟩
   .exact nomatch e
   .injection e with e1 _;rw[e1]
 byValue:=λk v h=>by
  rcases cM h with⟨i,t,rfl,rfl⟩|⟨x,t,rfl,rfl⟩<;>rfl
 pyHash:=λhv h=>by
  rcases cM hv with⟨i,t,rfl,rfl⟩|⟨x,t,rfl,rfl⟩
  .exact wpAny_pyHash_int h
  .exact wpAny_pyHash_str h
 eqBool:=λhu hv h=>by
  rcases cM hu with⟨i,t,rfl,rfl⟩|⟨x,t,rfl,rfl⟩
  .rcases cM hv with⟨j,u,rfl,rfl⟩|⟨y,u,rfl,rfl⟩
   .rw[ZJ] at h;exact wpAny_eqBool_int h
   .rw[ZL] at h;exact SS i t y u _ _ _ _ h
  .rcases cM hv with⟨j,u,rfl,rfl⟩|⟨y,u,rfl,rfl⟩
   .rw[ZM] at h;exact SU x t j u _ _ _ _ h
   .rw[ZK] at h;exact wpAny_eqBool_str h
 «strs»:=λk x t v h=>by
  rcases cM h with⟨i,u,rfl,e⟩|⟨y,u,rfl,e⟩
  .exact nomatch e
  .injection e with e1 _
   subst e1;cases v<;>rfl
inductive V where
 |Jm|bl (b:GP)|int (i:Int)|str (x:Gf)|Tc (b:JN Jx)|Yo (b:UInt64)|ref (a:FG)|ty (n:String)
 deriving DecidableEq
def bo:V->FE->Prop
 | .Jm,u=>u=IA
 | .bl b,u=>u=Na b
 | .int i,u=> ∃t,u=KQ i t
 | .str x,u=> ∃t,u=O3 x t
 | .Tc b,u=> ∃t,u=FE.bytes b t
 | .Yo b,u=> ∃t,u=Um b t
 | .ref a,u=>u=Gs a
 | .ty n,u=>u=Nb n
abbrev a8:Fx V->Fx FE->Prop:=Paired bo
def fX:FP V->FP FE->Prop
 |some v,some u=>bo v u
 |none,none=>True
 |_,_=>False
def KV {κ:Type} :Fx (κ×V)->Fx (κ×FE)->Prop:=Paired λ(p:κ×V) (q:κ×FE)=>p.1=q.1/\bo p.2 q.2
def kV:be->V
 | .inl i=> .int i
 | .inr x=> .str x
inductive HO where
  |lst (xs:Fx V)
  |tup (xs:Fx V)
  |dK (aD:Fx (be×V))|dT (aD:Fx (Fx be×V))
  |set (S:Int->GP) (n:FX)
  |ins (C dx:FG) (fs:Fx (Gf×V))
  |own (x:FG)
  |xd (fs:Fx (Gf×V))
  |met (f x:FG)
  |rng (lo hi:Int)
  |Ri (o:Jp) (u:HO)
  |ZN (ps:JN FE)
  |ext (φ:Ho->Prop)
abbrev Hp:=FG->FP HO
section
variable (P:Gy) (w:Hf)
def cx (H:Hp) (h:Ho) (a:FG):HO->Prop
 | .lst xs=>xs.length<=GD/\ ∃(Il:Fx FE) (n:FX),a8 xs Il/\h.get? a=FB { cls:= .type "list",data:= .seq Il.toArray n }
 | .tup xs=>xs.length<=GD/\ ∃Il:Fx FE,a8 xs Il/\IsTup h a Il.toArray
 | .dK aD=>aD.length<=GD/\(a == Jb)=Gc/\ ∃vs,KV aD vs/\h.DictOf (aX P w) a vs
 | .dT aD=>aD.length<=GD/\(a == Jb)=Gc/\ ∃xs:Fx (Fx be×FG×FE),
   Paired (λ(p:Fx be×V) (q:Fx be×FG×FE)=>p.1=q.1/\H q.2.1=FB (.tup (p.1.map kV))/\bo p.2 q.2.2) aD xs/\
   ∃o es ep,h.get? a=FB o/\o.ExactDict/\o.data= .dict es ep/\es.toList=xs.map (entryOfKey (N0 (aX P w)))/\(xs.map (·.1)).Nodup
 | .set S n=>h.SetOf (intKind P w) a S n
 | .ins C dx fs=>H dx=FB (.own a)/\fs.length<=1000/\dx≠a/\h.get? a=FB (JV C dx)/\
   ∃mA,h.Ns1 dx mA/\(∀f,fX (fs.lookup f) (mA f))/\Om mA (fs.map (·.1))
 | .own _=> ∃o,h.get? a=FB o
 | .xd fs=> ∃mA,h.Ns1 a mA/\ ∀f,fX (fs.lookup f) (mA f)
 | .rng lo hi=> ∃t u v,h.get? a=FB { cls:= .type "range",data:= .fields [.int lo t, .int hi u, .int 1 v].toArray }
 | .Ri o u=>h.get? a=FB o/\cx H h a u
 | .ZN ps=>h.get? a=FB { cls:= .none,data:= .fields ps }
 | .met f x=>h.get? a=FB (PH (.ref f) (.ref x))
 | .ext φ=>φ h/\(∃o,h.get? a=FB o)/\ ∀h1 h2:Ho,φ h1->(∀o,h1.get? a=FB o->h2.get? a=FB o)->φ h2
def hJ (H:Hp) (h:Ho):Prop:= ∀a o,H a=FB o->cx P w H h a o
end
def Rd (H:Hp) (a:FG) (u:HO):Prop:=H a=FB u\/ ∃o,H a=FB (.Ri o u)
def Rd.ok {P:Gy}{w:Hf}{H:Hp}{h:Ho}{a:FG}{u:HO}(r:Rd H a u) (x:hJ P w H h):cx P w H h a u:=by
 rcases r with r|⟨o,r⟩
 .exact x a u r
 .obtain⟨_,q⟩:=x a _ r
  exact q
structure Un (fs ex:Fx FG) (H H':Hp) (h h':Ho):Prop where
 keep: ∀b o,h.get? b=FB o->H b=FM->b∉fs->b∉ex->h'.get? b=FB o
 slot: ∀b o,h.get? b=FB o->H b=FM->b∈fs->b∉ex-> ∃sl,h'.get? b=FB { o with slots:=sl }
 free: ∀b o,h.get? b=FB o->H b=FM->b∉ex->H' b=FM
 there: ∀b o,h.get? b=FB o->b∉ex-> ∃o',h'.get? b=FB o'
 Rj: ∀b xs,H b=FB (.tup xs)->H' b=FB (.tup xs)
 Q5: ∀b o u,H b=FB (.Ri o u)->H' b=FB (.Ri o u)
 Rk: ∀b ps,H b=FB (.ZN ps)-> ∃more,H' b=FB (.ZN (ps++more))
def C8 (h:Ho) (H:Hp):Fx FG:=(JS h.objs.size).filter λa=>(H a).isSome
def qP (h:Ho) (H:Hp):Ho:=PySem.W.hideAll h (C8 h H)
def Ac (h:Ho) (H:Hp):(qP h H).objs.size=h.objs.size:=PySem.W.hideAll_size _ _
def CP {h:Ho}{H:Hp}{b:FG}{o:Jp}(e:h.get? b=FB o) (n:H b=FM):(qP h H).get? b=FB o:=
 PySem.W.hideAll_get _ e λhm=>by
  have q:(H b).isSome=FS:=(KO.mp hm).2;rw[n] at q;simp at q
def Ec {h:Ho}{H:Hp}{b:FG}{o:Jp}(e:(qP h H).get? b=FB o):h.get? b=FB o/\H b=FM:=by
 have e':h.get? b=FB o:=PySem.W.of_hideAll (C8 h H) e;refine#[e',?_];cases q:H b with
 |none=>rfl
 |some x=>
  have hm:b∈C8 h H:=KO.mpr #[Fx.mem_range.mpr (Gq e'),by simp [q]]
  have z:(qP h H).get? b=FM:=PySem.W.hideAll_none (C8 h H) hm;rw[z] at e;cases e
structure Mod (K:FC) (mg:Gf->FP FE) (base:Ho):Prop where
 VW:K.In base
 glob:base.Ns JI mg
 blt: ∃mb,base.Ns Zw mb/\ ∀x:Gf,x≠"__name__"->mb x=LC x
 nolimit:base.NoLimit
def rq (l:Fx Env):Fx FG:=l.filterMap (·.frame)
abbrev XK:=FE->FP FG->Hp->Prop
abbrev VK:=V->Hp->Prop
def cD (K:FC) (H:Hp) (a:FG) (xs:Fx V):Prop:=
 Rd H a (.lst xs)\/
  ∃(o:Jp) (Il:JN FE) (n:FX),K.lookup a=FB o/\o.cls= .type "list"/\o.dict=FM/\o.data= .seq Il n/\Il.size<=GD/\a8 xs Il.toList
def qQ (K:FC) (H:Hp) (a:FG) (xs:Fx V):Prop:=
 Rd H a (.tup xs)\/
  ∃(o:Jp) (Il:JN FE) (n:FX),K.lookup a=FB o/\o.cls= .type "tuple"/\o.data= .seq Il n/\Il.size<=GD/\a8 xs Il.toList
section
variable {X:Cx}{pins:Fx (FG×Jp)}{σ:St}{H:Hp}{s:FJ}{a:FG}{xs ys:Fx V}
def cD.of {K:FC}(h:H a=FB (.lst xs)):cD K H a xs:= .inl (.inl h)
end
structure gT (K:FC) (C:FG):Prop where
 pg:NK K C Gf.empty=FS
 hd:PJ K C=FS
 po:UR K C=FS
 sa:Iu K (.ref C) "__setattr__"=FB (FB (.builtin "object.__setattr__"))
def au (K:FC) (C:FG) (f:Gf):Prop:=Iu K (.ref C) f=FB FM
structure Meth (K:FC) (C:FG) (m:Gf) (f:FG):Prop where
 at_:Iu K (.ref C) m=FB (FB (.ref f))
 fn:PM K (.ref f)=FS
 kp:Je K (.ref f)=FS
structure bZ (k:FX) (A:Hm):Prop where
 hd:A.handled=FM
 dp:A.depth+2*k+5<recursionLimit
 un:A.units+16*k+200<Qt
abbrev Sp:=Fx V->Hp->VK->XK->Prop
abbrev qG:=Fx Env->Hp->FJ->XK->FE->FJ->Prop
structure wC (P:Gy) (w:Hf) (K:FC) (mg:Gf->FP FE) (base:Ho) (A:Hm) (outer:Fx Env) (s:FJ) (H:Hp):Prop where
 frames:A.frames=FB outer
 mod:Mod K mg base
 bs: ∀b o,base.get? b=FB o->s.heap.get? b=FB o/\H b=FM
 Vq:base.objs.size<=s.heap.objs.size
 funs:s.heap.FunFrames base outer
 W7: ∀b∈rq outer,H b=FM
 IQ:hJ P w H s.heap
 bare:QJ s.gens
def CE (outer:Fx Env) (P:Gy) (w:Hf) (H:Hp) (s:FJ) (Q:VK) (u:FE) (s':FJ):Prop:=
 ∃v H',s'.os=s.os/\QJ s'.gens/\Un (rq outer) [] H H' s.heap s'.heap/\hJ P w H' s'.heap/\bo v u/\Q v H'
def CR (CX:qG) (outer:Fx Env) (P:Gy) (w:Hf) (H:Hp) (s:FJ) (Q:VK) (E:XK) (r:Result) (s':FJ):Prop:=
 match r with
 | .ok (.ret u)=>CE outer P w H s Q u s'
 | .ok _=>False
 | .error e=>CX outer H s E e s'
structure bW (P:Gy) (w:Hf) (K:FC) (mg:Gf->FP FE) (base:Ho) (CX:qG) (k:FX) (f:FG) (fd:GQ) (ps:Fx Gf) (sp:Sp):Prop where
 len: ∀vs H Q E,sp vs H Q E->vs.length=ps.length
 run: ∀(A:Hm) (outer:Fx Env) (s:FJ) (H:Hp) (args:Args) (us:Fx FE) (vs:Fx V) (Q:VK) (E:XK),bZ k A->wC P w K mg base A outer s H->TN s fd args (ps.zip us)->a8 vs us->sp vs H Q E->
  LX (model P w) A (.call (.ref f) args) (CR CX outer P w H s Q E) s
def gm (K:FC) (fd:GQ) (ps:Fx Gf) (ds:Fx FE):Prop:=
 ∀(s:FJ) (us:Fx FE),K.In s.heap->(us++ds).length=ps.length->TN s fd #[us,[]] (ps.zip (us++ds))
def gm.all {K:FC}{fd:GQ}{ps:Fx Gf}(h: ∀us:Fx FE,us.length=ps.length->HP fd #[us,[]]=pure [019]):gm K fd ps []:=λs us _ hl=>by
 rw[Hj] at hl ⊢;exact .of_eq (h us hl)
section
variable {X:Cx}{CX:qG}{k:FX}{f C:FG}{fd:GQ}{ps:Fx Gf}{sp:Sp}{R7:Fx V}{ds:Fx FE}{E:XK}{x m:Gf}{p pos LJ:Pos}{e o:HX}{es:Fx HX}{ta:TE}{t:TA}
structure CD (K:FC) (mg:Gf->FP FE) (x:Gf) (f:FG) (fd:GQ) (ps:Fx Gf):Prop where
 m:mg x=FB (.ref f)
 k:Je K (.ref f)=FS
 b:gm K fd ps []
structure MD (K:FC) (C:FG) (m:Gf) (f:FG) (fd:GQ) (ps:Fx Gf):Prop where
 m:Meth K C m f
 b:gm K fd ps []
structure Mk (K:FC) (C f:FG):Prop where
 makes:VR K C=FS
 init:Iu K (.ref C) "__init__"=FB (FB (.ref f))
 fn:PM K (.ref f)=FS
 kp:Je K (.ref C)=FS
end
def aB (s:Stmt) (j:FX):Stmt:=match s with
 | .ClassDef _ _ _ body _ _ _ _ _ _ _=>body.getD j (.Pass #[0,0,0,0])
 |_=> .Pass #[0,0,0,0]
def dO (s:Stmt):Arguments:=match s with
 | .FunctionDef _ a _ _ _ _ _ _ _ _=>a
 |_=> { posonlyargs:=[],args:=[],vararg:=FM,kwonlyargs:=[],kw_defaults:=[],kwarg:=FM,defaults:=[] }
def bh (s:Stmt):Fx Stmt:=match s with
 | .FunctionDef _ _ b _ _ _ _ _ _ _=>b
 |_=>[]
def af (s:Stmt):Scope:=match s with
 | .FunctionDef _ _ _ _ _ _ sc _ _ _=>sc
 |_=> { kind:= .function,names:=[],isGenerator:=Gc,isCoroutine:=Gc }
abbrev xR:qG:=λ_ _ _ _ _ _=>False
structure o9 (K:FC) (x Hy:Gf) (st:Stmt) (f:FG) (fd:GQ):Prop where
 ex: ∃(oc:FE) (od:FP FG) (kV doc pm:FE) (an:FP FG) (Hn ct:FE) (W8:JN (FP FE)),
  fd=IP x Hy (dO st) (bh st) (af st) .none kV doc pm an Hn ct/\K.lookup f=FB #[oc,od, .func fd,W8]/\LL K Hn Hy=FS
 kp:Je K (.ref f)=FS
section
variable {P:Gy}{w:Hf}{K:FC}{mg:Gf->FP FE}{base:Ho}
def o9.binds {x Hy:Gf}{st:Stmt}{f:FG}{fd:GQ}{ps:Fx Gf}(F:o9 K x Hy st f fd)
  (h: ∀(kV doc pm:FE) (an:FP FG) (Hn ct:FE) (us:Fx FE),us.length=ps.length->HP (IP x Hy (dO st) (bh st) (af st) .none kV doc pm an Hn ct) #[us,[]]=pure [019]):gm K fd ps []:=by
 obtain⟨oc,od,kV,doc,pm,an,Hn,ct,W8,rfl,lk,Td⟩:=F.ex;exact .all (h kV doc pm an Hn ct)
def lV {x Hy:Gf}{st:Stmt}{f:FG}{oc:FE}{od an:FP FG}{W8:JN (FP FE)}{kV doc pm Hn ct:FE}(l:K.lookup f=FB #[oc,od, .func (IP x Hy (dO st) (bh st) (af st) .none kV doc pm an Hn ct),W8])
  (c:LL K Hn Hy=FS) (k:Je K (.ref f)=FS):o9 K x Hy st f (IP x Hy (dO st) (bh st) (af st) .none kV doc pm an Hn ct):=#[#[oc,od,kV,doc,pm,an,Hn,ct,W8,Go,l,c],k]
end
end L2
section
set_option maxHeartbeats 2000000
namespace L2
open PySem PySem.Spec PyProof.Rows
open PySem.W (WData Codec OpenSpec Well WellAll ReadsW ReadsAllW)
mutual
inductive Dw (K:FC) (H:Hp):V->WData->Prop
 |Jm:Dw K H .Jm .none
 |bl (b:GP):Dw K H (.bl b) (.bool b)
 |int (i:Int):Dw K H (.int i) (.int i)
 |str (x:Gf):Dw K H (.str x) (.str x)
 |Tc (b:JN Jx):Dw K H (.Tc b) (.bytes b.toList)
 |lst {a:FG}{xs:Fx V}{ds:Fx WData} :cD K H a xs->ik K H xs ds->Dw K H (.ref a) (.list ds)
 |tup {a:FG}{xs:Fx V}{ds:Fx WData} :qQ K H a xs->ik K H xs ds->Dw K H (.ref a) (.tuple ds)
inductive ik (K:FC) (H:Hp):Fx V->Fx WData->Prop
 |nil:ik K H [] []
 |cons {v:V}{vs:Fx V}{d:WData}{ds:Fx WData} :Dw K H v d->ik K H vs ds->ik K H (v::vs) (d::ds)
end
theorem wE {K:FC}{H:Hp} : ∀ns:Fx Int,ik K H (ns.map V.int) (ns.map WData.int)
 |[]=> .nil
 |n::r=> .cons (.int n) (wE r)
theorem yb {K:FC}{H:Hp} : ∀(ns:Fx Int) (xs:Fx V),ik K H xs (ns.map WData.int)->xs=ns.map V.int
 |[],xs,h=>by
  cases h
  rfl
 |n::r,xs,h=>by
  cases h with
  |cons h1 h2=>
   cases h1;rw[yb r _ h2]<;>rfl
section
variable {P:Gy}{w:Hf}{K:FC}{H:Hp}{h:Ho}{R:Vn}{cl:Gf->FP FG}
def ZO {a:FG}(IQ:hJ P w H h) (KX:K.In h) (q:cD K H a xs): ∃(Il:Fx FE) (o:Jp) (n:FX),a8 xs Il/\h.get? a=FB o/\o.cls= .type "list"/\o.data= .seq Il.toArray n:=by
 rcases q with q|⟨o,Il,n,e,hc,_,hd,_,hv⟩
 .obtain⟨_,Il,n,hv,e⟩:=(show cx P w H h a (.lst xs) from q.ok IQ)
  exact#[Il,_,n,hv,e,Go,Go]
 .exact#[Il.toList,o,n,hv,KX _ _ e,hc,by simp [hd]]
def ZP {a:FG}(IQ:hJ P w H h) (KX:K.In h) (q:qQ K H a xs): ∃(Il:Fx FE) (o:Jp) (n:FX),a8 xs Il/\h.get? a=FB o/\o.cls= .type "tuple"/\o.data= .seq Il.toArray n:=by
 rcases q with q|⟨o,Il,n,e,hc,hd,_,hv⟩
 .obtain⟨_,Il,hv,o,e,hc,n,hd⟩:=(show cx P w H h a (.tup xs) from q.ok IQ)
  exact#[Il,o,n,hv,e,hc,hd]
 .exact#[Il.toList,o,n,hv,KX _ _ e,hc,by simp [hd]]
mutual
theorem Dw.reads (IQ:hJ P w H h) (KX:K.In h): ∀(d:WData) (v:V) (u:FE),Dw K H v d->bo v u-> ∃as,ReadsW R cl h u d as
 | .none,_,_,x,r=>by
  cases x;cases r;exact#[_,ReadsW.none]
 | .bool b,_,_,x,r=>by
  cases x;cases r;exact#[_,ReadsW.bool b]
 | .int i,_,_,x,r=>by
  cases x;obtain⟨t,rfl⟩:=r;exact#[_,ReadsW.int i t]
 | .str s,_,_,x,r=>by
  cases x;obtain⟨t,rfl⟩:=r;exact#[_,ReadsW.str s t]
 | .bytes b,_,_,x,r=>by
  cases x;obtain⟨t,rfl⟩:=r;exact#[_,ReadsW.bytes _ t]
 | .list ds,_,_,x,r=>by
  cases x with
  |lst hs ha=>
   cases r;obtain⟨Il,o,n,rv,ho,hc,hd⟩:=ZO IQ KX hs;obtain⟨as,hr⟩:=Dw.readsAll IQ KX ds _ Il ha rv;exact#[_,ReadsW.list ho hc hd hr]
 | .tuple ds,_,_,x,r=>by
  cases x with
  |tup hs ha=>
   cases r;obtain⟨Il,o,n,rv,ho,hc,hd⟩:=ZP IQ KX hs;obtain⟨as,hr⟩:=Dw.readsAll IQ KX ds _ Il ha rv;exact#[_,ReadsW.tuple ho hc hd hr]
 | .float _,_,_,x,_=>by cases x
 | .dict _,_,_,x,_=>by cases x
 | .bytearray _,_,_,x,_=>by cases x
 | .set _,_,_,x,_=>by cases x
 | .frozenset _,_,_,x,_=>by cases x
 | .obj _ _,_,_,x,_=>by cases x
theorem Dw.readsAll (IQ:hJ P w H h) (KX:K.In h): ∀(ds:Fx WData) (vs:Fx V) (us:Fx FE),ik K H vs ds->a8 vs us-> ∃as,ReadsAllW R cl h us ds as
 |[],_,_,x,r=>by
  cases x;cases r;exact#[_,ReadsAllW.nil]
 |d::ds,_,_,x,r=>by
  cases x with
  |cons h1 h2=>
   cases r with
   |cons r1 r2=>
    obtain⟨as,q1⟩:=Dw.reads IQ KX d _ _ h1 r1;obtain⟨bs,q2⟩:=Dw.readsAll IQ KX ds _ _ h2 r2;exact#[_,ReadsAllW.cons q1 q2]
end
end
mutual
def wZ:WData->GP
 | .none=>FS
 | .bool _=>FS
 | .int _=>FS
 | .str _=>FS
 | .bytes _=>FS
 | .list xs=>mv xs
 | .tuple xs=>mv xs
 |_=>Gc
def mv:Fx WData->GP
 |[]=>FS
 |x::r=>wZ x&&mv r
end
theorem uv {α:Type}{f:α->WData}(h: ∀a,wZ (f a)=FS): ∀l:Fx α,mv (l.map f)=FS
 |[]=>rfl
 |x::r=>by
  show(wZ (f x)&&mv (r.map f))=FS
  rw[h x,uv h r]<;>rfl
theorem iC: ∀(c:Codec) (a:c.denote),wZ (c.enc a)=FS
 | .unit,_=>rfl
 | .bool,_=>rfl
 | .int _ _,_=>rfl
 | .nat _ _,_=>rfl
 | .u8,_=>rfl
 | .bytes _ _,_=>rfl
 | .text _ _ _ _,_=>rfl
 | .list _ _ c,a=>uv (λx=>iC c x) a
 | .pair c d,a=>by
  show(wZ (c.enc a.1)&&(wZ (d.enc a.2)&&FS))=FS
  rw[iC c a.1,iC d a.2]<;>rfl
 | .triple c d e,a=>by
  show(wZ (c.enc a.1)&&(wZ (d.enc a.2.1)&&(wZ (e.enc a.2.2)&&FS)))=FS
  rw[iC c a.1,iC d a.2.1,iC e a.2.2]<;>rfl
 | .option c,none=>rfl
 | .option c,some x=>iC c x
theorem pK: ∀(cs:Fx Codec) (a:Codec.denoteAll cs),mv (Codec.encAll cs a)=FS
 |[],_=>rfl
 |c::cs,a=>by
  show(wZ (c.enc a.1)&&mv (Codec.encAll cs a.2))=FS
  rw[iC c a.1,pK cs a.2]<;>rfl
theorem jP: ∀ {xs:Fx WData}{d:WData},d∈xs->d.weight<=WData.weightAll xs
 |[],d,h=>F6 h (by simp)
 |x::r,d,h=>by
  show d.weight<=x.weight+1+WData.weightAll r
  rcases FU.mp h with e|m
  .rw[e]
   omega
  .have z:=jP m
   omega
def tW:FE->V
 | .none=> .Jm
 | .bool b=> .bl b
 | .int i _=> .int i
 | .str x _=> .str x
 | .bytes b _=> .Tc b
 | .ref a=> .ref a
 |_=> .Jm
def Ab (A:Fx FG):FE->Prop
 | .none=>True
 | .bool _=>True
 | .int _ _=>True
 | .str _ _=>True
 | .bytes _ _=>True
 | .ref a=>a∈A
 |_=>False
def Ab.mono {A B:Fx FG}(h: ∀a∈A,a∈B): ∀ {u:FE},Ab A u->Ab B u:=λ{u} x=>by
 cases u with
 |ref a=>exact h a x
 |none=>trivial
 |bool b=>trivial
 |int i t=>trivial
 |str s t=>trivial
 |bytes b t=>trivial
 |_=>exact Jk x
def DH {A:Fx FG}(x:Ab A u):bo (tW u) u:=by
 cases u with
 |ref a=>rfl
 |none=>rfl
 |bool b=>rfl
 |int i t=>exact#[t,Go]
 |str s t=>exact#[t,Go]
 |bytes b t=>exact#[t,Go]
 |_=>exact Jk x
theorem gR {A:Fx FG} : ∀ {vs:Fx FE},(∀u∈vs,Ab A u)->a8 (vs.map tW) vs
 |[],_=> .nil
 |u::r,h=> .cons (DH (h u (FL ..))) (gR λx hx=>h x (FK _ hx))
def iq (h:Ho) (A:Fx FG) (a:FG):Prop:= ∃vs:Fx FE,vs.length<=GD/\(∀u∈vs,Ab A u)/\
 (h.get? a=FB { cls:= .type "list",data:= .seq vs.toArray } \/h.get? a=FB { cls:= .type "tuple",data:= .seq vs.toArray })
theorem iq.mono {h:Ho}{A B:Fx FG}{a:FG}(k: ∀a∈A,a∈B) (x:iq h A a):iq h B a:=by
 obtain⟨vs,h1,h2,h3⟩:=x;exact#[vs,h1,λu hu=>(h2 u hu).mono k,h3]
theorem gn {P:Params}{h:Ho} : ∀ {vs:Fx FE}{ds:Fx WData},WellAll P h vs ds->vs.length=ds.length
 |_,_, .nil=>rfl
 |_,_, .cons _ b=>by
  show _+1=_+1
  rw[gn b]
def pT {P:Params}{h:Ho}(x:Well P h v (.list ds)): ∃(a:FG) (vs:Fx FE),v= .ref a/\h.get? a=FB { cls:= .type "list",data:= .seq vs.toArray } /\WellAll P h vs ds:=by
 cases x with
 |list ho Qu=>exact#[_,_,Go,ho,Qu]
def oG {P:Params}{h:Ho}(x:Well P h v (.tuple ds)): ∃(a:FG) (vs:Fx FE),v= .ref a/\h.get? a=FB { cls:= .type "tuple",data:= .seq vs.toArray } /\WellAll P h vs ds:=by
 cases x with
 |tuple ho Qu=>exact#[_,_,Go,ho,Qu]
def pN {P:Params}{h:Ho}(x:WellAll P h us (d::ds)): ∃(v:FE) (vs:Fx FE),us=v::vs/\Well P h v d/\WellAll P h vs ds:=by
 cases x with
 |cons a b=>exact#[_,_,Go,a,b]
def xz (h:n<=1048576):n<=GD:=F7 h [01]
section
variable {P:Params}{h:Ho}
mutual
theorem CL: ∀(d:WData) (v:FE),Well P h v d->wZ d=FS->d.weight<=1048576-> ∃A:Fx FG,Ab A v/\ ∀a∈A,iq h A a
 | .none,_,x,_,_=>by
  cases x;exact#[[],trivial,λa m=>F6 m (by simp)]
 | .bool b,_,x,_,_=>by
  cases x;exact#[[],trivial,λa m=>F6 m (by simp)]
 | .int i,_,x,_,_=>by
  cases x;exact#[[],trivial,λa m=>F6 m (by simp)]
 | .str s,_,x,_,_=>by
  cases x;exact#[[],trivial,λa m=>F6 m (by simp)]
 | .bytes b,_,x,_,_=>by
  cases x;exact#[[],trivial,λa m=>F6 m (by simp)]
 | .list ds,_,x,p,z=>by
  obtain⟨a,vs,rfl,ho,Qu⟩:=pT x;have z2:WData.weightAll ds<=1048576:=z;obtain⟨A,h1,h2⟩:=j3 ds _ Qu p λd hd=>F7 (jP hd) z2;have k: ∀b∈A,b∈a::A:=λb hb=>FK _ hb
  refine#[a::A,FL ..,λb hb=>?_];rcases FU.mp hb with e|m
  .rw[e]
   exact#[vs,xz (by rw[gn Qu];exact F7 (QZ ds) z2),λu hu=>(h1 u hu).mono k, .inl ho]
  .exact(h2 b m).mono k
 | .tuple ds,_,x,p,z=>by
  obtain⟨a,vs,rfl,ho,Qu⟩:=oG x;have z2:WData.weightAll ds<=1048576:=z;obtain⟨A,h1,h2⟩:=j3 ds _ Qu p λd hd=>F7 (jP hd) z2;have k: ∀b∈A,b∈a::A:=λb hb=>FK _ hb
  refine#[a::A,FL ..,λb hb=>?_];rcases FU.mp hb with e|m
  .rw[e]
   exact#[vs,xz (by rw[gn Qu];exact F7 (QZ ds) z2),λu hu=>(h1 u hu).mono k, .inr ho]
  .exact(h2 b m).mono k
 | .float _,_,_,p,_=>HN (show Gc=FS from p)
 | .dict _,_,_,p,_=>HN (show Gc=FS from p)
 | .bytearray _,_,_,p,_=>HN (show Gc=FS from p)
 | .set _,_,_,p,_=>HN (show Gc=FS from p)
 | .frozenset _,_,_,p,_=>HN (show Gc=FS from p)
 | .obj _ _,_,_,p,_=>HN (show Gc=FS from p)
theorem j3: ∀(ds:Fx WData) (vs:Fx FE),WellAll P h vs ds->mv ds=FS->(∀d∈ds,d.weight<=1048576)-> ∃A:Fx FG,(∀u∈vs,Ab A u)/\ ∀a∈A,iq h A a
 |[],_,x,_,_=>by
  cases x;exact#[[],λu m=>F6 m (by simp),λa m=>F6 m (by simp)]
 |d::ds,_,x,p,z=>by
  obtain⟨v,vs,rfl,x1,x2⟩:=pN x;have q:wZ d=FS/\mv ds=FS:=UK.mp p;obtain⟨A,a1,a2⟩:=CL d v x1 q.1 (z d (FL ..));obtain⟨B,b1,b2⟩:=j3 ds vs x2 q.2 λe he=>z e (FK _ he);have kA: ∀b∈A,b∈A++B:=λb hb=>Gr.mpr (.inl hb)
  have kB: ∀b∈B,b∈A++B:=λb hb=>Gr.mpr (.inr hb)
  refine#[A++B,λu hu=>?_,λb hb=>?_]
  .rcases FU.mp hu with e|m
   .rw[e]
    exact a1.mono kA
   .exact(b1 u m).mono kB
  .rcases Gr.mp hb with m|m
   .exact(a2 b m).mono kA
   .exact(b2 b m).mono kB
end
end
def EZ (o:Jp):FP HO:=match o.data with
 | .seq vs _=>if(o.cls == Nb "list")=FS then FB (.Ri o (.lst (vs.toList.map tW))) else FB (.Ri o (.tup (vs.toList.map tW)))
 |_=>FM
def hU (K:FC) (h:Ho) (A:Fx FG):Hp:=λb=>if b∈A then(if(K.lookup b).isNone=FS then(h.get? b).bind EZ else FM) else FM
def tN (H:Hp):Prop:= ∀b,H b=FM\/ ∃o u,H b=FB (.Ri o u)
def sO (vs:Fx FE):EZ { cls:= .type "list",data:= .seq vs.toArray } =FB (.Ri { cls:= .type "list",data:= .seq vs.toArray } (.lst (vs.map tW))):=by
 show(if(Nb "list" == Nb "list")=FS then FB (HO.Ri { cls:= .type "list",data:= .seq vs.toArray } (.lst (vs.toArray.toList.map tW))) else FB (HO.Ri { cls:= .type "list",data:= .seq vs.toArray } (.tup (vs.toArray.toList.map tW))))=_
 rw[FI (Ht _)]
def ur (vs:Fx FE):EZ { cls:= .type "tuple",data:= .seq vs.toArray } =FB (.Ri { cls:= .type "tuple",data:= .seq vs.toArray } (.tup (vs.map tW))):=by
 show(if(Nb "tuple" == Nb "list")=FS then FB (HO.Ri { cls:= .type "tuple",data:= .seq vs.toArray } (.lst (vs.toArray.toList.map tW))) else FB (HO.Ri { cls:= .type "tuple",data:= .seq vs.toArray } (.tup (vs.toArray.toList.map tW))))=_
 rw[FF [01]]
section
variable {P:Gy}{w:Hf}{K:FC}{h:Ho}{A:Fx FG}
def mx (hb:b∈A) (hk:K.lookup b=FM) (e:h.get? b=FB o):hU K h A b=EZ o:=by
 unfold hU;rw[FI hb,hk,FI (show(FM:FP Jp).isNone=FS from Go),e]<;>rfl
def El (q:hU K h A b=FB u):b∈A/\K.lookup b=FM:=by
 unfold hU at q;by_cases hb:b∈A
 .rw[FI hb] at q
  cases hk:K.lookup b with
  |none=>exact#[hb,Go]
  |some o=>
   rw[hk,FF (by simp)] at q;cases q
 .rw[FF hb] at q
  cases q
def mD (ar: ∀a∈A,iq h A a) (q:hU K h A b=FB u):K.lookup b=FM/\ ∃vs:Fx FE,vs.length<=GD/\(∀u∈vs,Ab A u)/\
  ((h.get? b=FB { cls:= .type "list",data:= .seq vs.toArray } /\u= .Ri { cls:= .type "list",data:= .seq vs.toArray } (.lst (vs.map tW)))\/
    (h.get? b=FB { cls:= .type "tuple",data:= .seq vs.toArray } /\u= .Ri { cls:= .type "tuple",data:= .seq vs.toArray } (.tup (vs.map tW)))):=by
 obtain⟨hb,hk⟩:=El q;obtain⟨vs,h1,h2,h3⟩:=ar b hb;refine#[hk,vs,h1,h2,?_];rcases h3 with e|e
 .rw[mx hb hk e,sO] at q
  exact .inl #[e,(F4 q).symm]
 .rw[mx hb hk e,ur] at q
  exact .inr #[e,(F4 q).symm]
def ym (ar: ∀a∈A,iq h A a):tN (hU K h A):=λb=>by
 cases q:hU K h A b with
 |none=>exact .inl Go
 |some u=>
  obtain⟨_,vs,_,_,⟨_,e⟩|⟨_,e⟩⟩:=mD ar q
  .exact .inr #[_,_,by rw[e]]
  .exact .inr #[_,_,by rw[e]]
def EH (ar: ∀a∈A,iq h A a):hJ P w (hU K h A) h:=λb u q=>by
 obtain⟨_,vs,h1,h2,⟨e,rfl⟩|⟨e,rfl⟩⟩:=mD ar q
 .exact#[e,by rw[FT];exact h1,vs,_,gR h2,e]
 .exact#[e,by rw[FT];exact h1,vs,gR h2,_,e,Go,_,Go]
def mB {c c':FE}{vs us:Fx FE}(e:(FB { cls:=c,data:= .seq vs.toArray } :FP Jp)=FB { cls:=c',data:= .seq us.toArray }):c=c'/\vs=us:=by
 have e1:=F4 e
 have e2:c=c':=GO Jp.cls e1
 have e3:UU vs.toArray=UU us.toArray:=GO Jp.data e1;injection e3 with e4;refine#[e2,?_]
 have e5:=GO Tb e4
 simpa using e5
def ajE (KX:K.In h) (ar: ∀a∈A,iq h A a) {a:FG}{vs:Fx FE}(ha:a∈A) (e:h.get? a=FB { cls:= .type "list",data:= .seq vs.toArray }):(∀u∈vs,Ab A u)/\cD K (hU K h A) a (vs.map tW):=by
 obtain⟨us,h1,h2,h3⟩:=ar a ha;have hu:us=vs:=by
  rcases h3 with q|q
  .rw[e] at q
   exact(mB q).2.symm
  .rw[e] at q
   exact F6 (UW (mB q).1) [01]
 subst hu;refine#[h2,?_];cases hk:K.lookup a with
 |none=>exact .inl (.inr #[_,by rw[mx ha hk e,sO]])
 |some o=>
  have e2:=KX a o hk;rw[e] at e2;obtain rfl:=F4 e2;exact .inr #[_,us.toArray,_,hk,Go,Go,Go,by rw[Hd];exact h1,by simpa using gR h2]
def ajF (KX:K.In h) (ar: ∀a∈A,iq h A a) {a:FG}{vs:Fx FE}(ha:a∈A) (e:h.get? a=FB { cls:= .type "tuple",data:= .seq vs.toArray }):(∀u∈vs,Ab A u)/\qQ K (hU K h A) a (vs.map tW):=by
 obtain⟨us,h1,h2,h3⟩:=ar a ha;have hu:us=vs:=by
  rcases h3 with q|q
  .rw[e] at q
   exact F6 (UW (mB q).1) [01]
  .rw[e] at q
   exact(mB q).2.symm
 subst hu;refine#[h2,?_];cases hk:K.lookup a with
 |none=>exact .inl (.inr #[_,by rw[mx ha hk e,ur]])
 |some o=>
  have e2:=KX a o hk;rw[e] at e2;obtain rfl:=F4 e2;exact .inr #[_,us.toArray,_,hk,Go,Go,by rw[Hd];exact h1,by simpa using gR h2]
mutual
theorem ZQ {Pm:Params}(KX:K.In h) (ar: ∀a∈A,iq h A a): ∀(d:WData) (v:FE),Well Pm h v d->wZ d=FS->Ab A v->Dw K (hU K h A) (tW v) d
 | .none,_,x,_,_=>by
  cases x;exact .Jm
 | .bool b,_,x,_,_=>by
  cases x;exact .bl b
 | .int i,_,x,_,_=>by
  cases x;exact .int i
 | .str s,_,x,_,_=>by
  cases x;exact .str s
 | .bytes b,_,x,_,_=>by
  cases x;have z:=Dw.Tc (K:=K) (H:=hU K h A) b.toArray;exact z
 | .list ds,_,x,p,hu=>by
  obtain⟨a,vs,rfl,ho,Qu⟩:=pT x;obtain⟨h2,hs⟩:=ajE KX ar hu ho;exact .lst hs (rD KX ar ds _ Qu p h2)
 | .tuple ds,_,x,p,hu=>by
  obtain⟨a,vs,rfl,ho,Qu⟩:=oG x;obtain⟨h2,hs⟩:=ajF KX ar hu ho;exact .tup hs (rD KX ar ds _ Qu p h2)
 | .float _,_,_,p,_=>HN (show Gc=FS from p)
 | .dict _,_,_,p,_=>HN (show Gc=FS from p)
 | .bytearray _,_,_,p,_=>HN (show Gc=FS from p)
 | .set _,_,_,p,_=>HN (show Gc=FS from p)
 | .frozenset _,_,_,p,_=>HN (show Gc=FS from p)
 | .obj _ _,_,_,p,_=>HN (show Gc=FS from p)
theorem rD (KX:K.In h) (ar: ∀a∈A,iq h A a): ∀(ds:Fx WData) (vs:Fx FE),WellAll Pm h vs ds->mv ds=FS->(∀u∈vs,Ab A u)->ik K (hU K h A) (vs.map tW) ds
 |[],_,x,_,_=>by
  cases x;exact .nil
 |d::ds,_,x,p,hu=>by
  obtain⟨v,vs,rfl,x1,x2⟩:=pN x;have q:wZ d=FS/\mv ds=FS:=UK.mp p;exact .cons (ZQ KX ar d v x1 q.1 (hu _ (FL ..))) (rD KX ar ds vs x2 q.2 λu m=>hu u (FK _ m))
end
end
def yF {P:Gy}{w:Hf}{K:FC}{mg mb:Gf->FP FE}{CX:qG}{k:FX}{fa:FG}{fd:GQ}{ps:Fx Gf}{sp:Sp}{s₁:FJ}{vals:Fx FE}{ds:Fx WData}{R:Vn}{cl:Gf->FP FG}{d0:WData}
  (KX:K.In s₁.heap) (hns:s₁.heap.Ns JI mg) (hb:s₁.heap.Ns Zw mb) (hbb: ∀x:Gf,x≠"__name__"->mb x=LC x) (ajG:s₁.heap.NoLimit) (hg:s₁.gens= [].toArray)
  (hwl:WellAll w.params s₁.heap vals ds) (Ng:mv ds=FS) (hwt: ∀d∈ds,d.weight<=1048576) (hr:bZ k TQ)
  (F: ∀base:Ho,K.In base->base.Ns JI mg->bW P w K mg base CX k fa fd ps sp) (acj: ∀(s:FJ) (us:Fx FE),us.length=ps.length->TN s fd #[us,[]] [019]) (NX:ds.length=ps.length)
  (Uq: ∀(H:Hp) (xs:Fx V),tN H->ik K H xs ds->sp xs H (λv H'=>Dw K H' v d0) λ_ _ _=>False)
  (hCX: ∀H e s',CX [] H s₁ (λ_ _ _=>False) e s'->False):
  LX (model P w) TQ (.call (.ref fa) #[vals,[]]) (λr s'=> ∃u as,r= .ok (.ret u)/\ReadsW R cl s'.heap u d0 as/\OldK s₁.heap s'.heap/\s'.os=s₁.os/\QJ s'.gens) s₁:=by
 obtain⟨A,ho,ar⟩:=j3 ds vals hwl Ng hwt;have hO:tN (hU K s₁.heap A):=ym ar;have IQ:hJ P w (hU K s₁.heap A) s₁.heap:=EH ar;have hS:=rD KX ar ds vals hwl Ng ho;have hV:=gR ho;have hK: ∀b u,hU K s₁.heap A b=FB u->K.lookup b=FM:=λb u q=>(mD ar q).1
 have noA: ∀ {b:FG}{o:Jp}{es:JN OT}{ep:FX},s₁.heap.get? b=FB o->o.data= .dict es ep->hU K s₁.heap A b=FM:=λ{b o es ep} e d=>by
  cases q:hU K s₁.heap A b with
  |none=>rfl
  |some u=>
   obtain⟨_,vs,_,_,⟨e2,_⟩|⟨e2,_⟩⟩:=mD ar q
   .rw[e2] at e
    cases e;have d':UU vs.toArray _=Data.dict es ep:=d;cases d'
   .rw[e2] at e
    cases e;have d':UU vs.toArray _=Data.dict es ep:=d;cases d'
 generalize hU K s₁.heap A=H at hO IQ hS hK noA;have UX: ∀ {b:FG}{o:Jp},s₁.heap.get? b=FB o->H b=FM->(qP s₁.heap H).get? b=FB o:=λe n=>CP e n
 have VX: ∀ {b:FG}{m:Gf->FP FE},s₁.heap.Ns b m->(qP s₁.heap H).Ns b m:=λ{b m} ⟨o,es,ep,e,d,r⟩=>#[o,es,ep,UX e (noA e d),d,r]
 have nK: ∀b o,K.lookup b=FB o->H b=FM:=λb o e=>by
  cases q:H b with
  |none=>rfl
  |some u=>
   rw[hK b u q] at e;cases e
 have hKb:K.In (qP s₁.heap H):=λb o e=>UX (KX b o e) (nK b o e)
 have hM:Mod K mg (qP s₁.heap H):=#[hKb,VX hns,#[mb,VX hb,hbb],let ⟨mc,h1,h2⟩:=ajG;#[mc,VX h1,h2]]
 have e0:wC P w K mg (qP s₁.heap H) TQ [] s₁ H:=#[Go,hM,λb o e=>Ec e,KH (Ac _ _),trivial,λb hb=>F6 (show b∈([]:Fx FG) from hb) (by simp),IQ, .of_eq hg]
 have hl:vals.length=ps.length:=by rw[gn hwl];exact NX
 refine NH ((F _ hKb (VX hns)).run TQ [] s₁ H #[vals,[]] vals (vals.map tW) _ _ hr e0 (acj s₁ vals hl) hV (Uq H _ hO hS)) λr s' x=>?_;cases r with
 |error e=>exact(hCX H e s' x).elim
 |ok fl=>
  cases fl with
  |next=>exact Jk x
  |brk=>exact Jk x
  |cont=>exact Jk x
  |ret u=>
   obtain⟨v,H',os,bare,un,ack,r',q⟩:=x;have kept: ∀b o,s₁.heap.get? b=FB o->s'.heap.get? b=FB o:=λb o e=>by
    cases q2:H b with
    |none=>exact un.keep b o e q2 (by intro z;exact F6 (show b∈([]:Fx FG) from z) (by simp)) (by simp)
    |some u2=>
     rcases hO b with z|⟨ob,u3,z⟩
     .rw[q2] at z
      cases z
     .have z2:=un.Q5 b ob _ z
      obtain⟨e1,_⟩:=IQ b _ z;obtain⟨e2,_⟩:=ack b _ z2;rw[e] at e1;cases e1;exact e2
   have KX':K.In s'.heap:=λb o e=>kept b o (KX b o e)
   obtain⟨as,hrd⟩:=Dw.reads (R:=R) (cl:=cl) ack KX' d0 v u q r';exact#[u,as,Go,hrd,OldK.of_keep kept,os,bare]
def oH (h:WData.layableAll ds=FS): ∀d∈ds,d.weight<=1048576:=λd hd=>
 (PySem.W.layableW_iff.mp (Mq.mp h d hd)).2.2
theorem mS: ∀(cs:Fx Codec) (a:Codec.denoteAll cs),(Codec.encAll cs a).length=cs.length
 |[],_=>rfl
 |c::cs,a=>by
  show(Codec.encAll cs a.2).length+1=cs.length+1
  rw[mS cs a.2]
def yZ {XP:(Gf->FP FE)->Ho->Prop}{YP:Hf->Ho->Prop}{K:Params->FC}{CX:Hf->qG}{sp:Hf->Sp}
  (Wn:r.wellSaid=FS) (hdf:d.params.defaults=[]) (NX:r.args.length=ps.length) (hr:bZ k TQ)
  (hY: ∀(w:Hf) (h:Ho),YP w h->(K w.params).In h)
  (F: ∀(w:Hf) (mg:Gf->FP FE) (fa:FG) (h:Ho),YP w h->(K w.params).In h->h.Ns JI mg->mg d.name=FB (.ref fa)->
   ∃fd:GQ,(∀(s:FJ) (us:Fx FE),us.length=ps.length->TN s fd #[us,[]] [019])/\
    ∀base:Ho,(K w.params).In base->base.Ns JI mg->bW r.prog w (K w.params) mg base (CX w) k fa fd ps (sp w))
  (Uq: ∀(w:Hf) (H:Hp) (xs:Fx V) (a:Codec.denoteAll r.args),tN H->Codec.withinAll r.args a=FS->Codec.app r.args r.asked a=FS->ik (K w.params) H xs (Codec.encAll r.args a)->
   sp w xs H (λv H'=>Dw (K w.params) H' v (r.ret.enc (Codec.app r.args r.f a))) λ_ _ _=>False)
  (hCX: ∀(w:Hf) (H:Hp) (s:FJ) (e:FE) (s':FJ),CX w [] H s (λ_ _ _=>False) e s'->False):
  Wg q loose XP YP r d [] (λf vs=>PySem.call f vs):=by
 intro w Ql s₁ mg mb G Y fa o pm cd doc dV kV ho hd Td hD hmg hg args vals as ajH ajI hrd hwl hlo;obtain⟨a,e1,e2⟩:=PySem.W.os_pre_some ajH;obtain⟨e3,hwi⟩:=Codec.encAll_of_decAll r.args args a e1;subst e3;have KX:=hY w _ Y;obtain⟨fd,hb,hF⟩:=F w mg fa _ Y KX G.T.g hmg;refine PySem.W.enter_call (NH (yF (R:=[]) (cl:=classAt Ql.heap) (d0:=r.ret.enc (Codec.app r.args r.f a)) KX G.T.g G.T.b G.T.builtins G.T.nolimit hg hwl (pK _ _) (oH ajI) hr hF hb (by rw[mS];exact NX)
  (λH xs hO hS=>Uq w H xs a hO hwi e2 hS) λH e s'=>hCX w H s₁ e s') λr' s' hq=>?_)
 obtain⟨u,as',rfl,h1,h2,h3,h4⟩:=hq;exact#[.inl #[u,_,as',Go,λ_=>rfl,h1,(OpenSpec.post_iff Wn hwi _ _).mpr Go,λz=>HN (show Gc=FS from z)],h2,h3,h4]
def vq {XP:(Gf->FP FE)->Ho->Prop}{YP:Hf->Ho->Prop}{K:Params->FC}{CX:qG}{sp:FC->Sp}
  (Wn:r.wellSaid=FS) (hdf:d.params.defaults=[]) (NX:r.args.length=ps.length) (hr:bZ k TQ)
  (hY: ∀(w:Hf) (h:Ho),YP w h->(K w.params).In h)
  (F: ∀(w:Hf) (mg:Gf->FP FE) (fa:FG) (h:Ho),YP w h->(K w.params).In h->h.Ns JI mg->mg d.name=FB (.ref fa)->
   ∃fd:GQ,(∀(s:FJ) (us:Fx FE),us.length=ps.length->TN s fd #[us,[]] [019])/\
    ∀base:Ho,(K w.params).In base->base.Ns JI mg->bW r.prog w (K w.params) mg base CX k fa fd ps (sp (K w.params)))
  (Uq: ∀(K:FC) (H:Hp) (xs:Fx V) (a:Codec.denoteAll r.args),tN H->Codec.withinAll r.args a=FS->Codec.app r.args r.asked a=FS->ik K H xs (Codec.encAll r.args a)->
   sp K xs H (λv H'=>Dw K H' v (r.ret.enc (Codec.app r.args r.f a))) λ_ _ _=>False)
  (hCX: ∀(H:Hp) (s:FJ) (e:FE) (s':FJ),CX [] H s (λ_ _ _=>False) e s'->False):
  Wg q loose XP YP r d [] (λf vs=>PySem.call f vs):=
 yZ (K:=K) (CX:=λ_=>CX) (sp:=λw=>sp (K w.params)) Wn hdf NX hr hY F (λw H xs a h1 h2 h3 h4=>Uq (K w.params) H xs a h1 h2 h3 h4) λ_ H s e s'=>hCX H s e s'
end L2
end
namespace OS
open PySem
abbrev db:Fx FE:=[.type "Exception", .type "BaseException", .type "object"]
end OS
namespace OS
open PySem PySem.Spec L2
open PyProof.Rows hiding St
def cZ:Fx Gf:=["__getattribute__","__getattr__","__setattr__","number","kind","line","column"]
def XO (h:Ho) (C N:FG) (bm:Fx FE):Prop:= ∃(nm q:Gf) (bs:Fx FE) (sn:Fx Gf) (sub:Fx FE) (ab:GP) (col:FP GP) (dd:FP FG) (k0 k1 k2 k3 k5:FP FE),h.get? C=FB (IU nm q C N bs bm FS sn sub ab col dd k0 k1 k2 k3 k5 "Exception.__new__")
def XAt (h:Ho) (R C fI:FG):Prop:= ∃(N:FG) (mN:Gf->FP FE) (oI:Jp) (NR:FG) (mR:Gf->FP FE),XO h C N (.ref R::db)/\h.Ns N mN/\mN "__init__"=FB (.ref fI)/\(∀n∈cZ,mN n=FM)/\h.get? fI=FB oI/\oI.cls= .type "function"/\
 XO h R NR db/\h.Ns NR mR/\ ∀n∈cZ,mR n=FM
structure dq (K:FC) (R C fI:FG):Prop where
 at_: ∀h:Ho,K.In h->XAt h R C fI
 kp:Je K (.ref C)=FS
end OS
namespace OS
open Vbemac
open PySem (Str)
def sb (w:GK):Gf:=#[(w.map NG).toArray]
def ZR:Gf:=#[[47,114,101,115,116].toArray]
def dJ (s:GK):Gf:=if s=[37] then ZR else sb s
end OS
namespace OS
open PySem PySem.Spec L2
open PyProof.Rows hiding St
def pF (K:FC) (a:FG) (xs:Fx V):Prop:= ∃(o:Jp) (Il:JN FE) (n:FX),K.lookup a=FB o/\o.cls= .type "tuple"/\o.data= .seq Il n/\Il.size<=GD/\a8 xs Il.toList
structure Ao (P:Gy) (w:Hf) (K:FC) (a:FG) (aD:Fx (Fx be×V)):Prop where
 at_: ∃xs:Fx (Fx be×FG×FE),(∀h:Ho,K.In h->h.DictOfH (N0 (aX P w)) a xs)/\Paired (λ(p:Fx be×V) (q:Fx be×FG×FE)=>p.1=q.1/\bo p.2 q.2.2) aD xs
 no:(a == Jb)=Gc
structure zP (K:FC) (C:FG):Prop where
 cl:gT K C
 ha:Iu K (.ref C) "__class__"=FB (FB (.builtin "object.__class__"))
 hn:PK K (.builtin "object.__class__") "__get__"=FB (FB (.builtin "getset_descriptor.__get__"))
 htk:VS K (.builtin "object.__class__")=FB FS
 hm:W6 K C (.type "object")=FB FS
def tp (i:FX):Stmt:=PySem.Challenge.pw_ordersheets_s04_curve.main.body.getD i (.Pass #[0,0,0,0])
abbrev acm:Stmt:=aB (tp 4) 0
abbrev acn:Stmt:=aB (tp 5) 0
abbrev aco:Stmt:=aB (tp 6) 0
abbrev acp:Stmt:=aB (tp 7) 0
abbrev acq:Stmt:=aB (tp 8) 0
abbrev acr:Stmt:=aB (tp 9) 0
abbrev acs:Stmt:=aB (tp 10) 0
abbrev acu:Stmt:=aB (tp 11) 0
abbrev acv:Stmt:=aB (tp 12) 0
abbrev acw:Stmt:=aB (tp 13) 0
abbrev acx:Stmt:=aB (tp 14) 0
abbrev acy:Stmt:=aB (tp 15) 0
abbrev acz:Stmt:=aB (tp 16) 0
abbrev acA:Stmt:=aB (tp 17) 0
abbrev acB:Stmt:=aB (tp 18) 0
abbrev acC:Stmt:=aB (tp 19) 0
abbrev acD:Stmt:=aB (tp 23) 0
abbrev acE:Stmt:=aB (tp 24) 0
abbrev s_O:Stmt:=tp 25
abbrev s_h:Stmt:=tp 26
abbrev s_D:Stmt:=tp 27
abbrev s_E:Stmt:=tp 28
abbrev s_P:Stmt:=tp 29
abbrev s_Q:Stmt:=tp 30
abbrev s_l:Stmt:=aB (tp 32) 0
abbrev acF:Stmt:=aB (tp 33) 0
abbrev s_6:Stmt:=aB (tp 34) 0
abbrev acG:Stmt:=aB (tp 35) 0
abbrev s_R:Stmt:=aB (tp 36) 0
abbrev s_S:Stmt:=aB (tp 37) 0
abbrev acH:Stmt:=aB (tp 38) 0
abbrev acI:Stmt:=aB (tp 39) 0
abbrev acJ:Stmt:=aB (tp 40) 0
abbrev acK:Stmt:=aB (tp 41) 0
abbrev s_T:Stmt:=tp 44
abbrev s_U:Stmt:=tp 45
abbrev s_V:Stmt:=tp 46
abbrev acL:Stmt:=tp 47
abbrev acM:Stmt:=tp 48
abbrev acN:Stmt:=tp 49
abbrev s_W:Stmt:=tp 50
abbrev acO:Stmt:=aB (tp 53) 0
abbrev acP:Stmt:=aB (tp 54) 0
abbrev acQ:Stmt:=aB (tp 54) 1
abbrev acR:Stmt:=aB (tp 54) 2
abbrev acS:Stmt:=aB (tp 54) 3
abbrev acT:Stmt:=aB (tp 54) 4
abbrev acU:Stmt:=aB (tp 54) 5
abbrev acV:Stmt:=aB (tp 54) 6
abbrev s_7:Stmt:=tp 55
abbrev s_8:Stmt:=tp 56
abbrev s_9:Stmt:=tp 57
abbrev acW:Stmt:=tp 58
abbrev acX:Stmt:=tp 59
abbrev acY:Stmt:=tp 60
abbrev acZ:Stmt:=tp 61
abbrev s_x:Stmt:=tp 62
abbrev ac0:Stmt:=tp 63
abbrev ac1:Stmt:=tp 64
abbrev ac2:Stmt:=tp 65
abbrev ac3:Stmt:=aB (tp 71) 0
abbrev ac4:Stmt:=aB (tp 72) 0
abbrev s_X:Stmt:=tp 73
abbrev ac5:Stmt:=tp 74
abbrev s_y:Stmt:=tp 75
abbrev s_m:Stmt:=tp 76
abbrev s_Y:Stmt:=tp 77
abbrev s_z:Stmt:=tp 78
abbrev s_F:Stmt:=tp 79
abbrev ac6:Stmt:=tp 80
abbrev ac7:Stmt:=tp 81
abbrev s_Z:Stmt:=tp 82
abbrev ac8:Stmt:=tp 83
abbrev s_G:Stmt:=tp 84
abbrev ac9:Stmt:=tp 85
abbrev ada:Stmt:=tp 86
abbrev s_H:Stmt:=aB (tp 100) 0
abbrev s_f:Stmt:=tp 101
abbrev s_i:Stmt:=tp 102
abbrev s_I:Stmt:=tp 103
abbrev s_J:Stmt:=tp 104
abbrev s_K:Stmt:=tp 105
abbrev s_L:Stmt:=tp 106
abbrev s_M:Stmt:=tp 107
abbrev s_s:Stmt:=tp 108
abbrev s_t:Stmt:=tp 109
abbrev s_j:Stmt:=tp 110
abbrev adb:Stmt:=aB (tp 121) 0
abbrev s_a:Stmt:=aB (tp 121) 1
abbrev s_b:Stmt:=aB (tp 121) 2
abbrev s_q:Stmt:=aB (tp 121) 3
abbrev ade:Stmt:=aB (tp 121) 4
abbrev adf:Stmt:=aB (tp 121) 5
abbrev s_1:Stmt:=aB (tp 121) 6
abbrev adg:Stmt:=aB (tp 121) 7
abbrev s_u:Stmt:=aB (tp 121) 8
abbrev adh:Stmt:=aB (tp 121) 9
abbrev adi:Stmt:=aB (tp 121) 10
abbrev s_A:Stmt:=aB (tp 121) 11
abbrev adj:Stmt:=aB (tp 121) 12
abbrev adk:Stmt:=aB (tp 121) 13
abbrev adl:Stmt:=aB (tp 121) 14
abbrev adm:Stmt:=aB (tp 121) 15
abbrev s_g:Stmt:=tp 125
abbrev s_c:Stmt:=tp 126
abbrev adn:Stmt:=tp 127
abbrev s_w:Stmt:=tp 128
abbrev s_n:Stmt:=tp 129
abbrev ado:Stmt:=tp 130
abbrev adp:Stmt:=tp 131
abbrev adq:Stmt:=tp 132
abbrev s_2:Stmt:=tp 133
abbrev ads:Stmt:=tp 134
abbrev s_k:Stmt:=tp 139
abbrev adt:Stmt:=tp 140
abbrev adu:Stmt:=tp 141
abbrev s_r:Stmt:=tp 142
abbrev adv:Stmt:=tp 143
abbrev adw:Stmt:=tp 144
abbrev adx:Stmt:=tp 145
abbrev ady:Stmt:=tp 146
abbrev s_o:Stmt:=tp 147
abbrev adz:Stmt:=tp 148
abbrev s_3:Stmt:=tp 149
abbrev adA:Stmt:=tp 150
abbrev adB:Stmt:=tp 151
abbrev adC:Stmt:=tp 152
abbrev adD:Stmt:=tp 153
abbrev s_p:Stmt:=tp 154
abbrev s_B:Stmt:=tp 155
abbrev s_4:Stmt:=tp 156
abbrev s_5:Stmt:=tp 157
abbrev adE:Stmt:=tp 158
abbrev adF:Stmt:=tp 159
abbrev s_N:Stmt:=tp 165
abbrev s_C:Stmt:=tp 166
abbrev adG:Stmt:=tp 167
abbrev s_e:Stmt:=tp 168
abbrev adH:Stmt:=tp 169
abbrev s_d:Stmt:=tp 170
set_option genInjectivity false in
structure bi where
 (adI adJ adK adL adM adN adO adP adQ adR adS adT adU adV adW adX adY adZ f_O f_h f_D f_E f_P f_Q f_l ZT f_6 ZU f_R f_S ZV ZW ZX ZY f_T f_U f_V ajJ ajK ajL f_W ad0 ad1 ajM ajN ajO ajP ajQ ajR f_7 f_8 f_9 ad2 ad3 ad4 ajS f_x ad5 ad6 ad7 ad8 ad9 f_X ajT f_y f_m f_Y f_z f_F ajU ajV f_Z ajW f_G ajX ajY f_H f_f f_i f_I f_J f_K f_L f_M f_s f_t f_j aea f_a f_b f_q ajZ aj0 f_1 aj1 f_u aj2 aj3 f_A aj4 aj5 aj6 aj7 f_g f_c aj8 f_w f_n aj9 aka akb f_2 akc f_k akd ake f_r akf akg akh aki f_o akj f_3 akk akl akm akn f_p f_B f_4 f_5 ako akp f_N f_C akq f_e akr f_d Mj Oz N8 Ll Kd KU OA Ml NL Q6 Lw Lz J2 MN O4 N9 HF Ie Hu Mm Im Lf JW Lx K3 K4 JX L8 MV HY Ky GV JF GY Te Kv QN HA IK:FG)
 (aeb aec aed aee aef aeg aeh aei aej aek ael aem aen aeo aep aeq aer aes aks akt aku akv akw akx aky aet akz aeu akA akB aev aew aex aey akC akD akE aez aeA aeB akF aeC aeD aeE aeF aeG aeH aeI aeJ aeK aeL aeM Yp Yq Yr aeN akG Ys Yt Yu aeO aeP akH aeQ akI akJ akK akL akM aeR aeS akN aeT akO aeU aeV akP akQ akR akS akT akU akV akW akX akY akZ aeW ak0 ak1 ak2 aeX aeY ak3 aeZ ak4 ae0 ae1 ak5 ae2 ae3 ae4 ae5 ak6 ae6 ae7 ak7 ak8 ae8 ae9 afa ak9 afb ala afc afd alb afe aff afg afh alc afi afj afk afl afm afn ald ale afo afp afq afr alf alg afs alh aft Wo:GQ)
structure cF (K:FC) (mg:Gf->FP FE) (n:Gf) (st:Stmt) (ps:Fx Gf) (f:FG) (fd:GQ):Prop where
 F:o9 K n n st f fd
 c:CD K mg n f fd ps
structure eu (K:FC) (C:FG) (n q:Gf) (st:Stmt) (ps:Fx Gf) (f:FG) (fd:GQ):Prop where
 F:o9 K n q st f fd
 c:MD K C n f fd ps
structure aV (K:FC) (mg:Gf->FP FE) (a:bi):Prop where
 R8:mg "Number"=FB (.ref a.Mj)
 UY:mg "Name"=FB (.ref a.Oz)
 UZ:mg "Call"=FB (.ref a.N8)
 Tf:mg "Unary"=FB (.ref a.Ll)
 Tg:mg "Chain"=FB (.ref a.Kd)
 R9:mg "Choice"=FB (.ref a.KU)
 ZZ:mg "Sum"=FB (.ref a.OA)
 Ur:mg "Let"=FB (.ref a.Ml)
 Wq:mg "For"=FB (.ref a.NL)
 Yv:mg "If"=FB (.ref a.Q6)
 U1:mg "Step"=FB (.ref a.Lw)
 Us:mg "Amounts"=FB (.ref a.Lz)
 Wr:mg "Block"=FB (.ref a.J2)
 Th:mg "Const"=FB (.ref a.MN)
 Ws:mg "Fun"=FB (.ref a.O4)
 U2:mg "Desk"=FB (.ref a.N9)
 PN:mg "StepOrder"=FB (.ref a.HF)
 RL:mg "BlockOrder"=FB (.ref a.Ie)
 Ig:mg "Refusal"=FB (.ref a.Hu)
 PQ:mg "NotAsTold"=FB (.ref a.Mm)
 Rl:mg "Fault"=FB (.ref a.Im)
 OB:mg "NoSuchPlace"=FB (.ref a.Lf)
 NM:mg "DivisorIsZero"=FB (.ref a.JW)
 QO:mg "TooGreat"=FB (.ref a.Lx)
 O5:mg "NoStepLeft"=FB (.ref a.K3)
 O6:mg "OutOfRange"=FB (.ref a.K4)
 NN:mg "TooManyOrders"=FB (.ref a.JX)
 QP:mg "NoParent"=FB (.ref a.L8)
 Xq:mg "Task"=FB (.ref a.MV)
 Vr:mg "Worker"=FB (.ref a.HY)
 Vs:mg "Market"=FB (.ref a.Ky)
 Sq:mg "Expansion"=FB (.ref a.GV)
 Ti:mg "Token"=FB (.ref a.JF)
 Vt:mg "Reader"=FB (.ref a.GY)
 afu:eu K a.Mj "__init__" "Number.__init__" acm ["self","worth"] a.adI a.aeb
 afv:eu K a.Oz "__init__" "Name.__init__" acn ["self","name"] a.adJ a.aec
 afw:eu K a.N8 "__init__" "Call.__init__" aco ["self","name","arguments"] a.adK a.aed
 afx:eu K a.Ll "__init__" "Unary.__init__" acp ["self","sign","operand"] a.adL a.aee
 afy:eu K a.Kd "__init__" "Chain.__init__" acq ["self","strength","operands","signs"] a.adM a.aef
 afz:eu K a.KU "__init__" "Choice.__init__" acr ["self","condition","chosen","otherwise"] a.adN a.aeg
 afA:eu K a.OA "__init__" "Sum.__init__" acs ["self","name","first","last","body"] a.adO a.aeh
 afB:eu K a.Ml "__init__" "Let.__init__" acu ["self","name","exp"] a.adP a.aei
 afC:eu K a.NL "__init__" "For.__init__" acv ["self","name","first","last","statements"] a.adQ a.aej
 afD:eu K a.Q6 "__init__" "If.__init__" acw ["self","condition","statements","else_statements"] a.adR a.aek
 afE:eu K a.Lw "__init__" "Step.__init__" acx ["self","side","zone","quarter","price","to_price","amount"] a.adS a.ael
 afF:eu K a.Lz "__init__" "Amounts.__init__" acy ["self","name","exp"] a.adT a.aem
 afG:eu K a.J2 "__init__" "Block.__init__" acz ["self","name","side","zone","price","amounts","under","group"] a.adU a.aen
 afH:eu K a.MN "__init__" "Const.__init__" acA ["self","name","exp"] a.adV a.aeo
 afI:eu K a.O4 "__init__" "Fun.__init__" acB ["self","name","parameters","exp"] a.adW a.aep
 afJ:eu K a.N9 "__init__" "Desk.__init__" acC ["self","name","statements"] a.adX a.aeq
 afK:eu K a.HF "__init__" "StepOrder.__init__" acD ["self","desk","zone","quarter","side","low","high","amount"] a.adY a.aer
 afL:eu K a.Ie "__init__" "BlockOrder.__init__" acE ["self","desk","zone","side","price","group","parent","amounts"] a.adZ a.aes
 d_O:cF K mg "side_number" s_O ["word"] a.f_O a.aks
 d_h:cF K mg "steps_of" s_h ["orders","zone","quarter","side"] a.f_h a.akt
 d_D:cF K mg "supply" s_D ["orders","zone","quarter","price"] a.f_D a.aku
 d_E:cF K mg "demand" s_E ["orders","zone","quarter","price"] a.f_E a.akv
 d_P:cF K mg "offered" s_P ["step","price"] a.f_P a.akw
 d_Q:cF K mg "wanted" s_Q ["step","price"] a.f_Q a.akx
 Wt:eu K a.Hu "__init__" "Refusal.__init__" s_l ["self","number"] a.f_l a.aky
 Z0:eu K a.Mm "__init__" "NotAsTold.__init__" acF ["self"] a.ZT a.aet
 d_6:eu K a.Im "__init__" "Fault.__init__" s_6 ["self","kind","line","column"] a.f_6 a.akz
 Z1:eu K a.Lf "__init__" "NoSuchPlace.__init__" acG ["self"] a.ZU a.aeu
 d_R:eu K a.JW "__init__" "DivisorIsZero.__init__" s_R ["self"] a.f_R a.akA
 d_S:eu K a.Lx "__init__" "TooGreat.__init__" s_S ["self"] a.f_S a.akB
 Z2:eu K a.K3 "__init__" "NoStepLeft.__init__" acH ["self"] a.ZV a.aev
 Z3:eu K a.K4 "__init__" "OutOfRange.__init__" acI ["self"] a.ZW a.aew
 Z4:eu K a.JX "__init__" "TooManyOrders.__init__" acJ ["self"] a.ZX a.aex
 Z5:eu K a.L8 "__init__" "NoParent.__init__" acK ["self"] a.ZY a.aey
 d_T:cF K mg "has_result" s_T ["sign","right"] a.f_T a.akC
 d_U:cF K mg "sign_result" s_U ["sign","left","right"] a.f_U a.akD
 d_V:cF K mg "is_so" s_V ["sign","left","right"] a.f_V a.akE
 Z6:cF K mg "unary_result" acL ["sign","number"] a.ajJ a.aez
 Z7:cF K mg "function_result" acM ["name","numbers"] a.ajK a.aeA
 Z8:cF K mg "decides" acN ["strength","number"] a.ajL a.aeB
 d_W:cF K mg "decided_value" s_W ["strength"] a.f_W a.akF
 Z9:eu K a.MV "__init__" "Task.__init__" acO ["self","exp"] a.ad0 a.aeC
 aaa:eu K a.HY "__init__" "Worker.__init__" acP ["self"] a.ad1 a.aeD
 Wu:eu K a.HY "take_step" "Worker.take_step" acQ ["self"] a.ajM a.aeE
 Xr:eu K a.HY "set_value" "Worker.set_value" acR ["self","name","value"] a.ajN a.aeF
 aab:eu K a.HY "value_of" "Worker.value_of" acS ["self","name"] a.ajO a.aeG
 Xs:eu K a.HY "begin" "Worker.begin" acT ["self","exp"] a.ajP a.aeH
 aac:eu K a.HY "finish" "Worker.finish" acU ["self","value"] a.ajQ a.aeI
 aad:eu K a.HY "work_out" "Worker.work_out" acV ["self","exp"] a.ajR a.aeJ
 d_7:cF K mg "go_on" s_7 ["worker","exp","parts"] a.f_7 a.aeK
 d_8:cF K mg "go_on_call" s_8 ["worker","call","parts"] a.f_8 a.aeL
 d_9:cF K mg "go_on_unary" s_9 ["worker","unary","parts"] a.f_9 a.aeM
 afM:cF K mg "go_on_chain" acW ["worker","chain","parts"] a.ad2 a.Yp
 afN:cF K mg "go_on_deciding" acX ["worker","chain","parts"] a.ad3 a.Yq
 afO:cF K mg "go_on_reckoning" acY ["worker","chain","parts"] a.ad4 a.Yr
 aae:cF K mg "checked_result" acZ ["sign","left","right"] a.ajS a.aeN
 d_x:cF K mg "not_too_great" s_x ["value"] a.f_x a.akG
 afP:cF K mg "go_on_choice" ac0 ["worker","choice","parts"] a.ad5 a.Ys
 afQ:cF K mg "go_on_sum" ac1 ["worker","summed","parts"] a.ad6 a.Yt
 afR:cF K mg "go_on_turns" ac2 ["worker","summed","parts"] a.ad7 a.Yu
 afS:eu K a.Ky "__init__" "Market.__init__" ac3 ["self","zones","quarters","low","high"] a.ad8 a.aeO
 aaf:eu K a.GV "__init__" "Expansion.__init__" ac4 ["self","market"] a.ad9 a.aeP
 d_X:cF K mg "expand_tops" s_X ["market","tops"] a.f_X a.akH
 aag:cF K mg "do_top" ac5 ["expansion","top"] a.ajT a.aeQ
 d_y:cF K mg "give_value" s_y ["worker","given"] a.f_y a.akI
 Xt:cF K mg "do_statements" s_m ["expansion","statements"] a.f_m a.akJ
 d_Y:cF K mg "do_statement" s_Y ["expansion","statement"] a.f_Y a.akK
 d_z:cF K mg "do_for" s_z ["expansion","loop"] a.f_z a.akL
 d_F:cF K mg "do_if" s_F ["expansion","condition"] a.f_F a.akM
 aah:cF K mg "need_range" ac6 ["number","least","most"] a.ajU a.aeR
 aai:cF K mg "do_step" ac7 ["expansion","step"] a.ajV a.aeS
 d_Z:cF K mg "add_order" s_Z ["expansion","order"] a.f_Z a.akN
 aaj:cF K mg "do_block" ac8 ["expansion","block"] a.ajW a.aeT
 d_G:cF K mg "work_out_amounts" s_G ["expansion","amounts"] a.f_G a.akO
 aak:cF K mg "parent_of" ac9 ["expansion","block"] a.ajX a.aeU
 aal:cF K mg "add_block" ada ["expansion","name","order"] a.ajY a.aeV
 d_H:eu K a.JF "__init__" "Token.__init__" s_H ["self","kind","value","line","column"] a.f_H a.akP
 d_f:cF K mg "is_digit" s_f ["byte"] a.f_f a.akQ
 d_i:cF K mg "is_letter" s_i ["byte"] a.f_i a.akR
 d_I:cF K mg "comment_end" s_I ["text","at"] a.f_I a.akS
 d_J:cF K mg "word_end" s_J ["text","at"] a.f_J a.akT
 d_K:cF K mg "digits_end" s_K ["text","at"] a.f_K a.akU
 d_L:cF K mg "token_end" s_L ["text","at"] a.f_L a.akV
 d_M:cF K mg "token_kind" s_M ["text","at","end"] a.f_M a.akW
 d_s:cF K mg "decimal_worth" s_s ["part"] a.f_s a.akX
 d_t:cF K mg "token_value" s_t ["kind","part"] a.f_t a.akY
 d_j:cF K mg "scan_text" s_j ["text"] a.f_j a.akZ
 aam:eu K a.GY "__init__" "Reader.__init__" adb ["self","tokens"] a.aea a.aeW
 Wv:eu K a.GY "current" "Reader.current" s_a ["self"] a.f_a a.ak0
 Ww:eu K a.GY "fail" "Reader.fail" s_b ["self","kind"] a.f_b a.ak1
 d_q:eu K a.GY "sees" "Reader.sees" s_q ["self","value"] a.f_q a.ak2
 aan:eu K a.GY "at_end" "Reader.at_end" ade ["self"] a.ajZ a.aeX
 aao:eu K a.GY "at_number" "Reader.at_number" adf ["self"] a.aj0 a.aeY
 d_1:eu K a.GY "at_name" "Reader.at_name" s_1 ["self"] a.f_1 a.ak3
 aap:eu K a.GY "number_follows" "Reader.number_follows" adg ["self"] a.aj1 a.aeZ
 d_u:eu K a.GY "take" "Reader.take" s_u ["self"] a.f_u a.ak4
 aaq:eu K a.GY "expect" "Reader.expect" adh ["self","value"] a.aj2 a.ae0
 aar:eu K a.GY "skips" "Reader.skips" adi ["self","value"] a.aj3 a.ae1
 d_A:eu K a.GY "need_name" "Reader.need_name" s_A ["self"] a.f_A a.ak5
 aas:eu K a.GY "take_free_name" "Reader.take_free_name" adj ["self"] a.aj4 a.ae2
 aat:eu K a.GY "take_name_not_in" "Reader.take_name_not_in" adk ["self","given"] a.aj5 a.ae3
 aau:eu K a.GY "learn" "Reader.learn" adl ["self","name"] a.aj6 a.ae4
 Xu:eu K a.GY "forget" "Reader.forget" adm ["self","name"] a.aj7 a.ae5
 d_g:cF K mg "deeper" s_g ["reader","depth"] a.f_g a.ak6
 Tj:cF K mg "read_exp" s_c ["reader","depth"] a.f_c a.ae6
 Xv:cF K mg "read_choice" adn ["reader","depth"] a.aj8 a.ae7
 Yw:cF K mg "read_chain" s_w ["reader","depth","strength"] a.f_w a.ak7
 W9:cF K mg "read_unary" s_n ["reader","depth"] a.f_n a.ak8
 Xw:cF K mg "read_primary" ado ["reader","depth"] a.aj9 a.ae8
 Xx:cF K mg "read_brackets" adp ["reader","depth"] a.aka a.ae9
 Xy:cF K mg "read_sum" adq ["reader","depth"] a.akb a.afa
 d_2:cF K mg "read_call" s_2 ["reader","depth"] a.f_2 a.ak9
 aav:cF K mg "refuse_here" ads ["reader","sign"] a.akc a.afb
 d_k:cF K mg "read_sheet" s_k ["text"] a.f_k a.ala
 Xz:cF K mg "read_top" adt ["reader"] a.akd a.afc
 XB:cF K mg "read_const" adu ["reader"] a.ake a.afd
 Yx:cF K mg "read_given" s_r ["reader"] a.f_r a.alb
 XD:cF K mg "read_fun" adv ["reader"] a.akf a.afe
 aaw:cF K mg "read_parameters" adw ["reader","function"] a.akg a.aff
 aax:cF K mg "read_parameter" adx ["reader","function"] a.akh a.afg
 XE:cF K mg "read_desk" ady ["reader"] a.aki a.afh
 Xa:cF K mg "read_braces" s_o ["reader","depth"] a.f_o a.alc
 XF:cF K mg "read_statement" adz ["reader","depth"] a.akj a.afi
 d_3:cF K mg "read_let" s_3 ["reader"] a.f_3 a.afj
 aay:cF K mg "deeper_braces" adA ["reader","depth"] a.akk a.afk
 XG:cF K mg "read_for" adB ["reader","depth"] a.akl a.afl
 XH:cF K mg "read_if" adC ["reader","depth"] a.akm a.afm
 aaz:cF K mg "read_side" adD ["reader"] a.akn a.afn
 XI:cF K mg "read_part" s_p ["reader","word"] a.f_p a.ald
 d_B:cF K mg "read_part_if_there" s_B ["reader","word"] a.f_B a.ale
 d_4:cF K mg "read_step" s_4 ["reader"] a.f_4 a.afo
 d_5:cF K mg "read_block" s_5 ["reader"] a.f_5 a.afp
 XJ:cF K mg "read_amounts" adE ["reader"] a.ako a.afq
 aaA:cF K mg "read_under_name" adF ["reader"] a.akp a.afr
 d_N:cF K mg "is_text" s_N ["text"] a.f_N a.alf
 d_C:cF K mg "is_price" s_C ["price"] a.f_C a.alg
 aaB:cF K mg "is_market" adG ["zones","quarters","low","high"] a.akq a.afs
 d_e:cF K mg "need" s_e ["as_told"] a.f_e a.alh
 aaC:cF K mg "expanded" adH ["zones","quarters","low","high","text"] a.akr a.aft
 d_d:cF K mg "curve" s_d ["zones","quarters","low","high","zone","quarter","price","text"] a.f_d a.Wo
 Qv:gT K a.Mj
 Vu:Mk K a.Mj a.adI
 Og:au K a.Mj "worth"
 Sr:gT K a.Oz
 XM:Mk K a.Oz a.adJ
 PR:au K a.Oz "name"
 Ra:gT K a.N8
 XQ:Mk K a.N8 a.adK
 PU:au K a.N8 "name"
 Nj:au K a.N8 "arguments"
 PV:gT K a.Ll
 Wx:Mk K a.Ll a.adL
 O7:au K a.Ll "sign"
 NO:au K a.Ll "operand"
 NP:gT K a.Kd
 Wy:Mk K a.Kd a.adM
 LM:au K a.Kd "strength"
 Nk:au K a.Kd "operands"
 OC:au K a.Kd "signs"
 Qw:gT K a.KU
 Vv:Mk K a.KU a.adN
 MH:au K a.KU "condition"
 NQ:au K a.KU "chosen"
 MI:au K a.KU "otherwise"
 Qx:gT K a.OA
 aaD:Mk K a.OA a.adO
 QQ:au K a.OA "name"
 PX:au K a.OA "first"
 QR:au K a.OA "last"
 QS:au K a.OA "body"
 Ss:gT K a.Ml
 aaE:Mk K a.Ml a.adP
 OD:au K a.Ml "name"
 Rm:au K a.Ml "exp"
 Qy:gT K a.NL
 aaF:Mk K a.NL a.adQ
 QT:au K a.NL "name"
 PY:au K a.NL "first"
 QU:au K a.NL "last"
 Nl:au K a.NL "statements"
 Tn:gT K a.Q6
 afT:Mk K a.Q6 a.adR
 Oh:au K a.Q6 "condition"
 NS:au K a.Q6 "statements"
 L0:au K a.Q6 "else_statements"
 MO:gT K a.Lw
 XS:Mk K a.Lw a.adS
 PZ:au K a.Lw "side"
 P0:au K a.Lw "zone"
 Oi:au K a.Lw "quarter"
 O8:au K a.Lw "price"
 L9:au K a.Lw "to_price"
 OE:au K a.Lw "amount"
 Pj:gT K a.Lz
 Ut:Mk K a.Lz a.adT
 Oj:au K a.Lz "name"
 OF:au K a.Lz "exp"
 Lg:gT K a.J2
 Wz:Mk K a.J2 a.adU
 O9:au K a.J2 "name"
 Pb:au K a.J2 "side"
 Pc:au K a.J2 "zone"
 OG:au K a.J2 "price"
 NT:au K a.J2 "amounts"
 OH:au K a.J2 "under"
 MW:au K a.J2 "group"
 Rn:gT K a.MN
 WA:Mk K a.MN a.adV
 Pd:au K a.MN "name"
 P1:au K a.MN "exp"
 Rp:gT K a.O4
 aaG:Mk K a.O4 a.adW
 QV:au K a.O4 "name"
 Nm:au K a.O4 "parameters"
 Rq:au K a.O4 "exp"
 Sv:gT K a.N9
 XU:Mk K a.N9 a.adX
 Sw:au K a.N9 "name"
 MX:au K a.N9 "statements"
 Oa:gT K a.HF
 Sx:Mk K a.HF a.adY
 P2:au K a.HF "desk"
 Np:au K a.HF "zone"
 Mn:au K a.HF "quarter"
 Nq:au K a.HF "side"
 NU:au K a.HF "low"
 Nr:au K a.HF "high"
 MJ:au K a.HF "amount"
 Pf:gT K a.Ie
 RM:Mk K a.Ie a.adZ
 Pk:au K a.Ie "desk"
 Pl:au K a.Ie "zone"
 Pn:au K a.Ie "side"
 OW:au K a.Ie "price"
 OX:au K a.Ie "group"
 OI:au K a.Ie "parent"
 Oo:au K a.Ie "amounts"
 P4:gT K a.MV
 XX:Mk K a.MV a.ad0
 QW:au K a.MV "exp"
 NC:au K a.MV "parts"
 II:gT K a.HY
 Vw:Mk K a.HY a.ad1
 Mw:au K a.HY "taken"
 K6:au K a.HY "functions"
 Kh:au K a.HY "scopes"
 Jn:au K a.HY "tasks"
 Ma:au K a.HY "result"
 Sa:gT K a.Ky
 Vx:Mk K a.Ky a.ad8
 Mx:au K a.Ky "zones"
 Ly:au K a.Ky "quarters"
 ND:au K a.Ky "low"
 LN:au K a.Ky "high"
 Ih:gT K a.GV
 Sy:Mk K a.GV a.ad9
 MK:au K a.GV "market"
 ML:au K a.GV "worker"
 Ke:au K a.GV "orders"
 LO:au K a.GV "desk"
 Kw:au K a.GV "named"
 Jg:gT K a.JF
 Tp:Mk K a.JF a.f_H
 KD:au K a.JF "kind"
 JP:au K a.JF "value"
 NF:au K a.JF "line"
 My:au K a.JF "column"
 Gx:gT K a.GY
 Vy:Mk K a.GY a.aea
 Mb:au K a.GY "tokens"
 K5:au K a.GY "at"
 Kz:au K a.GY "known"
 Ji:au K a.GY "functions"
 Mz:au K a.GY "desks"
 Ki:au K a.GY "blocks"
 WB: ∃t,mg "EITHER"=FB (.int 0 t)
 Uu: ∃t,mg "BOTH"=FB (.int 1 t)
 SA: ∃t,mg "COMPARISON"=FB (.int 2 t)
 U3: ∃t,mg "SELLS"=FB (.int 0 t)
 WC: ∃t,mg "BUYS"=FB (.int 1 t)
 Uv: ∃t,mg "GREATEST"=FB (.int 1000000000000000000 t)
 SD: ∃t,mg "MOST_STEPS"=FB (.int 10000 t)
 RN: ∃t,mg "MOST_ORDERS"=FB (.int 48 t)
 Pg: ∃t,mg "MOST_AMOUNT"=FB (.int 1000000000 t)
 RO: ∃t,mg "MOST_SPREAD"=FB (.int 10000 t)
 SE: ∃t,mg "MOST_GROUP"=FB (.int 9 t)
 Uw: ∃t,mg "WORD"=FB (.int 0 t)
 P5: ∃t,mg "NUMBER"=FB (.int 1 t)
 WD: ∃t,mg "SIGN"=FB (.int 2 t)
 Yy: ∃t,mg "END"=FB (.int 3 t)
 P6: ∃t,mg "WRONG"=FB (.int 4 t)
 Rr: ∃t,mg "LONGEST_WORD"=FB (.int 24 t)
 Qz: ∃t,mg "LONGEST_NUMBER"=FB (.int 18 t)
 QX: ∃t,mg "LINE_FEED"=FB (.int 10 t)
 Vz: ∃t,mg "COMMENT"=FB (.int 35 t)
 WE:mg "BLANKS"=FB (.ref a.Te)
 SG:mg "SIGNS"=FB (.ref a.Kv)
 Ux: ∃t,mg "SPELLING"=FB (.str "0123456789:;<=>?@ABCDEFGHIJKLMNOPQRSTUVWXYZ[\\]^_`abcdefghijklmnopqrstuvwxyz" t)
 RP: ∃t,mg "WRONG_TOKEN"=FB (.int 1 t)
 Pp: ∃t,mg "NOT_HERE"=FB (.int 2 t)
 QY: ∃t,mg "NOT_KNOWN"=FB (.int 3 t)
 Pq: ∃t,mg "NOT_FREE"=FB (.int 4 t)
 Tq: ∃t,mg "ARGUMENTS"=FB (.int 5 t)
 Rt: ∃t,mg "TOO_DEEP"=FB (.int 6 t)
 Ru: ∃t,mg "TOO_MANY"=FB (.int 7 t)
 Tr:mg "KEY_WORDS"=FB (.ref a.QN)
 Nt:mg "FIRST_FUNCTIONS"=FB (.ref a.HA)
 RQ: ∃t,mg "MOST_LEVELS"=FB (.int 12 t)
 Ph:mg "CHAIN_SIGNS"=FB (.ref a.IK)
 RR: ∃t,mg "MOST_BRACES"=FB (.int 6 t)
 QA: ∃t,mg "MOST_FUNCTIONS"=FB (.int 6 t)
 P7: ∃t,mg "MOST_PARAMETERS"=FB (.int 6 t)
 Rv: ∃t,mg "LONGEST_TEXT"=FB (.int 3000 t)
 P8: ∃t,mg "MOST_ZONES"=FB (.int 6 t)
 Ol: ∃t,mg "MOST_QUARTERS"=FB (.int 4 t)
 P9: ∃t,mg "MOST_PRICE"=FB (.int 1000000 t)
 WG:pF K a.Te [.int 9, .int 10, .int 13, .int 32]
 Ts:pF K a.QN [.str "const", .str "fun", .str "desk", .str "let", .str "for", .str "in", .str "if", .str "then", .str "else", .str "sell", .str "buy", .str "zone", .str "quarter", .str "price", .str "to", .str "amount", .str "block", .str "under", .str "group", .str "sum"]
 Tt:mg "Exception"=FM
 Yz:mg "abs"=FM
 afU:mg "all"=FM
 WH:mg "dict"=FM
 LP:mg "isinstance"=FM
 KW:mg "len"=FM
 afV:mg "max"=FM
 afW:mg "min"=FM
 XY:mg "range"=FM
 WI:mg "sum"=FM
 SH:mg "tuple"=FM
 afX:mg "zip"=FM
variable {P:Gy}{w:Hf}{K:FC}{mg:Gf->FP FE}{base:Ho}{a:bi}
abbrev nb (c:Jx):Int:=(c.toNat:Int)
def kb (c:Jx):be:=Kb (nb c)
def dY:Fx (Fx be×V):=Hb.map λs=>(s.map kb,V.str (dJ s))
structure Dj (K:FC) (R:FG) (m:Gf) (f:FG):Prop where
 sp:PK K (.ref R) "__getattribute__"=FB (FB (.builtin "type.__getattribute__"))
 ty:Wh K (.ref R)=FB (.type "type")
 rd:PySem.W.readsIn K R (.type "type")=FS
 fc:VT K (.ref R) (.type "type") m=FB (.val (.ref f))
 kp:Je K (.ref f)=FS
structure XT (K:FC) (a:bi):Prop where
 fc:dq K a.Hu a.Im a.f_6
 rm:Dj K a.Hu "__init__" a.f_l
structure DM (P:Gy) (w:Hf) (K:FC) (a:FG) (aD:Fx (be×V)):Prop where
 at_: ∃vs:Fx (be×FE),(∀h:Ho,K.In h->h.DictOf (aX P w) a vs)/\KV aD vs
 len:aD.length<=GD
 no:(a == Jb)=Gc
def dy:Fx (be×V):=[(.inr "min", .int 2),(.inr "max", .int 2),(.inr "abs", .int 1)]
end OS
namespace OS
open PySem PySem.Spec L2
open PyProof.Rows hiding St
variable {P:Gy}{w:Hf}{K:FC}{mg:Gf->FP FE}{base:Ho}{a:bi}
structure XW (K:FC) (a:bi):Prop extends XT K a where
 MA:dq K a.Hu a.JW a.f_R
 Pu:dq K a.Hu a.Lx a.f_S
 Ob:dq K a.Hu a.K3 a.ZV
 Oc:dq K a.Hu a.K4 a.ZW
 MB:dq K a.Hu a.JX a.ZX
 Pw:dq K a.Hu a.L8 a.ZY
def yM (a:bi):Fx FG:=[a.Mj,a.Oz,a.N8,a.Ll,a.Kd,a.KU,a.OA,a.Ml,a.NL,a.Q6,a.Lw,a.J2,a.MN,a.O4,a.N9]
structure mJ (K:FC) (a:bi):Prop where
 ty: ∀C∈yM a,zP K C
 kit:((yM a).map λC=>(yM a).map λD=>HM K (.ref C) (.ref D))=(JS 15).map λi=>(JS 15).map λj=>FB (decide (i=j))
end OS
namespace OS
open PySem PySem.Spec L2
open PyProof.Rows hiding St
variable {P:Gy}{w:Hf}{K:FC}{mg:Gf->FP FE}{base:Ho}{a:bi}
def Ak (K:FC) (ad:FG) (rows:Fx (Fx V)):Prop:= ∃qs:Fx FG,pF K ad (qs.map V.ref)/\Paired (λq xs=>pF K q xs) qs rows
def di:Fx (Fx V):=[[.str "||"],[.str "&&"],[.str "==", .str "!=", .str "<=", .str ">=", .str "<", .str ">"],[.str "+", .str "-"],[.str "*", .str "/", .str "/rest"]]
end OS
namespace OS
open PySem PySem.Spec L2
open PyProof.Rows hiding St
variable {P:Gy}{w:Hf}{K:FC}{mg:Gf->FP FE}{base:Ho}{a:bi}


def gy (zs:Fx Int):Fx V:=zs.map V.int
structure XN (K:FC) (a:bi):Prop extends XW K a where
 OJ:dq K a.Hu a.Mm a.ZT
structure OdK (K:FC) (a:bi):Prop where
 s:zP K a.HF
 b:zP K a.Ie
 ss:HM K (.ref a.HF) (.ref a.HF)=FB FS
 bs:HM K (.ref a.Ie) (.ref a.HF)=FB Gc
inductive j8 (K:FC) (vs:Fx V) (H:Hp) (Q:VK) (_E:XK):Prop
 |mk (z t lo hi y u p:Int) (l:FG) (zs:Fx Int) (_:vs=[.int z, .int t, .int lo, .int hi, .int y, .int u, .int p, .ref l]) (_:cD K H l (gy zs)) (_:zs.length<=4000) (_: ∀(H':Hp) (q:FG),H' q=FB (.lst (gy (Kc z t lo hi y u p zs)))->Q (.ref q) H'):j8 K vs H Q _E
structure XP (K:FC) (a:bi):Prop extends XN K a where
 Mg:dq K a.Hu a.Lf a.ZU
def dOf:Data->Fx OT
 | .dict es _=>es.toList
 |_=>[]
def aaH (h:dOf d=e::r): ∃es ep,d= .dict es ep/\es.toList=e::r:=by
 cases d with
 |dict es n=>exact#[es,n,Go,h]
 |_=>cases h
noncomputable def Tu (K:FC) (a:FG):Fx OT:=((K.lookup a).map λo=>if o.cls= .type "dict"/\o.dict=FM/\o.slots.size=0 then dOf o.data else []).getD []
def ya {K:FC}{a:FG}(h:Tu K a=e::r): ∃o es ep,K.lookup a=FB o/\o.ExactDict/\o.data= .dict es ep/\es.toList=e::r:=by
 unfold Tu at h;cases q:K.lookup a with
 |none=>rw[q] at h;cases h
 |some o=>
  rw[q] at h;have h:(if o.cls= .type "dict"/\o.dict=FM/\o.slots.size=0 then dOf o.data else [])=e::r:=h
  by_cases c:o.cls= .type "dict"/\o.dict=FM/\o.slots.size=0
  .rw[FI c] at h
   obtain⟨es,n,h1,h2⟩:=aaH h;exact#[o,es,n,Go,#[c.1,c.2.1,JN.eq_empty_of_size_eq_zero c.2.2],h1,h2]
  .rw[FF c] at h
   cases h
section
variable {a:FG}
def DU {mg:Gf->FP FE}(X:K.In h) (G:h.Ns N mg) (e:Ks K N n=FB (FB v)):mg n=FB v:=by
 obtain⟨o,es,ep,ho,hd,_,hf⟩:=G;unfold Ks at e;split at e
 .rename_i c d es' n' sl q
  have:=X _ _ q;rw[ho] at this;cases this;cases hd;split at e
  .rename_i en he
   cases e;rw[<-hf];unfold nsFind findBy;rw[<-Vl,he]
   rfl
  .split at e<;>cases e
 .cases e
def iOf:FE->FP Int
 | .int i _=>FB i
 |_=>FM
def xOf:FE->FP Gf
 | .str i _=>FB i
 |_=>FM
def rOf:FE->FP FG
 | .ref i=>FB i
 |_=>FM
def vG (h:iOf v=FB i): ∃t,v= .int i t:=by
 cases v with
 |int j t=>cases h;exact#[t,Go]
 |_=>cases h
def uX (h:xOf v=FB i): ∃t,v= .str i t:=by
 cases v with
 |str j t=>cases h;exact#[t,Go]
 |_=>cases h
def AX (h:rOf v=FB i):v= .ref i:=by
 cases v with
 |ref j=>cases h;rfl
 |_=>cases h
abbrev tT {A:Type}(f:FE->FP A) (l:Fx FE):FP (Fx A):=l.mapM f
abbrev oC:=tT iOf
abbrev oj:=tT xOf
abbrev wv:=tT rOf
theorem iM {A B:Type}{f:FE->FP A}{g:A->B}{R:B->FE->Prop}(hf: ∀v x,f v=FB x->R (g x) v): ∀ {vs:Fx FE}{l:Fx A},tT f vs=FB l->Paired R (l.map g) vs
 |[],l,h=>by cases h;exact .nil
 |v::r,l,h=>by
  rw[tT,Fx.mapM_cons] at h;cases e:f v with
  |none=>rw[e] at h;cases h
  |some x=>
   cases q:r.mapM f with
   |none=>rw[e,q] at h;cases h
   |some l'=>rw[e,q] at h;cases h;exact .cons (hf v x e) (iM hf q)
def qOf:Data->FP (JN FE)
 | .seq Il _=>FB Il
 |_=>FM
def aaI (h:qOf d=FB Il): ∃n,d= .seq Il n:=by
 cases d with
 |seq es n=>cases h;exact#[n,Go]
 |_=>cases h
noncomputable def MY (K:FC) (a:FG):FP (Fx FE):=(K.lookup a).bind λo=>(qOf o.data).bind λIl=>if o.cls= .type "tuple"/\Il.size<=1000 then FB Il.toList else FM
def sL (h:MY K a=FB l): ∃o Il n,K.lookup a=FB o/\o.cls= .type "tuple"/\o.data= .seq Il n/\Il.size<=GD/\Il.toList=l:=by
 obtain⟨o,h1,h⟩:=IX.mp h;obtain⟨Il,h2,h⟩:=IX.mp h;obtain⟨n,h2⟩:=aaI h2;by_cases c:o.cls= .type "tuple"/\Il.size<=1000
 .rw[FI c] at h
  exact#[o,Il,n,h1,c.1,h2,F7 c.2 [01],F4 h]
 .rw[FF c] at h
  cases h
def tM (h:oC vs=FB l):a8 (l.map V.int) vs:=iM (λ_ _ e=>vG e) h
def uq (h:oj vs=FB l):a8 (l.map V.str) vs:=iM (λ_ _ e=>uX e) h
def sU (h:wv vs=FB l):a8 (l.map V.ref) vs:=iM (λ_ _ e=>AX e) h
def rA (h:MY K a=FB vs) (v:a8 xs vs):pF K a xs:=by
 obtain⟨o,Il,n,h1,h2,h3,h4,h5⟩:=sL h;exact#[o,Il,n,h1,h2,h3,h4,by rw[h5];exact v]
def BM (h:(MY K a).bind oC=FB l):pF K a (l.map V.int):=by
 cases e:MY K a with
 |none=>rw[e] at h;cases h
 |some vs=>rw[e] at h;exact rA e (tM h)
def sH (h:(MY K a).bind oj=FB l):pF K a (l.map V.str):=by
 cases e:MY K a with
 |none=>rw[e] at h;cases h
 |some vs=>rw[e] at h;exact rA e (uq h)
noncomputable def U4 (K:FC) (e:OT):FP (Int×Fx Int×Gf):=(rOf e.key).bind λp=>(xOf e.val).bind λx=>((MY K p).bind oC).map λl=>(e.hash,l,x)
def Bj (z:U4 K e=FB (h,l,x)): ∃p t,e.key= .ref p/\e.val= .str x t/\e.hash=h/\(MY K p).bind oC=FB l:=by
 obtain⟨p,h1,z⟩:=IX.mp z;obtain⟨x',h2,z⟩:=IX.mp z;obtain⟨l',h3,z⟩:=GH.mp z;cases z;obtain⟨t,h2⟩:=uX h2;exact#[p,t,AX h1,h2,Go,h3]
def Dl (h:Paired (λk v=>(aX P w).is k v=FS) ks vs):ItemsAre (aX P w) ks vs:=by
 induction h with
 |nil=>exact .nil
 |cons h _ i=>exact .cons h i
def zM (h:oC vs=FB l):ItemsAre (aX P w) (l.map λi=>(Kb i:be)) vs:=
 Dl (iM (f:=iOf) (g:=λi=>(Kb i:be)) (λv i e=>by
  obtain⟨t,rfl⟩:=vG e;exact Ht i) h)
theorem wK: ∀ {es:Fx OT}{L:Fx (Fx Int×Gf)},es.map (U4 K)=(L.map λp=>FB (V5 (aX P w) (p.1.map λi=>(Kb i:be)),p.1,p.2))->
  ∃xs:Fx (Fx be×FG×FE),Paired (λ(p:Fx be×V) (q:Fx be×FG×FE)=>p.1=q.1/\bo p.2 q.2.2) (L.map λp=>(p.1.map λi=>(Kb i:be),V.str p.2)) xs/\es=xs.map (entryOfKey (N0 (aX P w)))/\(xs.map (·.1))=(L.map λp=>p.1.map λi=>(Kb i:be))/\ ∀h:Ho,K.In h-> ∀x∈xs,(N0 (aX P w)).is h x.1 x.2.1
 |[],[],_=>#[[], .nil,Go,Go,λ_ _ _ z=>nomatch z]
 |[],_::_,h=>by cases h
 |_::_,[],h=>by cases h
 |e::es,p::L,h=>by
  rw[Ge,Ge] at h;obtain⟨h1,h2⟩:=JZ h;obtain⟨xs,k1,k2,k3,k4⟩:=wK h2;obtain⟨q,t,e1,e2,e3,e4⟩:=Bj h1;refine#[(p.1.map λi=>Kb i,q, .str p.2 t)::xs, .cons #[Go,#[t,Go]] k1,?_,by rw[Ge,Ge,k3],λhp hK y hy=>?_]
  .rw[Ge,<-k2]
   congr 1
   obtain⟨eh,ek,ev⟩:=e;cases e1;cases e2;cases e3
   rfl
  .rcases FU.mp hy with rfl|hy
   .cases z:MY K q with
    |none=>rw[z] at e4;cases e4
    |some vs=>
     rw[z] at e4;obtain⟨o,Il,n,g1,g2,g3,g4,g5⟩:=sL z;exact#[o,Il,n,hK _ _ g1,g2,g3,by rw[g5];exact zM e4]
   .exact k4 hp hK y hy
def aaJ {L:Fx (Fx Int×Gf)}(ne:L≠[]) (h:(Tu K a).map (U4 K)=(L.map λp=>FB (V5 (aX P w) (p.1.map λi=>(Kb i:be)),p.1,p.2))) (nd:(L.map λp=>p.1.map λi=>(Kb i:be)).Nodup) (no:(a == Jb)=Gc):
  Ao P w K a (L.map λp=>(p.1.map λi=>(Kb i:be),V.str p.2)):=by
 obtain⟨xs,k1,k2,k3,k4⟩:=wK (P:=P) (w:=w) h;cases he:Tu K a with
 |nil=>rw[he] at h;exact F6 (Fx.map_eq_nil_iff.mp h.symm) ne
 |cons e r=>
  obtain⟨o,es,ep,lk,ex,od,el⟩:=ya he;refine#[#[xs,λhp hK=>#[o,es,ep,hK a o lk,ex,od,by rw[el,<-he];exact k2,k4 hp hK,by rw[k3];exact nd],k1],no]
def YA:Fx (Fx Int×Gf):=Hb.map λs=>(s.map nb,dJ s)
def Bz:dY=YA.map λp=>(p.1.map λi=>(Kb i:be),V.str p.2):=by decide+kernel
def D7 {mg:Gf->FP FE}{a:bi}(_:aV K mg a) (e:(Tu K a.Kv).map (U4 K)=(YA.map λp=>FB (V5 (aX P w) (p.1.map λi=>(Kb i:be)),p.1,p.2))) (no:(a.Kv == Jb)=Gc):Ao P w K a.Kv dY:=by
 rw[Bz];exact aaJ [00] e [00] no
def iP {A:Type}{C:Fx A->Prop}{us:Fx A}(h:us.length=n+1) (k: ∀a r,r.length=n->C (a::r)):C us:=by
 cases us with
 |nil=>cases h
 |cons a r=>exact k a r (RZ h)
def v0 {A:Type}{C:Fx A->Prop}{us:Fx A}(h:us.length=0) (k:C []):C us:=by
 cases us with
 |nil=>exact k
 |cons a r=>cases h
def v1 {A:Type}{C:Fx A->Prop}{us:Fx A}(h:us.length=1) (k: ∀a,C [a]):C us:=iP h λa r h=>v0 (C:=λr=>C (a::r)) h (k a)
def v2 {A:Type}{C:Fx A->Prop}{us:Fx A}(h:us.length=2) (k: ∀a b,C [a,b]):C us:=iP h λa r h=>v1 (C:=λr=>C (a::r)) h (k a)
def v3 {A:Type}{C:Fx A->Prop}{us:Fx A}(h:us.length=3) (k: ∀a b c,C [a,b,c]):C us:=iP h λa r h=>v2 (C:=λr=>C (a::r)) h (k a)
def v4 {A:Type}{C:Fx A->Prop}{us:Fx A}(h:us.length=4) (k: ∀a b c d,C [a,b,c,d]):C us:=iP h λa r h=>v3 (C:=λr=>C (a::r)) h (k a)
def v5 {A:Type}{C:Fx A->Prop}{us:Fx A}(h:us.length=5) (k: ∀a b c d e,C [a,b,c,d,e]):C us:=iP h λa r h=>v4 (C:=λr=>C (a::r)) h (k a)
def v6 {A:Type}{C:Fx A->Prop}{us:Fx A}(h:us.length=6) (k: ∀a b c d e f,C [a,b,c,d,e,f]):C us:=iP h λa r h=>v5 (C:=λr=>C (a::r)) h (k a)
def v7 {A:Type}{C:Fx A->Prop}{us:Fx A}(h:us.length=7) (k: ∀a b c d e f g,C [a,b,c,d,e,f,g]):C us:=iP h λa r h=>v6 (C:=λr=>C (a::r)) h (k a)
def v8 {A:Type}{C:Fx A->Prop}{us:Fx A}(h:us.length=8) (k: ∀a b c d e f g h,C [a,b,c,d,e,f,g,h]):C us:=iP h λa r h=>v7 (C:=λr=>C (a::r)) h (k a)
def u0 {fd:GQ}{ps:Fx Gf}{us:Fx FE}(h:us.length=0) (k:HP fd #[[],[]]=pure (ps.zip [])):HP fd #[us,[]]=pure [019]:=v0 (C:=λus=>HP fd #[us,[]]=pure [019]) h k
def u1 {fd:GQ}{ps:Fx Gf}{us:Fx FE}(h:us.length=1) (k: ∀a,HP fd #[[a],[]]=pure (ps.zip [a])):HP fd #[us,[]]=pure [019]:=v1 (C:=λus=>HP fd #[us,[]]=pure [019]) h k
def u2 {fd:GQ}{ps:Fx Gf}{us:Fx FE}(h:us.length=2) (k: ∀a b,HP fd #[[a,b],[]]=pure (ps.zip [a,b])):HP fd #[us,[]]=pure [019]:=v2 (C:=λus=>HP fd #[us,[]]=pure [019]) h k
def u3 {fd:GQ}{ps:Fx Gf}{us:Fx FE}(h:us.length=3) (k: ∀a b c,HP fd #[[a,b,c],[]]=pure (ps.zip [a,b,c])):HP fd #[us,[]]=pure [019]:=v3 (C:=λus=>HP fd #[us,[]]=pure [019]) h k
def u4 {fd:GQ}{ps:Fx Gf}{us:Fx FE}(h:us.length=4) (k: ∀a b c d,HP fd #[[a,b,c,d],[]]=pure (ps.zip [a,b,c,d])):HP fd #[us,[]]=pure [019]:=v4 (C:=λus=>HP fd #[us,[]]=pure [019]) h k
def u5 {fd:GQ}{ps:Fx Gf}{us:Fx FE}(h:us.length=5) (k: ∀a b c d e,HP fd #[[a,b,c,d,e],[]]=pure (ps.zip [a,b,c,d,e])):HP fd #[us,[]]=pure [019]:=v5 (C:=λus=>HP fd #[us,[]]=pure [019]) h k
def u6 {fd:GQ}{ps:Fx Gf}{us:Fx FE}(h:us.length=6) (k: ∀a b c d e f,HP fd #[[a,b,c,d,e,f],[]]=pure (ps.zip [a,b,c,d,e,f])):HP fd #[us,[]]=pure [019]:=v6 (C:=λus=>HP fd #[us,[]]=pure [019]) h k
def u7 {fd:GQ}{ps:Fx Gf}{us:Fx FE}(h:us.length=7) (k: ∀a b c d e f g,HP fd #[[a,b,c,d,e,f,g],[]]=pure (ps.zip [a,b,c,d,e,f,g])):HP fd #[us,[]]=pure [019]:=v7 (C:=λus=>HP fd #[us,[]]=pure [019]) h k
def u8 {fd:GQ}{ps:Fx Gf}{us:Fx FE}(h:us.length=8) (k: ∀a b c d e f g h,HP fd #[[a,b,c,d,e,f,g,h],[]]=pure (ps.zip [a,b,c,d,e,f,g,h])):HP fd #[us,[]]=pure [019]:=v8 (C:=λus=>HP fd #[us,[]]=pure [019]) h k
def ED {h:Ho}{mg:Gf->FP FE}(X:K.In h) (G:h.Ns JI mg) {x:Gf}{st:Stmt}{ps:Fx Gf}{f:FG}{oc:FE}{od an:FP FG}{sl:JN (FP FE)}{kV doc pm cd ct:FE}
  (a:Ks K JI x=FB (FB (.ref f))) (l:K.lookup f=FB #[oc,od, .func (IP x x (dO st) (bh st) (af st) .none kV doc pm an cd ct),sl]) (c:LL K cd x=FS) (k:Je K (.ref f)=FS)
  (hb: ∀(kV doc pm:FE) (an:FP FG) (Hn ct:FE) (us:Fx FE),us.length=ps.length->HP (IP x x (dO st) (bh st) (af st) .none kV doc pm an Hn ct) #[us,[]]=pure [019]):
  ∃fd,cF K mg x st ps f fd/\ ∀(s:FJ) (us:Fx FE),us.length=ps.length->TN s fd #[us,[]] [019]:=#[_,#[lV (st:=st) l c k,Gm X G a,k,(lV (st:=st) l c k).binds hb],λs us hu=> .of_eq (hb _ _ _ _ _ _ us hu)]
def aC {h:Ho}{mg:Gf->FP FE}(X:K.In h) (G:h.Ns JI mg) {x:Gf}{st:Stmt}{ps:Fx Gf}{f:FG}{oc:FE}{od an:FP FG}{sl:JN (FP FE)}{kV doc pm cd ct:FE}
  (z:Ks K JI x=FB (FB (.ref f))/\K.lookup f=FB #[oc,od, .func (IP x x (dO st) (bh st) (af st) .none kV doc pm an cd ct),sl]/\LL K cd x=FS/\Je K (.ref f)=FS)
  (hb: ∀(kV doc pm:FE) (an:FP FG) (Hn ct:FE) (us:Fx FE),us.length=ps.length->HP (IP x x (dO st) (bh st) (af st) .none kV doc pm an Hn ct) #[us,[]]=pure [019]):
  cF K mg x st ps f (IP x x (dO st) (bh st) (af st) .none kV doc pm an cd ct):=#[lV (st:=st) z.2.1 z.2.2.1 z.2.2.2,Gm X G z.1,z.2.2.2,(lV (st:=st) z.2.1 z.2.2.1 z.2.2.2).binds hb]
def aK {x q:Gf}{st:Stmt}{ps:Fx Gf}{C f:FG}{oc:FE}{od an:FP FG}{sl:JN (FP FE)}{kV doc pm cd ct:FE}
  (z:Iu K (.ref C) x=FB (FB (.ref f))/\PM K (.ref f)=FS/\K.lookup f=FB #[oc,od, .func (IP x q (dO st) (bh st) (af st) .none kV doc pm an cd ct),sl]/\LL K cd q=FS/\Je K (.ref f)=FS)
  (hb: ∀(kV doc pm:FE) (an:FP FG) (Hn ct:FE) (us:Fx FE),us.length=ps.length->HP (IP x q (dO st) (bh st) (af st) .none kV doc pm an Hn ct) #[us,[]]=pure [019]):
  eu K C x q st ps f (IP x q (dO st) (bh st) (af st) .none kV doc pm an cd ct):=#[lV (st:=st) z.2.2.1 z.2.2.2.1 z.2.2.2.2,#[z.1,z.2.1,z.2.2.2.2],(lV (st:=st) z.2.2.1 z.2.2.2.1 z.2.2.2.2).binds hb]
end
section
variable {a:FG}
def cOf:Data->FP ClassData
 | .cls c=>FB c
 |_=>FM
def aaK (h:cOf d=FB c):d= .cls c:=by
 cases d with
 |cls c=>cases h;rfl
 |_=>cases h
def six {A:Type}{l:JN A}{x:A}(h:l.toList.length=6):l.toList[4]?=FB x-> ∃a b c d f,l= [a,b,c,d,x,f].toArray:=by
 obtain⟨l⟩:=l;exact v6 (C:=λl=>l[4]?=FB x-> ∃a b c d f,(#[l]:JN A)= [a,b,c,d,x,f].toArray) h λa b c d e f z=>by cases z;exact#[a,b,c,d,f,Go]
noncomputable def aaL (K:FC) (C:FG) (u:Fx FG):FP FG:=(K.lookup C).bind λo=>(cOf o.data).bind λcd=>
 if o.cls= .type "type"/\cd.mro= .ref C::(u.map Gs++db)/\cd.hasDict=FS/\cd.hasDel=Gc/\o.slots.toList.length=6/\o.slots.toList[4]?=FB (FB (.builtin "Exception.__new__")) then FB cd.ns else FM
def xZ (q:aaL K C u=FB N) (X:K.In h):XO h C N (u.map Gs++db):=by
 obtain⟨o,h1,q⟩:=IX.mp q;obtain⟨cd,h2,q⟩:=IX.mp q;split at q
 .rename_i g
  obtain⟨g1,g2,g3,g4,g5,g6⟩:=g;cases q;obtain⟨k0,k1,k2,k3,k5,g5⟩:=six g5 g6;have h2:=aaK h2;obtain⟨nm,bs,mro,ns,qn,hd,sn,sub,ab,col,qK⟩:=cd;obtain⟨cl,dd,da,sl⟩:=o;cases g1;cases g2;cases g3;cases g4;cases h2;cases g5;exact#[nm,qn,bs,sn,sub,ab,col,dd,k0,k1,k2,k3,k5,X _ _ h1]
 .cases q
def fG {mg:Gf->FP FE}(_:K.In h0) (_:mg x=FB (.ref C)) (_:mg "Refusal"=FB (.ref R)) (l:aaL K C [R]=FB N)
  (IQ:Wi K N=FS) (hi:Ks K N "__init__"=FB (FB (.ref fI))) (hq:(cZ.map λn=>Ks K N n)=cZ.map λ_=>FB FM) (lI:((K.lookup fI).map λo=>o.cls)=FB (.type "function")) (kp:Je K (.ref C)=FS)
  (lR:aaL K R []=FB NR) (afY:Wi K NR=FS) (hqR:(cZ.map λn=>Ks K NR n)=cZ.map λ_=>FB FM):dq K R C fI:=by
 obtain⟨oI,lI,cI⟩:=GH.mp lI;refine#[λh X=>?_,kp];have ns:h.Ns N (h.nsMap N):= .of_isNs (Uj X IQ);have nR:h.Ns NR (h.nsMap NR):= .of_isNs (Uj X afY);have all: ∀ {M:FG},(cZ.map λn=>Ks K M n)=(cZ.map λ_=>FB FM)-> ∀n∈cZ,Ks K M n=FB FM:=λe=>Fx.map_inj_left.mp e
 exact#[N,h.nsMap N,oI,NR,h.nsMap NR,xZ l X,ns,DU X ns hi,λn hn=>RI X IQ (all hq n hn),X _ _ lI,cI,xZ lR X,nR,λn hn=>RI X afY (all hqR n hn)]
end
def xJ (e:OT):FP (Int×Gf×Int):=(xOf e.key).bind λx=>(iOf e.val).map λi=>(e.hash,x,i)
def AB (z:xJ e=FB (h,x,i)): ∃t u,e.key= .str x t/\e.val= .int i u/\e.hash=h:=by
 obtain⟨x',h1,z⟩:=IX.mp z;obtain⟨i',h2,z⟩:=GH.mp z;cases z;obtain⟨t,h1⟩:=uX h1;obtain⟨u,h2⟩:=vG h2;exact#[t,u,h1,h2,Go]
section
variable {a:FG}
theorem yg: ∀ {es:Fx OT}{L:Fx (Gf×Int)},es.map xJ=(L.map λp=>FB (hashStr w p.1,p.1,p.2))->
  ∃vs:Fx (be×FE),KV (L.map λp=>((IF p.1:be),V.int p.2)) vs/\PySem.Pairs (aX P w) es vs/\(vs.map (·.1))=(L.map λp=>(IF p.1:be))/\ ∀e∈es,∃k,(aX P w).is k e.key=FS/\e.hash=(aX P w).hash k
 |[],[],_=>#[[], .nil, .nil,Go,λ_ z=>nomatch z]
 |[],_::_,h=>by cases h
 |_::_,[],h=>by cases h
 |e::es,p::L,h=>by
  rw[Ge,Ge] at h;obtain⟨h1,h2⟩:=JZ h;obtain⟨vs,k1,k2,k3,k4⟩:=yg h2;obtain⟨t,u,e1,e2,e3⟩:=AB h1;have is:(aX P w).is (IF p.1) e.key=FS:=by rw[e1];show PD p.1 (.str p.1 t)=FS;simp [PD]
  refine#[(IF p.1, .int p.2 u)::vs, .cons #[Go,#[u,Go]] k1, .cons is e2 k2,by rw[Ge,Ge,k3],λy hy=>?_];rcases FU.mp hy with rfl|hy
  .exact#[IF p.1,is,e3]
  .exact k4 y hy
def aaM {p:Gf×Int}{L:Fx (Gf×Int)}(h:(Tu K a).map xJ=((p::L).map λp=>FB (hashStr w p.1,p.1,p.2))) (nd:((p::L).map (·.1)).Nodup) (len:(p::L).length<=GD) (no:(a == Jb)=Gc):
  DM P w K a ((p::L).map λp=>((IF p.1:be),V.int p.2)):=by
 obtain⟨vs,k1,k2,k3,k4⟩:=yg (P:=P) h;cases he:Tu K a with
 |nil=>rw[he] at h;cases h
 |cons e r=>
  obtain⟨o,es,ep,lk,ex,od,el⟩:=ya he;rw[he,<-el] at k2;rw[he] at k4;refine#[#[vs,λhp hK=>#[o,es,ep,hK a o lk,ex,od,λy hy=>k4 y (by rw[<-el];exact Ug.mpr hy),k2,?_],k1],by rw[FT];exact len,no];rw[k3,Ge];rw[show(λp:Gf×Int=>(IF p.1:be))=(λx=>IF x) ∘ (λp:Gf×Int=>p.1) from Go];rw[show(IF p.1:be)::L.map ((λx=>(IF x:be)) ∘ λp=>p.1)=((p::L).map (·.1)).map (λx=>(IF x:be)) by rw[Ge,Ge,J9]];exact Fx.Pairwise.map (λx=>(IF x:be)) (λ_ _ h z=>h (J1 z)) nd
theorem xL: ∀ {qs:Fx FG}{rows:Fx (Fx Gf)},(qs.map λq=>(MY K q).bind oj)=rows.map FB->Paired (λq xs=>pF K q xs) qs (rows.map λr=>r.map V.str)
 |[],[],_=> .nil
 |[],_::_,h=>by cases h
 |_::_,[],h=>by cases h
 |q::qs,r::rows,h=>by
  rw[Ge,Ge] at h;obtain⟨h1,h2⟩:=JZ h;exact .cons (sH h1) (xL h2)
def aaN {qs:Fx FG}{rows:Fx (Fx Gf)}(h:(MY K a).bind wv=FB qs) (h2:(qs.map λq=>(MY K q).bind oj)=rows.map FB):Ak K a (rows.map λr=>r.map V.str):=by
 cases e:MY K a with
 |none=>rw[e] at h;cases h
 |some vs=>rw[e] at h;exact#[qs,rA e (sU h),xL h2]
def DW {mg:Gf->FP FE}{a:bi}(_:aV K mg a) (e:(Tu K a.HA).map xJ=(([("min",2),("max",2),("abs",1)]:Fx (Gf×Int)).map λp=>FB (hashStr w p.1,p.1,p.2))) (no:(a.HA == Jb)=Gc):DM P w K a.HA dy:=aaM (p:=("min",2)) (L:=[("max",2),("abs",1)]) e [00] [01] no
def EA {mg:Gf->FP FE}{a:bi}(_:aV K mg a) (e:(((MY K a.IK).bind wv).map λqs=>qs.map λq=>(MY K q).bind oj)=FB (([["||"],["&&"],["==","!=","<=",">=","<",">"],["+","-"],["*","/","/rest"]]:Fx (Fx Gf)).map FB)):Ak K a.IK di:=by
 obtain⟨qs,e1,e2⟩:=GH.mp e;exact aaN e1 e2
end
def afZ (_:aV K mg a) (c:Dj K a.Hu "__init__" a.f_l) (x0:dq K a.Hu a.Im a.f_6) (x1:dq K a.Hu a.JW a.f_R) (x2:dq K a.Hu a.Lx a.f_S) (x3:dq K a.Hu a.K3 a.ZV) (x4:dq K a.Hu a.K4 a.ZW) (x5:dq K a.Hu a.JX a.ZX) (x6:dq K a.Hu a.L8 a.ZY) (x7:dq K a.Hu a.Mm a.ZT):XN K a:=#[#[#[x0,c],x1,x2,x3,x4,x5,x6],x7]
def yO (K:FC):Fx FG->Prop
 |[]=>True
 |C::l=>zP K C/\yO K l
theorem uh {C:FG} : ∀ {l:Fx FG},yO K l->C∈l->zP K C
 |D::l,h,m=>by
  rcases FU.mp m with z|z
  .rw[z];exact h.1
  .exact uh h.2 z
def DI:yO K []:=trivial
def bX (h:zP K C) (t:yO K l):yO K (C::l):=#[h,t]
def aaO {a:bi}(t:yO K (yM a)) (kit:((yM a).map λC=>(yM a).map λD=>HM K (.ref C) (.ref D))=(JS 15).map λi=>(JS 15).map λj=>FB (decide (i=j))):mJ K a:=#[λC h=>uh t h,kit]
def af0 (x:XN K a) (n:dq K a.Hu a.Lf a.ZU):XP K a:=#[x,n]
end OS
set_option hygiene false in
local macro_rules
|`(command|#synth [$n,*])=>do
 let t:=λc:Lean.Name=>do
  let i:=Lean.mkIdent (.mkSimple s!"tw{c.hash}")
  `(theorem $i:ident:True:=trivial)
 let f:=λ(k:String) (i:Nat)=>t (.str `OS.hd s!"{k}_{i}")
 let a<-(Array.range 1657).mapM (f "o")
 let b<-n.getElems.mapM λx=>match x with|`($k:ident*$i:num)=>f k.getId.toString i.getNat|x=>t x.getId
 return Lean.mkNullNode ((a++b).map (·.raw))
namespace PySem.W.Fast
#synth [heap*1657,tree*1656,tree*1626,tree*1549,tree*1463,tree*1297,tree*1382,heap*1,tree*1167,tree*1130,tree*1069,tree*1043,tree*977,tree*919,tree*896,tree*817,tree*752,tree*708,view*1,tree*658,PySem.Challenge.pw_ordersheets_s04_curve,tree*636,tree*614,tree*592,tree*570,tree*548,tree*526,tree*504,tree*482,tree*452,tree*400,tree*377,tree*354,tree*331,tree*308,tree*285,tree*262,tree*239,tree*216,tree*193,sts*1386,sts*818,tree*170,sts*978,sts*1550,sts*1464,sts*1131,tree*147,sts*1170,tree*124,tree*101,sts*920,sts*401,sts*1627,sts*753,tree*78,sts*659,sts*1073,sts*1044,tree*55,sts*709,sts*453,sts*378,sts*286,sts*240,tree*32,sts*505,sts*355,sts*897,sts*148,sts*194,sts*10,sts*217,sts*332,sts*102,sts*125,sts*263,sts*56,sts*79,sts*309,sts*171,sts*637,sts*549,sts*527,sts*483,sts*593,sts*571,sts*615,sts*33,heap*7,tree*8,env*2]
end PySem.W.Fast
section
open PySem PySem.W PyProof.Rows
set_option hygiene false
local macro_rules
|`(tactic|o_headS ($_ $k $a $e))=>`(tactic|o_headS ((OS.hook $k $a $e):PySem.W.Hook))
local macro_rules
|`(?hc)=>`(OS.ap Z ?hcc)
|`([0x0])=>`((by kernel_rfl))
|`([0x1])=>`(#[_,Gm KX G (by exact Go)])
|`([0x3])=>`(OS.noAttr (by kernel_rfl))
|`([0x4])=>`(#[by kernel_rfl,by kernel_rfl,by kernel_rfl,by kernel_rfl])
|`([0x5])=>`(#[by exact Go,by exact Go,by kernel_rfl,by kernel_rfl])
|`([0x6])=>`(#[by exact Go,by kernel_rfl,by exact Go,by kernel_rfl,by kernel_rfl])
|`([0x2])=>`(#[by kernel_rfl,by kernel_rfl,by kernel_rfl,by kernel_rfl,by kernel_rfl])
def OS.Zt:Prop:= ∀ {P:Gy}{w:Hf}{K:FC}{mg:Gf->FP FE}{base:Ho}{a:OS.bi}(_:OS.aV K mg a) (_:OS.XP K a) (_:OS.Ao P w K a.Kv OS.dY) (_:OS.DM P w K a.HA OS.dy) (_:OS.Ak K a.IK OS.di) (_:OS.mJ K a) (_:OS.OdK K a),L2.bW P w K mg base L2.xR 180 a.f_d a.Wo ["zones","quarters","low","high","zone","quarter","price","text"] (OS.j8 K)
def OS.noAttr {K:FC}{C:FG}{f:Gf}(h:Iu K (.ref C) f=FB FM):L2.au K C f:=h
def OS.ap {P:Prop}(z:OS.Zt) (h:OS.Zt->P):P:=h z
set_option maxRecDepth 100000 in
set_option maxHeartbeats 0 in
theorem OS.hd (Z:OS.Zt):PySem.Challenge.rw_ordersheets_s04_curve.Holds:=by
 have W:=OS.aci
 w_on;k_headS;(case hw=>exact#[[.int 0, .int 0, .int 0, .int 0, .int 0, .int 0, .int 0, .list []],by decide+kernel,by decide+kernel])
 k_fillS
 intro Z;refine L2.vq (r:=PySem.Challenge.rw_ordersheets_s04_curve) (k:=180) (CX:=L2.xR) (ps:=["zones","quarters","low","high","zone","quarter","price","text"]) (sp:=OS.j8) [00] Go Go #[Go,by decide,by decide] (λw h Y=>OS.VW Y) ?F ?S (λ_ _ _ _ z=>z)
 case F=>
  intro w mg fa h Y KX G hmg;obtain⟨Wo,d_d,ali⟩:=OS.ED (x:="curve") (st:=OS.s_d) (ps:=["zones","quarters","low","high","zone","quarter","price","text"]) KX G [08] [08] [08] [08] (λ_ _ _ _ _ _ us hl=>OS.u8 hl λ_ _ _ _ _ _ _ _=>[0x0]);have T:OS.aV _ mg ⟨_,_,_,_,_,_,_,_,_,_,_,_,_,_,_,_,_,_,_,_,_,_,_,_,_,_,_,_,_,_,_,_,_,_,_,_,_,_,_,_,_,_,_,_,_,_,_,_,_,_,_,_,_,_,_,_,_,_,_,_,_,_,_,_,_,_,_,_,_,_,_,_,_,_,_,_,_,_,_,_,_,_,_,_,_,_,_,_,_,_,_,_,_,_,_,_,_,_,_,_,_,_,_,_,_,_,_,_,_,_,_,_,_,_,_,_,_,_,_,_,_,_,_,_,_,_,_,_,_,_,_,_,_,_,_,_,_,_,_,_,_,_,_,_,_,_,_,_,_,_,_,_,_,_,_,_,_,_,_,_,_,_,_,_,_,_,_,_,_,_,_,_,_,_,_,_,_,_,_,_,_,_,_,_,_,_,_,_,_,_,_,_,_,_,_,_,_,_,_,_,_,_,_,_,_,_,_,_,_,_,_,_,_,_,_,_,_,_,_,_,_,_,_,_,_,_,_,_,_,_,_,_,_,_,_,_,_,_,_,_,_,_,_,_,_,_,_,_,_,_,_,_,_,_,_,_,_,_,_,_,_,_,_,_,_,_,_,_,_,_,_,_,_,_,_,_,_,_,_,_,_,_,_,_,_,_,_,_,_,_,_,_,_,_,_,_,_,_,_,_,_,_,_,_,_,_,_,_,_,_,_,_,_,_,_,_,_,_,Wo⟩:=#[[006],[006],[006],[006],[006],[006],[006],[006],[006],[006],[006],[006],[006],[006],[006],[006],[006],[006],[006],[006],[006],[006],[006],[006],[006],[006],[006],[006],[006],[006],[006],[006],[006],[006],[020],[020],(OS.aK [0x6] [004]),(OS.aK [0x6] [004]),(OS.aK [0x6] (λ_ _ _ _ _ _ us hl=>OS.u4 hl λ_ _ _ _=>[0x0])),(OS.aK [0x6] (λ_ _ _ _ _ _ us hl=>OS.u4 hl λ_ _ _ _=>[0x0])),(OS.aK [0x6] (λ_ _ _ _ _ _ us hl=>OS.u5 hl λ_ _ _ _ _=>[0x0])),(OS.aK [0x6] [004]),(OS.aK [0x6] (λ_ _ _ _ _ _ us hl=>OS.u5 hl λ_ _ _ _ _=>[0x0])),(OS.aK [0x6] (λ_ _ _ _ _ _ us hl=>OS.u4 hl λ_ _ _ _=>[0x0])),(OS.aK [0x6] (λ_ _ _ _ _ _ us hl=>OS.u7 hl λ_ _ _ _ _ _ _=>[0x0])),(OS.aK [0x6] [004]),(OS.aK [0x6] (λ_ _ _ _ _ _ us hl=>OS.u8 hl λ_ _ _ _ _ _ _ _=>[0x0])),(OS.aK [0x6] [004]),(OS.aK [0x6] (λ_ _ _ _ _ _ us hl=>OS.u4 hl λ_ _ _ _=>[0x0])),(OS.aK [0x6] [004]),(OS.aK [0x6] (λ_ _ _ _ _ _ us hl=>OS.u8 hl λ_ _ _ _ _ _ _ _=>[0x0])),(OS.aK [0x6] (λ_ _ _ _ _ _ us hl=>OS.u8 hl λ_ _ _ _ _ _ _ _=>[0x0])),[009],(OS.aC KX G [0x5] (λ_ _ _ _ _ _ us hl=>OS.u4 hl λ_ _ _ _=>[0x0])),(OS.aC KX G [0x5] (λ_ _ _ _ _ _ us hl=>OS.u4 hl λ_ _ _ _=>[0x0])),(OS.aC KX G [0x5] (λ_ _ _ _ _ _ us hl=>OS.u4 hl λ_ _ _ _=>[0x0])),[000],[000],[020],[018],(OS.aK [0x6] (λ_ _ _ _ _ _ us hl=>OS.u4 hl λ_ _ _ _=>[0x0])),[018],[018],[018],[018],[018],[018],[018],[000],[014],[014],[000],[000],[000],[009],[020],[018],[018],(OS.aK [0x6] [004]),[020],[020],[020],[020],[014],[014],[014],[014],[014],[014],[014],[009],[014],[014],[014],(OS.aK [0x6] (λ_ _ _ _ _ _ us hl=>OS.u5 hl λ_ _ _ _ _=>[0x0])),[020],[000],[000],[000],[000],[000],[000],[000],[014],[000],[000],[000],[000],[000],[014],(OS.aK [0x6] (λ_ _ _ _ _ _ us hl=>OS.u5 hl λ_ _ _ _ _=>[0x0])),[009],[009],[000],[000],[000],[000],[014],[009],[000],[009],[020],[018],[020],[020],[018],[018],[018],[018],[018],[020],[020],[018],[018],[020],[020],[020],[000],[000],[000],[014],[000],[000],[000],[000],[000],[000],[009],[009],[009],[009],[009],[000],[000],[009],[000],[000],[009],[000],[000],[000],[009],[000],[000],[009],[009],[009],[009],[009],[009],(OS.aC KX G [0x5] (λ_ _ _ _ _ _ us hl=>OS.u4 hl λ_ _ _ _=>[0x0])),[009],(OS.aC KX G [0x5] (λ_ _ _ _ _ _ us hl=>OS.u5 hl λ_ _ _ _ _=>[0x0])),d_d,[0x4],[0x4],[0x3],[0x4],[0x4],[0x3],[0x4],[0x4],[0x3],[0x3],[0x4],[0x4],[0x3],[0x3],[0x4],[0x4],[0x3],[0x3],[0x3],[0x4],[0x4],[0x3],[0x3],[0x3],[0x4],[0x4],[0x3],[0x3],[0x3],[0x3],[0x4],[0x4],[0x3],[0x3],[0x4],[0x4],[0x3],[0x3],[0x3],[0x3],[0x4],[0x4],[0x3],[0x3],[0x3],[0x4],[0x4],[0x3],[0x3],[0x3],[0x3],[0x3],[0x3],[0x4],[0x4],[0x3],[0x3],[0x4],[0x4],[0x3],[0x3],[0x3],[0x3],[0x3],[0x3],[0x3],[0x4],[0x4],[0x3],[0x3],[0x4],[0x4],[0x3],[0x3],[0x3],[0x4],[0x4],[0x3],[0x3],[0x4],[0x4],[0x3],[0x3],[0x3],[0x3],[0x3],[0x3],[0x3],[0x4],[0x4],[0x3],[0x3],[0x3],[0x3],[0x3],[0x3],[0x3],[0x4],[0x4],[0x3],[0x3],[0x4],[0x4],[0x3],[0x3],[0x3],[0x3],[0x3],[0x4],[0x4],[0x3],[0x3],[0x3],[0x3],[0x4],[0x4],[0x3],[0x3],[0x3],[0x3],[0x3],[0x4],[0x4],[0x3],[0x3],[0x3],[0x3],[0x4],[0x4],[0x3],[0x3],[0x3],[0x3],[0x3],[0x3],[0x1],[0x1],[0x1],[0x1],[0x1],[0x1],[0x1],[0x1],[0x1],[0x1],[0x1],[0x1],[0x1],[0x1],[0x1],[0x1],[0x1],[0x1],[0x1],[0x1],[006],[006],[0x1],[0x1],[0x1],[0x1],[0x1],[0x1],[0x1],[0x1],[006],[006],[0x1],[006],[0x1],[0x1],[0x1],[0x1],[0x1],[0x1],[0x1],(OS.BM (l:=[9,10,13,32]) [0x0]),(OS.sH (l:=["const","fun","desk","let","for","in","if","then","else","sell","buy","zone","quarter","price","to","amount","block","under","group","sum"]) [0x0]),(HQ KX G [0x0]),(HQ KX G [0x0]),(HQ KX G [0x0]),(HQ KX G [0x0]),(HQ KX G [0x0]),(HQ KX G [0x0]),(HQ KX G [0x0]),(HQ KX G [0x0]),(HQ KX G [0x0]),(HQ KX G [0x0]),(HQ KX G [0x0]),(HQ KX G [0x0])]
  have kS:=OS.D7 T (P:=PySem.Challenge.rw_ordersheets_s04_curve.prog) (w:=w) [0x0] Go
  have kF:=OS.DW T (P:=PySem.Challenge.rw_ordersheets_s04_curve.prog) (w:=w) [0x0] Go
  have KT:=OS.EA T [0x0]
  have XC:=OS.afZ T [0x2] (OS.fG KX T.Rl T.Ig [08] [0x0] [0x0] [0x0] [0x0] [0x0] [08] [0x0] [0x0]) (OS.fG KX T.NM T.Ig [08] [0x0] [0x0] [0x0] [0x0] [0x0] [08] [0x0] [0x0]) (OS.fG KX T.QO T.Ig [08] [0x0] [0x0] [0x0] [0x0] [0x0] [08] [0x0] [0x0]) (OS.fG KX T.O5 T.Ig [08] [0x0] [0x0] [0x0] [0x0] [0x0] [08] [0x0] [0x0]) (OS.fG KX T.O6 T.Ig [08] [0x0] [0x0] [0x0] [0x0] [0x0] [08] [0x0] [0x0]) (OS.fG KX T.NN T.Ig [08] [0x0] [0x0] [0x0] [0x0] [0x0] [08] [0x0] [0x0]) (OS.fG KX T.QP T.Ig [08] [0x0] [0x0] [0x0] [0x0] [0x0] [08] [0x0] [0x0]) (OS.fG KX T.PQ T.Ig [08] [0x0] [0x0] [0x0] [0x0] [0x0] [08] [0x0] [0x0]);cases hmg.symm.trans d_d.c.m;exact#[Wo,ali,λbase _ _=>Z T (OS.af0 XC (OS.fG KX T.OB T.Ig [08] [0x0] [0x0] [0x0] [0x0] [0x0] [08] [0x0] [0x0])) kS kF KT (OS.aaO (OS.bX #[T.Qv,[0x0],[0x0],[0x0],[0x0]] (OS.bX #[T.Sr,[0x0],[0x0],[0x0],[0x0]] (OS.bX #[T.Ra,[0x0],[0x0],[0x0],[0x0]] (OS.bX #[T.PV,[0x0],[0x0],[0x0],[0x0]] (OS.bX #[T.NP,[0x0],[0x0],[0x0],[0x0]] (OS.bX #[T.Qw,[0x0],[0x0],[0x0],[0x0]] (OS.bX #[T.Qx,[0x0],[0x0],[0x0],[0x0]] (OS.bX #[T.Ss,[0x0],[0x0],[0x0],[0x0]] (OS.bX #[T.Qy,[0x0],[0x0],[0x0],[0x0]] (OS.bX #[T.Tn,[0x0],[0x0],[0x0],[0x0]] (OS.bX #[T.MO,[0x0],[0x0],[0x0],[0x0]] (OS.bX #[T.Lg,[0x0],[0x0],[0x0],[0x0]] (OS.bX #[T.Rn,[0x0],[0x0],[0x0],[0x0]] (OS.bX #[T.Rp,[0x0],[0x0],[0x0],[0x0]] (OS.bX #[T.Sv,[0x0],[0x0],[0x0],[0x0]] OS.DI))))))))))))))) [0x0]) #[#[T.Oa,[0x0],[0x0],[0x0],[0x0]],#[T.Pf,[0x0],[0x0],[0x0],[0x0]],[0x0],[0x0]]]
 case S=>
  intro K H xs a hO hwi ani hx;cases hx with
  |cons h1 hx=>
  cases hx with
  |cons h2 hx=>
  cases hx with
  |cons h3 hx=>
  cases hx with
  |cons h4 hx=>
  cases hx with
  |cons h5 hx=>
  cases hx with
  |cons h6 hx=>
  cases hx with
  |cons h7 hx=>
  cases hx with
  |cons h8 hx=>
  cases hx;cases h1;cases h2;cases h3;cases h4;cases h5;cases h6;cases h7;cases h8 with
  |lst hs ha=>
   have e:=L2.yb a.2.2.2.2.2.2.2.1 _ ha;subst e
   let I:=Codec.inInt (-1000000000000000000) 1000000000000000000
   have q:(I a.1&&(I a.2.1&&(I a.2.2.1&&(I a.2.2.2.1&&(I a.2.2.2.2.1&&(I a.2.2.2.2.2.1&&(I a.2.2.2.2.2.2.1&&((Codec.inLen 0 4000 a.2.2.2.2.2.2.2.1&&a.2.2.2.2.2.2.2.1.all I)&&FS))))))))=FS:=hwi;simp only[GI] at q;exact#[_,_,_,_,_,_,_,_,a.2.2.2.2.2.2.2.1,Go,hs,(Codec.inNat_iff.mp q.2.2.2.2.2.2.2.1.1).2,λH' p hp=> .lst (L2.cD.of hp) (L2.wE _)]
end

namespace L2
open PySem PySem.Spec PyProof.Rows
def yw (i:Int) (t:Tok):jE (.inl i) (.int i t)=FS:=by simp [jE,FE.isInt]
def zV (x:Gf) (t:Tok):jE (.inr x) (.str x t)=FS:=by simp [jE,PD]
def tZ (prog:Gy) (w:Hf) (i:Int) (t:Tok):(aX prog w).is (.inl i) (.int i t)=FS:=yw i t
def ug (prog:Gy) (w:Hf) (x:Gf) (t:Tok):(aX prog w).is (.inr x) (.str x t)=FS:=zV x t
theorem a8.length {xs:Fx V}(r:a8 xs us):xs.length=us.length:=RV r
theorem a8.get: ∀ {xs:Fx V}{us:Fx FE}{i:FX}{x:V},a8 xs us->xs[i]?=FB x-> ∃u,us[i]?=FB u/\bo x u
 |_,_,_,_, .nil,e=>by simp at e
 |_,_,0,_, .cons r _,e=>by simp at e;subst e;exact#[_,Go,r]
 |_,_,i+1,x, .cons _ t,e=>by
  obtain⟨u,h1,h2⟩:=a8.get (i:=i) (x:=x) t (by simpa using e);exact#[u,by simpa using h1,h2]
theorem a8.append: ∀ {xs ys:Fx V}{us ws:Fx FE},a8 xs us->a8 ys ws->a8 (xs++ys) (us++ws)
 |_,_,_,_, .nil,s=>s
 |_,_,_,_, .cons r t,s=> .cons r (a8.append t s)
theorem a8.take: ∀ {xs:Fx V}{us:Fx FE}(n:FX),a8 xs us->a8 (xs.take n) (us.take n)
 |_,_,0,_=> .nil
 |_,_,_+1, .nil=> .nil
 |_,_,n+1, .cons r t=> .cons r (a8.take n t)
theorem a8.drop: ∀ {xs:Fx V}{us:Fx FE}(n:FX),a8 xs us->a8 (xs.drop n) (us.drop n)
 |_,_,0,r=>r
 |_,_,_+1, .nil=> .nil
 |_,_,n+1, .cons _ t=>a8.drop n t
def aI (H:Hp) (a:FG) (o:HO):Hp:=λb=>if b=a then FB o else H b
def ae {H:Hp}{a:FG}{o:HO} :aI H a o a=FB o:=by unfold aI;rw[FI Go]
def ac {H:Hp}{a b:FG}{o:HO}(h:b≠a):aI H a o b=H b:=by unfold aI;rw[FF h]
def Ea {H:Hp}{a:FG}{o u:HO} :aI (aI H a o) a u=aI H a u:=by
 funext b;unfold aI;split<;>rfl
def qp {H:Hp}{a b:FG}{o u:HO}(h:H a=FB o) (h':H b=FB u) (d:o≠u):a≠b:=by
 intro e;subst e;rw[h] at h';exact d (F4 h')
def aj {H:Hp}{a b:FG}{o:HO}(h:H a=FB o) (h':H b=FM):a≠b:=by
 intro e;subst e;rw[h] at h';cases h'
section
variable {P:Gy}{w:Hf}{H H':Hp}{h h':Ho}{a:FG}{o:HO}
theorem cx.lt (x:cx P w H h a o):a<h.objs.size:=by
 cases o with
 |lst xs=>obtain⟨_,_,_,_,e⟩:=x;exact Gq e
 |tup xs=>obtain⟨_,_,_,p⟩:=x;exact p.lt
 |dK aD=>obtain⟨_,_,_,_,o,_,_,e,_⟩:=x;exact Gq e
 |dT aD=>obtain⟨_,_,_,_,o,_,_,e,_⟩:=x;exact Gq e
 |set S n=>obtain⟨o,_,_,_,e,_⟩:=x;exact Gq e
 |ins C dx fs=>obtain⟨_,_,_,e,_⟩:=x;exact Gq e
 |own y=>obtain⟨_,e⟩:=x;exact Gq e
 |xd fs=>obtain⟨_,⟨_,_,_,e,_⟩,_⟩:=x;exact Gq e
 |rng lo hi=>obtain⟨_,_,_,e⟩:=x;exact Gq e
 |Ri ob u=>obtain⟨e,_⟩:=x;exact Gq e
 |ZN ps=>exact Gq (show h.get? a=FB _ from x)
 |met f y=>exact Gq (show h.get? a=FB _ from x)
 |ext φ=>obtain⟨_,⟨_,e⟩,_⟩:=x;exact Gq e
theorem Paired.NV {α β:Type}{F G:α->β->Prop} : ∀ {l₁:Fx α}{l₂:Fx β},Paired F l₁ l₂->(∀a b,F a b->G a b)->Paired G l₁ l₂
 |_,_, .nil,_=> .nil
 |_,_, .cons r t,f=> .cons (f _ _ r) (Paired.NV t f)
def cx.Rw (x:cx P w H h a o) (k: ∀b u,(b=a\/H b=FB (.own a))->h.get? b=FB u->h'.get? b=FB u)
  (ho: ∀b,H b=FB (.own a)->H' b=FB (.own a)) (ht: ∀b xs,H b=FB (.tup xs)->H' b=FB (.tup xs)):cx P w H' h' a o:=by
 induction o with
 |lst xs=>obtain⟨z,Il,n,r,e⟩:=x;exact#[z,Il,n,r,k _ _ (.inl Go) e]
 |tup xs=>obtain⟨z,Il,r,ob,e,c⟩:=x;exact#[z,Il,r,ob,k _ _ (.inl Go) e,c]
 |dK aD=>obtain⟨z,y,vs,r,ob,es,ep,e,c⟩:=x;exact#[z,y,vs,r,ob,es,ep,k _ _ (.inl Go) e,c]
 |dT aD=>
  obtain⟨z,y,xs,r,ob,es,ep,e,c⟩:=x;exact#[z,y,xs,Paired.NV r λp q z=>#[z.1,ht _ _ z.2.1,z.2.2],ob,es,ep,k _ _ (.inl Go) e,c]
 |set S n=>obtain⟨ob,es,ep,t,e,c⟩:=x;exact#[ob,es,ep,t,k _ _ (.inl Go) e,c]
 |ins C dx fs=>
  obtain⟨d,z,ne,e,mA,⟨od,es,ep,e2,c⟩,r⟩:=x;exact#[ho _ d,z,ne,k _ _ (.inl Go) e,mA,#[od,es,ep,k _ _ (.inr d) e2,c],r]
 |own y=>obtain⟨ob,e⟩:=x;exact#[ob,k _ _ (.inl Go) e]
 |xd fs=>obtain⟨mA,⟨od,es,ep,e,c⟩,r⟩:=x;exact#[mA,#[od,es,ep,k _ _ (.inl Go) e,c],r]
 |rng lo hi=>obtain⟨t,u,v,e⟩:=x;exact#[t,u,v,k _ _ (.inl Go) e]
 |Ri ob u ih=>obtain⟨e,q⟩:=x;exact#[k _ _ (.inl Go) e,ih q]
 |ZN ps=>
  have e:h.get? a=FB { cls:= .none,data:= .fields ps } :=x
  show h'.get? a=FB { cls:= .none,data:= .fields ps }
  exact k a _ (.inl Go) e
 |met f y=>
  have e:h.get? a=FB (PH (.ref f) (.ref y)):=x
  show h'.get? a=FB (PH (.ref f) (.ref y))
  exact k a _ (.inl Go) e
 |ext φ=>obtain⟨p,⟨o,e⟩,st⟩:=x;exact#[st _ _ p λo q=>k _ _ (.inl Go) q,#[o,k _ _ (.inl Go) e],st]
theorem hJ.lt (x:hJ P w H h) (e:H a=FB o):a<h.objs.size:=(x a o e).lt
def hJ.fresh (x:hJ P w H h) (e:h.objs.size<=a):H a=FM:=by
 cases q:H a with
 |none=>rfl
 |some u=>exact F6 (Gv (x.lt q) e) (IB _)
def hJ.kept (x:hJ P w H h) (k: ∀b u,h.get? b=FB u->h'.get? b=FB u):hJ P w H h':=λa o e=>
 (x a o e).Rw (λb u _ q=>k b u q) [05] λ_ _ q=>q
def hJ.laid (x:hJ P w H h) (k: ∀b u,h.get? b=FB u->h'.get? b=FB u) (hp:h.objs.size<=a) (new:cx P w (aI H a o) h' a o):hJ P w (aI H a o) h':=λb u e=>by
 have hn:=x.fresh hp;by_cases hb:b=a
 .subst hb;rw[ae] at e;cases e;exact new
 .rw[ac hb] at e
  exact(x b u e).Rw (λc v _ q=>k c v q) (λc q=>by rw[ac (aj q hn)];exact q) λc xs q=>by rw[ac (aj q hn)];exact q
end
def eV:FP HO->Prop
 |some (.lst _)=>True
 |some (.dK _)=>True
 |some (.dT _)=>True
 |some (.set _ _)=>True
 |some (.ins _ _ _)=>True
 |some (.ext _)=>True
 |_=>False
section
variable {P:Gy}{w:Hf}{H:Hp}{h h':Ho}{x e:FG}{o':HO}
def hJ.write (ok:hJ P w H h) (mu:eV (H x)) (he:e=x\/H e=FB (.own x)) (k: ∀b u,b≠e->h.get? b=FB u->h'.get? b=FB u) (heo: ∃u,h'.get? e=FB u)
  (new:cx P w (aI H x o') h' x o'):hJ P w (aI H x o') h':=λb u q=>by
 have af1: ∀c y,H c=FB (.own y)->c≠x:=λc y r z=>by subst z;rw[r] at mu;exact mu
 have alj: ∀c xs,H c=FB (.tup xs)->c≠x:=λc xs r z=>by subst z;rw[r] at mu;exact mu
 by_cases hb:b=x
 .subst hb;rw[ae] at q;cases q;exact new
 .rw[ac hb] at q
  by_cases hbe:b=e
  .have q':H b=FB (.own x):=by
    rcases he with z|z
    .exact F6 (hbe.trans z) hb
    .rw[hbe];exact z
   rw[q] at q';cases q';obtain⟨v,hv⟩:=heo;exact#[v,by rw[hbe];exact hv]
  .refine(ok b u q).Rw (λc v hc r=>k c v ?_ r) (λc r=>by rw[ac (af1 c b r)];exact r) λc xs r=>by rw[ac (alj c xs r)];exact r
   rcases hc with rfl|hc
   .exact hbe
   .rintro rfl
    rcases he with z|z
    .exact af1 c b hc z
    .rw[hc] at z;cases z;exact hb Go
end
section
variable {fs fs' ex ex':Fx FG}{H H1 H2:Hp}{h h1 h2 h':Ho}{a x e:FG}{o:HO}
def Un.any (u:Un fs ex H H1 h h1) {b:FG}(q:h.get? b=FB ob) (n:H b=FM) (hx:b∉ex): ∃sl,h1.get? b=FB { ob with slots:=sl } :=by
 by_cases hb:b∈fs
 .exact u.slot b ob q n hb hx
 .exact#[ob.slots,u.keep b ob q n hb hx]
def Un.kept (k: ∀b u,h.get? b=FB u->h'.get? b=FB u):Un fs ex H H h h':=
 #[λb ob q _ _ _=>k b ob q,λb ob q _ _ _=>#[ob.slots,k b ob q],λ_ _ _ n _=>n,λb ob q _=>#[ob,k b ob q],λ_ _ q=>q,λ_ _ _ q=>q,λ_ ps q=>#[[].toArray,by rw[q];simp]]
def Un.refl:Un fs ex H H h h:=Un.kept λ_ _ q=>q
def Un.laid (k: ∀b u,h.get? b=FB u->h'.get? b=FB u) (hp:h.objs.size<=a) (hn:H a=FM):Un fs ex H (aI H a o) h h' where
 keep:=λb u q _ _ _=>k b u q
 slot:=λb u q _ _ _=>#[u.slots,k b u q]
 free:=λb u q n _=>by rw[ac (Hv (Gv (Gq q) hp))];exact n
 there:=λb u q _=>#[u,k b u q]
 Rj:=λb xs q=>by rw[ac (aj q hn)];exact q
 Q5:=λb u xs q=>by rw[ac (aj q hn)];exact q
 Rk:=λb ps q=>#[[].toArray,by rw[ac (aj q hn),q];simp]
def Un.write (mu:eV (H x)) (he:e=x\/H e=FB (.own x)) (k: ∀b u,b≠e->h.get? b=FB u->h'.get? b=FB u) (heo: ∃u,h'.get? e=FB u):Un fs ex H (aI H x o) h h':=by
 have hx: ∀b,H b=FM->b≠x:=λb n z=>by subst z;rw[n] at mu;exact mu
 have hb: ∀b,H b=FM->b≠e:=λb n z=>by
  subst z;rcases he with r|r
  .exact hx b n r
  .rw[n] at r;cases r
 have hm: ∀b u,H b=FB u-> ¬eV (FB u)->b≠x:=λb u q nm z=>by subst z;rw[q] at mu;exact nm mu
 refine#[λb u q n _ _=>k b u (hb b n) q,λb u q n _ _=>#[u.slots,k b u (hb b n) q],λb u q n _=>by rw[ac (hx b n)];exact n,λb u q _=>?_,
  λb xs q=>by rw[ac (hm b _ q λz=>z)];exact q,λb u xs q=>by rw[ac (hm b _ q λz=>z)];exact q,λb ps q=>#[[].toArray,by rw[ac (hm b _ q λz=>z),q];simp]]
 by_cases hbe:b=e
 .subst hbe;exact heo
 .exact#[u,k b u hbe q]
end
structure Cx where
 prog:Gy
 w:Hf
 K:FC
 mg:Gf->FP FE
 base:Ho
 A:Hm
 N:Fx Gf
 Ql:FJ
 H_0:Hp
 env:Env
 outer:Fx Env
 stack:Fx Env
 ex:Fx FG
 fn:Gf->GP
 calm:GP
 pn:Fx (FG×Jp)
 xe:FE->FJ->Prop
abbrev Cx.fs (X:Cx):Fx FG:=rq X.outer
def o6 (sc:Scope) (x:Gf):Prop:=sc.names.lookup x=FB .local\/sc.names.lookup x=FB .cell\/sc.names.lookup x=FB .free
def Loc (sc:Scope) (x:Gf):Prop:=sc.names.lookup x=FB .local\/sc.names.lookup x=FB .cell
def Look (env:Env) (h:Ho) (m:Gf->FP FE) (x:Gf) (u:FE):Prop:=
 (env.kindOf x=FB .local/\m x=FB u)\/((env.kindOf x=FB .cell\/env.kindOf x=FB .free)/\ ∃c,env.cells.lookup x=FB c/\h.IsCell c (FB u))
structure Cx.Ok (X:Cx):Prop where
 mod:Mod X.K X.mg X.base
 kind:X.env.scope.kind= .function
 glob:X.env.globals=JI
 blt:X.env.builtins=Zw
 above:X.Ql.heap.objs.size<=X.env.locals
 inj: ∀x y c,X.env.cells.lookup x=FB c->X.env.cells.lookup y=FB c->x=y
 has: ∀x,(X.env.kindOf x=FB .cell\/X.env.kindOf x=FB .free)-> ∃c,X.env.cells.lookup x=FB c
 YB: ∀x c,X.fn x=FS->X.env.cells.lookup x=FB c->X.Ql.heap.objs.size<=c
 hd:X.calm=FS->X.A.handled=FM
 frames:X.A.frames=FB X.stack
 YC:X.stack=X.outer\/(X.stack=X.env::X.outer/\X.env.frame=FB X.env.locals)
 exf: ∀b∈X.ex,b≠X.env.locals/\ ∀x c,X.env.cells.lookup x=FB c->c≠b
 bs: ∀b o,X.base.get? b=FB o->X.Ql.heap.get? b=FB o/\X.H_0 b=FM
 Vq:X.base.objs.size<=X.Ql.heap.objs.size
 Tv: ∀b o,X.base.get? b=FB o->b∉X.ex
 Tw: ∀b∈X.ex,b∉X.fs
 funs:X.Ql.heap.FunFrames X.base X.outer
 W7: ∀b∈X.fs,X.H_0 b=FM
structure aE (X:Cx) (pins:Fx (FG×Jp)) (σ:Fx (FP V)) (H:Hp) (s:FJ):Prop where
 ok:X.Ok
 os:s.os=X.Ql.os
 bare:QJ s.gens
 base:Un X.fs X.ex X.H_0 H X.Ql.heap s.heap
 loc: ∃m,s.heap.Ns X.env.locals m/\ ∀(i:FX) (x:Gf) (v:V),X.N[i]?=FB x->σ[i]?=FB (FB v)->o6 X.env.scope x-> ∃u,bo v u/\Look X.env s.heap m x u
 cell: ∀x c,X.env.cells.lookup x=FB c-> ∃v,s.heap.IsCell c v
 free:H X.env.locals=FM
 L3: ∀x c,X.env.cells.lookup x=FB c->H c=FM
 pin: ∀p∈X.pn++pins,s.heap.get? p.1=FB p.2/\H p.1=FM/\p.1≠X.env.locals/\p.1∉X.fs/\ ∀v,p.2.data≠ .cell v
 IQ:hJ X.prog X.w H s.heap
 len:σ.length=X.N.length
section
variable {X:Cx}{pins:Fx (FG×Jp)}{σ:Fx (FP V)}{H H':Hp}{s:FJ}{h':Ho}
def Cx.Ok.alk (ok:X.Ok) {b:FG}{o:Jp}(e:X.base.get? b=FB o):b∉X.fs:=λhb=>by
 have:=(ok.funs.mem hb).1;rw[e] at this;cases this
theorem aE.bs (I:aE X pins σ H s): ∀b o,X.base.get? b=FB o->s.heap.get? b=FB o/\H b=FM:=λb o e=>
 #[I.base.keep b o (I.ok.bs b o e).1 (I.ok.bs b o e).2 (I.ok.alk e) (I.ok.Tv b o e),I.base.free b o (I.ok.bs b o e).1 (I.ok.bs b o e).2 (I.ok.Tv b o e)]
def aE.bk (I:aE X pins σ H s): ∀b o,X.base.get? b=FB o->s.heap.get? b=FB o:=λb o e=>(I.bs b o e).1
theorem aE.mod (I:aE X pins σ H s):Mod X.K X.mg X.base:=I.ok.mod
def aE.NW (I:aE X pins σ H s):X.K.In s.heap:=I.ok.mod.VW.keeps I.bk
def aE.fr (I:aE X pins σ H s): ∃m,Fr X.base X.env.locals s.heap m:=
 let ⟨m,hn,_⟩:=I.loc
 #[m,hn,I.bk,F7 I.ok.Vq I.ok.above]
theorem aE.lt (I:aE X pins σ H s):X.env.locals<s.heap.objs.size:=let ⟨_,hn,_⟩:=I.loc;hn.lt
def aE.sz (I:aE X pins σ H s):X.Ql.heap.objs.size<=s.heap.objs.size:=F7 I.ok.above (Lb I.lt)
def aE.alm (I:aE X pins σ H s) {a:FG}(h:s.heap.objs.size<=a):a∉X.fs:=λhb=>by
 obtain⟨_,o,ho,_⟩:=I.ok.funs.mem hb;exact F6 (Gv (Gq ho) (F7 I.sz h)) (IB _)
def aE.YD (I:aE X pins σ H s): ∀x c,X.env.cells.lookup x=FB c->c≠X.env.locals:=λx c e z=>by
 obtain⟨v,o,ho,hd⟩:=I.cell x c e;obtain⟨m,⟨o',es,ep,Sb,XZ,_⟩,_⟩:=I.loc;rw[z,Sb] at ho;cases ho;rw[XZ] at hd;cases hd
theorem aE.funs (I:aE X pins σ H s):s.heap.FunFrames X.base X.outer:=by
 have all: ∀(l:Fx Env),(∀b∈rq l,b∈X.fs)->X.Ql.heap.FunFrames X.base l->s.heap.FunFrames X.base l:=by
  intro l
  induction l with
  |nil=>intro _ _;trivial
  |cons env r ih=>
   intro hs hl;obtain⟨hk,⟨L,o,hf,hn,ho,hd⟩,hr⟩:=hl;have hL:L∈X.fs:=hs L (by unfold rq;rw[Li,hf];exact FL);obtain⟨sl,e⟩:=I.base.slot L o ho (I.ok.W7 L hL) hL λz=>I.ok.Tw L z hL;exact#[hk,#[L,_,hf,hn,e,hd],ih (λb hb=>hs b (by unfold rq;rw[Li,hf];exact FK _ hb)) hr]
 exact all X.outer (λ_ hb=>hb) I.ok.funs
theorem aE.stack (I:aE X pins σ H s):s.heap.FunFrames X.base X.stack:=by
 rcases I.ok.YC with e|⟨e,hf⟩
 .rw[e];exact I.funs
 .rw[e]
  obtain⟨m,hn,_⟩:=I.loc;refine .cons (by rw[I.ok.kind];decide) hf hn ?_ I.funs;exact Ho.get?_none_of_le (F7 I.ok.Vq I.ok.above)
def aE.SI (I:aE X pins σ H s): ∀b∈rq X.stack,b∈X.env.locals::X.fs:=λb hb=>by
 rcases I.ok.YC with e|⟨e,hf⟩
 .rw[e] at hb;exact FK _ hb
 .rw[e] at hb
  unfold rq at hb;rw[Li,hf] at hb;exact hb
def aE.Qa (I:aE X pins σ H s): ∀b∈rq X.stack,H b=FM:=λb hb=>by
 rcases FU.mp (I.SI b hb) with e|hb
 .rw[e];exact I.free
 .obtain⟨_,o,ho,_⟩:=I.ok.funs.mem hb
  exact I.base.free b o ho (I.ok.W7 b hb) λz=>I.ok.Tw b z hb
def aE.step {g':JN RJ}{t':FX}{d':Drawn}{ch:Fx FG}(I:aE X pins σ H s)
  (Uy: ∀b∈ch,(b∈X.ex\/X.Ql.heap.objs.size<=b)/\b≠X.env.locals/\(∀x c,X.env.cells.lookup x=FB c->c≠b)/\ ∀p∈X.pn++pins,p.1≠b)
  (keep: ∀b o,b≠X.env.locals->b∉X.fs->b∉ch->s.heap.get? b=FB o->H b=FM->h'.get? b=FB o)
  (slot: ∀b o,b≠X.env.locals->b∈X.fs->b∉ch->s.heap.get? b=FB o->H b=FM-> ∃sl,h'.get? b=FB { o with slots:=sl }) (free: ∀b o,b∉ch->s.heap.get? b=FB o->H b=FM->H' b=FM)
  (there: ∀b o,b∉ch->s.heap.get? b=FB o-> ∃o',h'.get? b=FB o')
  (Rj: ∀b xs,H b=FB (.tup xs)->H' b=FB (.tup xs)) (Q5: ∀b o u,H b=FB (.Ri o u)->H' b=FB (.Ri o u)) (Rk: ∀b ps,H b=FB (.ZN ps)-> ∃more,H' b=FB (.ZN (ps++more)))
  (ns: ∀m,s.heap.Ns X.env.locals m->h'.Ns X.env.locals m) (IQ:hJ X.prog X.w H' h') (hg:QJ g'):
  aE X pins σ H' { s with heap:=h',gens:=g',drawn:=d',toks:=t' } :=by
 have neL: ∀b o,X.Ql.heap.get? b=FB o->b≠X.env.locals:=λb o e=>Hv (Gv (Gq e) I.ok.above)
 have neC: ∀b o,X.Ql.heap.get? b=FB o->b∉X.ex->b∉ch:=λb o e hx hb=>by
  rcases(Uy b hb).1 with z|z
  .exact hx z
  .exact F6 (Gv (Gq e) z) (IB _)
 have cellK: ∀x c,X.env.cells.lookup x=FB c-> ∀v,s.heap.IsCell c v->h'.IsCell c v:=λx c e v ⟨o,ho,hd⟩=>by
  have nch:c∉ch:=λz=>(Uy c z).2.2.1 x c e Go
  by_cases hc:c∈X.fs
  .obtain⟨sl,q⟩:=slot c o (I.YD x c e) hc nch ho (I.L3 x c e)
   exact#[_,q,hd]
  .exact#[o,keep c o (I.YD x c e) hc nch ho (I.L3 x c e),hd]
 refine#[I.ok,I.os,hg,#[λb o e n hb hx=>?_,λb o e n hb hx=>?_,λb o e n hx=>?_,λb o e hx=>?_,λb xs e=>Rj b xs (I.base.Rj b xs e),λb o xs e=>Q5 b o xs (I.base.Q5 b o xs e),λb ps e=>?_],?_,λx c e=>?_,?_,λx c e=>?_,λp hp=>?_,IQ,I.len]
 .exact keep b o (neL b o e) hb (neC b o e hx) (I.base.keep b o e n hb hx) (I.base.free b o e n hx)
 .obtain⟨sl,e1⟩:=I.base.slot b o e n hb hx
  obtain⟨sl',e2⟩:=slot b _ (neL b o e) hb (neC b o e hx) e1 (I.base.free b o e n hx);exact#[sl',e2]
 .obtain⟨o',e1⟩:=I.base.there b o e hx
  exact free b o' (neC b o e hx) e1 (I.base.free b o e n hx)
 .obtain⟨o',e1⟩:=I.base.there b o e hx
  exact there b o' (neC b o e hx) e1
 .obtain⟨m1,e1⟩:=I.base.Rk b ps e
  obtain⟨m2,e2⟩:=Rk b _ e1;exact#[m1++m2,by rw[e2,JN.append_assoc]]
 .obtain⟨m,hn,hl⟩:=I.loc
  refine#[m,ns m hn,λi x v e1 e2 e3=>?_];obtain⟨u,r,l⟩:=hl i x v e1 e2 e3;refine#[u,r,?_];rcases l with l|⟨k,c,e,z⟩
  .exact .inl l
  .exact .inr #[k,c,e,cellK x c e _ z]
 .obtain⟨v,z⟩:=I.cell x c e
  exact#[v,cellK x c e v z]
 .obtain⟨m,⟨o,_,_,ho,_⟩,_⟩:=I.loc
  exact free _ o (λz=>(Uy _ z).2.1 Go) ho I.free
 .obtain⟨v,o,ho,hd⟩:=I.cell x c e
  exact free c o (λz=>(Uy c z).2.2.1 x c e Go) ho (I.L3 x c e)
 .obtain⟨e,n,ne,nf,d⟩:=I.pin p hp
  have nch:p.1∉ch:=λz=>(Uy p.1 z).2.2.2 p hp Go
  exact#[keep p.1 p.2 ne nf nch e n,free p.1 p.2 nch e n,ne,nf,d]
def aE.un {t':FX}(I:aE X pins σ H s) (u:Un X.fs [] H H' s.heap h') (IQ:hJ X.prog X.w H' h'):aE X pins σ H' { s with heap:=h',toks:=t' } :=by
 obtain⟨m,⟨o,es,ep,ho,r⟩,_⟩:=id I.loc;obtain⟨sl,hL⟩:=u.any ho I.free (by simp);exact I.step (g':=s.gens) (d':=s.drawn) (ch:=[]) (λ_ z=>nomatch z) (λb o _ hb _ e n=>u.keep b o e n hb (by simp)) (λb o _ hb _ e n=>u.slot b o e n hb (by simp)) (λb o _ e n=>u.free b o e n (by simp)) (λb o _ e=>u.there b o e (by simp)) u.Rj u.Q5 u.Rk (λm' hm=>by
  obtain⟨o',es',ep',Sb,r'⟩:=hm;rw[ho] at Sb;cases Sb;exact#[_,es',ep',hL,r']) IQ I.bare
def aE.call {g':JN RJ}{t':FX}{d':Drawn}{ch:Fx FG}(I:aE X pins σ H s) (u:Un (rq X.stack) ch H H' s.heap h') (IQ:hJ X.prog X.w H' h') (hg:QJ g')
  (Uy: ∀b∈ch,(b∈X.ex\/X.Ql.heap.objs.size<=b)/\b≠X.env.locals/\(∀x c,X.env.cells.lookup x=FB c->c≠b)/\ ∀p∈X.pn++pins,p.1≠b):
  aE X pins σ H' { s with heap:=h',gens:=g',drawn:=d',toks:=t' } :=by
 obtain⟨m,⟨o,es,ep,ho,r⟩,_⟩:=id I.loc;obtain⟨sl,hL⟩:=u.any ho I.free λz=>(Uy _ z).2.1 Go;exact I.step (ch:=ch) Uy (λb o hL hb hc e n=>u.keep b o e n (λz=>(FU.mp (I.SI b z)).elim hL hb) hc) (λb o _ _ hc e n=>u.any e n hc) (λb o hc e n=>u.free b o e n hc) (λb o hc e=>u.there b o e hc) u.Rj u.Q5 u.Rk (λm' hm=>by
  obtain⟨o',es',ep',Sb,r'⟩:=hm;rw[ho] at Sb;cases Sb;exact#[_,es',ep',hL,r']) IQ hg
def aE.turned {t':FX}{it:FG}(I:aE X pins σ H s) (k: ∀b o,b≠it->s.heap.get? b=FB o->h'.get? b=FB o) (hn:H it=FM) (hL:it≠X.env.locals)
  (h1:it∈X.ex\/X.Ql.heap.objs.size<=it) (h2: ∀x c,X.env.cells.lookup x=FB c->c≠it) (h3: ∀p∈X.pn++pins,p.1≠it):aE X pins σ H { s with heap:=h',toks:=t' } :=by
 have nit: ∀b u,H b=FB u->b≠it:=λb u e z=>by rw[z,hn] at e;cases e
 refine I.step (g':=s.gens) (d':=s.drawn) (ch:=[it]) (λb hb=>?_) (λb o _ _ hc e _=>k b o (λz=>hc (by simp [z])) e) (λb o _ _ hc e _=>#[o.slots,k b o (λz=>hc (by simp [z])) e]) (λ_ _ _ _ n=>n)
  (λb o hc e=>#[o,k b o (λz=>hc (by simp [z])) e]) (λ_ _ e=>e) (λ_ _ _ e=>e) (λb ps e=>#[[].toArray,by rw[e];simp]) (λm hm=>?_) (λb u e=>?_) I.bare
 .have e:b=it:=by simpa using hb
  subst e;exact#[h1,hL,h2,h3]
 .obtain⟨o,es,ep,ho,r⟩:=hm
  exact#[o,es,ep,k _ o (Jf hL) ho,r]
 .refine(I.IQ b u e).Rw (λc v hc q=>k c v ?_ q) [05] λ_ _ q=>q
  rcases hc with z|z
  .rw[z];exact nit b u e
  .exact nit c _ z
def aE.tok (I:aE X pins σ H s) (t:FX):aE X pins σ H { s with toks:=t } :=I.un (h':=s.heap) (t':=t) Un.refl I.IQ
theorem aE.kept (I:aE X pins σ H s) (k: ∀b u,s.heap.get? b=FB u->h'.get? b=FB u):aE X pins σ H { s with heap:=h',toks:=t' } :=I.un (Un.kept k) (I.IQ.kept k)
theorem aE.laid {a:FG}{o:HO}(I:aE X pins σ H s) (k: ∀b u,s.heap.get? b=FB u->h'.get? b=FB u) (hp:s.heap.objs.size<=a) (new:cx X.prog X.w (aI H a o) h' a o):
  aE X pins σ (aI H a o) { s with heap:=h',toks:=t' } :=I.un (Un.laid k hp (I.IQ.fresh hp)) (I.IQ.laid k hp new)
theorem aE.write {x e:FG}{o:HO}(I:aE X pins σ H s) (mu:eV (H x)) (he:e=x\/H e=FB (.own x)) (k: ∀b u,b≠e->s.heap.get? b=FB u->h'.get? b=FB u) (heo: ∃u,h'.get? e=FB u)
  (new:cx X.prog X.w (aI H x o) h' x o):aE X pins σ (aI H x o) { s with heap:=h',toks:=t' } :=I.un (Un.write mu he k heo) (I.IQ.write mu he k heo new)
def aE.weak (I:aE X pins σ H s) (hl:σ'.length=σ.length) (w: ∀(i:FX) v,σ'[i]?=FB (FB v)->σ[i]?=FB (FB v)):aE X pins σ' H s:=
 #[I.ok,I.os,I.bare,I.base,let ⟨m,hn,hl'⟩:=I.loc;#[m,hn,λi x v e1 e2 e3=>hl' i x v e1 (w i v e2) e3],I.cell,I.free,I.L3,I.pin,I.IQ,hl.trans I.len]
def aE.U5 (I:aE X pins σ H s) (h: ∀p∈Tx,s.heap.get? p.1=FB p.2/\H p.1=FM/\p.1≠X.env.locals/\p.1∉X.fs/\ ∀v,p.2.data≠ .cell v):aE X Tx σ H s:=
 #[I.ok,I.os,I.bare,I.base,I.loc,I.cell,I.free,I.L3,λp hp=>(Gr.mp hp).elim (λz=>I.pin p (MC _ z)) (h p),I.IQ,I.len]
def oW {N:Fx Gf}(hN:N.Nodup) {i j:FX}{x:Gf}(a:N[i]?=FB x) (b:N[j]?=FB x):i=j:=by
 obtain⟨h1,e1⟩:=GG.mp a;obtain⟨h2,e2⟩:=GG.mp b;exact(Fx.getElem_inj hN).mp (e1.trans e2.symm)
def qg {M:Model}{A:Hm}{E:FE->FJ->Prop}{i:FX}{x:Gf}{v:V}{u:FE}{Q:Nc->FJ->Prop}(I:aE X pins σ H s) (hN:X.N.Nodup) (hi:X.N[i]?=FB x) (hx:Loc X.env.scope x) (r:bo v u)
  (h: ∀s',aE X pins (σ.set i (FB v)) H s'->(∃a,M4 a s.heap s'.heap/\(a=X.env.locals\/X.env.cells.lookup x=FB a))->Q () s') (hf:X.fn x=FS\/X.env.scope.names.lookup x=FB .local:=by first|exact .inl rfl|exact .inr rfl|assumption):Gk M A (storeName X.env x u) Q E s:=by
 obtain⟨m,hn,hl⟩:=id I.loc;have aaP:(X.env.scope.kind == .class||(X.env.scope.kind == .module&&X.env.locals !=X.env.globals))=Gc:=by rw[I.ok.kind];rfl
 have hiσ:i<σ.length:=by rw[I.len];exact(GG.mp hi).1
 have YD:=I.YD
 have tracked: ∀ {a:FG}{h':Ho},(∃o,s.heap.get? a=FB o/\H a=FM)->M4 a s.heap h'->hJ X.prog X.w H h':=λ{a h'} ha hs b ob e=>by
  obtain⟨_,_,Sd⟩:=ha;refine(I.IQ b ob e).Rw (λc w' hc q=>(hs.2 c ?_).trans q) [05] λ_ _ q=>q;rintro rfl;rcases hc with rfl|hc
  .rw[Sd] at e;cases e
  .rw[Sd] at hc;cases hc
 rcases hx with hk|hk
 .refine wpAny_storeName_local hk hn (λh' YE hs=>?_) aaP
  obtain⟨oL,_,_,hoL,_⟩:=id hn;refine h _ #[I.ok,I.os,I.bare,#[λb o e n hb hx=>?_,λb o e n hb hx=>?_,I.base.free,λb o e hx=>?_,I.base.Rj,I.base.Q5,I.base.Rk],#[_,YE,λj y v' e1 e2 e3=>?_],λy c e=>?_,I.free,I.L3,λp hp=>?_,tracked #[oL,hoL,I.free] hs,by simpa using I.len] #[_,hs, .inl Go]
  .exact(hs.2 b (Hv (Gv (Gq e) I.ok.above))).trans (I.base.keep b o e n hb hx)
  .obtain⟨sl,e1⟩:=I.base.slot b o e n hb hx
   exact#[sl,(hs.2 b (Hv (Gv (Gq e) I.ok.above))).trans e1]
  .obtain⟨o',e1⟩:=I.base.there b o e hx
   exact#[o',(hs.2 b (Hv (Gv (Gq e) I.ok.above))).trans e1]
  .by_cases hj:j=i
   .subst hj
    rw[hi] at e1;cases e1;rw[Oq hiσ] at e2;cases e2;exact#[u,r, .inl #[hk,by simp]]
   .rw[OZ (Jf hj)] at e2
    obtain⟨u',r',q⟩:=hl j y v' e1 e2 e3;refine#[u',r',?_];rcases q with⟨k,e⟩|⟨k,c,e,z⟩
    .refine .inl #[k,?_]
     have:y≠x:=λe=>hj (oW hN e1 (e▸hi))
     simp [this,e]
    .exact .inr #[k,c,e,z.sameBut hs (YD y c e)]
  .obtain⟨w',z⟩:=I.cell y c e
   exact#[w',z.sameBut hs (YD y c e)]
  .obtain⟨e,n,ne,nf,d⟩:=I.pin p hp
   exact#[(hs.2 p.1 ne).trans e,n,ne,nf,d]
 .have U6:X.fn x=FS:=by
   rcases hf with z|z
   .exact z
   .rw[z] at hk;cases hk
  obtain⟨c,hc⟩:=I.ok.has x (.inl hk);obtain⟨w',z⟩:=I.cell x c hc;refine wpAny_storeName_cell I.ok.kind hk hc z (λh' Xb hs=>?_);obtain⟨oc,hoc,aln⟩:=id z;refine h { s with heap:=h' } #[I.ok,I.os,I.bare,#[λb o e n hb hx=>?_,λb o e n hb hx=>?_,I.base.free,λb o e hx=>?_,I.base.Rj,I.base.Q5,I.base.Rk],#[m,hn.sameBut hs (Jf (YD x c hc)),λj y v' e1 e2 e3=>?_],λy c' e=>?_,I.free,I.L3,λp hp=>?_,tracked #[oc,hoc,I.L3 x c hc] hs,by simpa using I.len] #[c,hs, .inr hc]
  .exact(hs.2 b (Hv (Gv (Gq e) (I.ok.YB x c U6 hc)))).trans (I.base.keep b o e n hb hx)
  .obtain⟨sl,e1⟩:=I.base.slot b o e n hb hx
   exact#[sl,(hs.2 b (Hv (Gv (Gq e) (I.ok.YB x c U6 hc)))).trans e1]
  .obtain⟨o',e1⟩:=I.base.there b o e hx
   exact#[o',(hs.2 b (Hv (Gv (Gq e) (I.ok.YB x c U6 hc)))).trans e1]
  .by_cases hj:j=i
   .subst hj
    rw[hi] at e1;cases e1;rw[Oq hiσ] at e2;cases e2;exact#[u,r, .inr #[.inl hk,c,hc,Xb]]
   .rw[OZ (Jf hj)] at e2
    obtain⟨u',r',q⟩:=hl j y v' e1 e2 e3;refine#[u',r',?_];rcases q with q|⟨k,c',e,z'⟩
    .exact .inl q
    .refine .inr #[k,c',e,z'.sameBut hs ?_]
     rintro rfl;exact hj (oW hN e1 (I.ok.inj _ _ _ e hc▸hi))
  .by_cases hcc:c'=c
   .subst hcc;exact#[_,Xb]
   .obtain⟨w2,z2⟩:=I.cell y c' e
    exact#[w2,z2.sameBut hs hcc]
  .obtain⟨e,n,ne,nf,d⟩:=I.pin p hp
   refine#[(hs.2 p.1 ?_).trans e,n,ne,nf,d];intro q;rw[q,hoc] at e;have q':oc=p.2:=F4 e;exact d w' (by rw[<-q'];exact aln)
def kc {A:Hm}{E:FE->FJ->Prop}{i:FX}{x:Gf}{v:V}{u:FE}{Q:Nc->FJ->Prop}(I:aE X pins σ H s) (hN:X.N.Nodup) (hi:X.N[i]?=FB x) (hx:Loc X.env.scope x) (r:bo v u)
  (h: ∀s',aE X pins (σ.set i (FB v)) H s'->Q () s') (hf:X.fn x=FS\/X.env.scope.names.lookup x=FB .local:=by first|exact .inl rfl|exact .inr rfl|assumption):Gk M A (storeName X.env x u) Q E s:=
 qg I hN hi hx r (λs' I' _=>h s' I') hf
def aE.WJ {s':FJ}(I:aE X pins σ H s) (ho:s'.os=s.os) (u:Un (rq X.stack) ch H H' s.heap s'.heap) (IQ:hJ X.prog X.w H' s'.heap) (hg:QJ s'.gens)
  (Uy: ∀b∈ch,(b∈X.ex\/X.Ql.heap.objs.size<=b)/\b≠X.env.locals/\(∀x c,X.env.cells.lookup x=FB c->c≠b)/\ ∀p∈X.pn++pins,p.1≠b):aE X pins σ H' s':=by
 obtain⟨h',g',d',t',o'⟩:=s';have e:o'=s.os:=ho;subst e;exact I.call (g':=g') (t':=t') (d':=d') u IQ hg Uy
end
abbrev St:=Fx (FP V)
abbrev TE:=St->Hp->VK->Prop
abbrev TT:=St->Hp->(GP->Hp->Prop)->Prop
abbrev TA:=St->Hp->(Fx V->Hp->Prop)->Prop
structure eI where
 nx:St->Hp->Prop
 rt:VK
 bk:St->Hp->Prop:=λ_ _=>False
 ct:St->Hp->Prop:=λ_ _=>False
abbrev TS:=eI->St->Hp->Prop
inductive EP (X:Cx) (pins:Fx (FG×Jp)) (σ:St) (Q:VK) (u:FE) (s':FJ):Prop
 |mk (v:V) (H':Hp) (_:aE X pins σ H' s') (_:bo v u) (_:Q v H'):EP X pins σ Q u s'
def TP (X:Cx) (pins:Fx (FG×Jp)) (σ:St) (Q:GP->Hp->Prop) (b:GP) (s':FJ):Prop:= ∃H',aE X pins σ H' s'/\Q b H'
inductive AP (X:Cx) (pins:Fx (FG×Jp)) (σ:St) (Q:Fx V->Hp->Prop) (us:Fx FE) (s':FJ):Prop
 |mk (vs:Fx V) (H':Hp) (_:aE X pins σ H' s') (_:a8 vs us) (_:Q vs H'):AP X pins σ Q us s'
def SP (X:Cx) (pins:Fx (FG×Jp)) (D:eI) (f:Flow) (s':FJ):Prop:=
 match f with
 | .next=> ∃σ' H',aE X pins σ' H' s'/\D.nx σ' H'
 | .brk=> ∃σ' H',aE X pins σ' H' s'/\D.bk σ' H'
 | .cont=> ∃σ' H',aE X pins σ' H' s'/\D.ct σ' H'
 | .ret u=> ∃v σ' H',aE X pins σ' H' s'/\bo v u/\D.rt v H'
def PE (X:Cx) (e:HX) (t:TE):Prop:=
 ∀(pins:Fx (FG×Jp)) (s:FJ) (σ:St) (H:Hp) (Q:VK),aE X pins σ H s->t σ H Q->Gk (model X.prog X.w) X.A (eval e X.env) (EP X pins σ Q) X.xe s
def PT (X:Cx) (e:HX) (t:TT):Prop:=
 ∀(pins:Fx (FG×Jp)) (s:FJ) (σ:St) (H:Hp) (Q:GP->Hp->Prop),aE X pins σ H s->t σ H Q->Gk (model X.prog X.w) X.A (isTrue e X.env (eval e X.env)) (TP X pins σ Q) X.xe s
def PW (X:Cx) (e:HX) (t:TT):Prop:=
 ∀(whole:Sem FE) (pins:Fx (FG×Jp)) (s:FJ) (σ:St) (H:Hp) (Q:GP->Hp->Prop),aE X pins σ H s->t σ H Q->Gk (model X.prog X.w) X.A (isTrue e X.env whole) (TP X pins σ Q) X.xe s
def PW.pt {X:Cx}{e:HX}{t:TT}(h:PW X e t):PT X e t:=h _
def PA (X:Cx) (es:Fx HX) (t:TA):Prop:=
 ∀(pos:Pos) (pins:Fx (FG×Jp)) (s:FJ) (σ:St) (H:Hp) (Q:Fx V->Hp->Prop),aE X pins σ H s->t σ H Q->Gk (model X.prog X.w) X.A (spliced (Jr pos (F9 es X.env))) (AP X pins σ Q) X.xe s
def PS (X:Cx) (st:Stmt) (t:TS):Prop:=
 ∀(pins:Fx (FG×Jp)) (s:FJ) (σ:St) (H:Hp) (D:eI),aE X pins σ H s->t D σ H->Gk (model X.prog X.w) X.A (exec st X.env) (SP X pins D) X.xe s
def uJ (X:Cx) (st:Fx Stmt) (t:TS):Prop:=
 ∀(pins:Fx (FG×Jp)) (s:FJ) (σ:St) (H:Hp) (D:eI),aE X pins σ H s->t D σ H->Gk (model X.prog X.w) X.A (execs st X.env) (SP X pins D) X.xe s
inductive Bd (X:Cx) (st:Fx Stmt) (D:eI) (σ:St) (H:Hp):Prop
 |mk (t:TS) (_:uJ X st t) (_:t D σ H):Bd X st D σ H
def cc {α:Type}{t:Sem α}{Q Q':α->FJ->Prop}{A:Hm}{E:FE->FJ->Prop}{s:FJ}(h:Gk M A t Q E s) (hQ: ∀a s,Q a s->Q' a s):Gk M A t Q' E s:=Jc h hQ λ_ _ x=>x
section
variable {X:Cx}
def bin {a b:HX}{ta tb:TE}(ha:PE X a ta) (hb:PE X b tb) {pins:Fx (FG×Jp)}{s:FJ}{σ:St}{H:Hp}{R:V->V->Hp->Prop}(I:aE X pins σ H s) (h:ta σ H λx H1=>tb σ H1 λy H2=>R x y H2)
  {α:Type}{Q:α->FJ->Prop}{f:FE->FE->Sem α}
  (hf: ∀v u s2 x y H2,aE X pins σ H2 s2->bo x v->bo y u->R x y H2->Gk (model X.prog X.w) X.A (f v u) Q X.xe s2):
  Gk (model X.prog X.w) X.A (eval a X.env) (λv s₁=>Gk (model X.prog X.w) X.A (eval b X.env) (λu s₂=>Gk (model X.prog X.w) X.A (f v u) Q X.xe s₂) X.xe s₁) X.xe s:=by
 refine cc (ha pins s σ H _ I h) λv s1 ⟨x,H1,I1,r1,q1⟩=>?_;refine cc (hb pins s1 σ H1 _ I1 q1) λu s2 ⟨y,H2,I2,r2,q2⟩=>?_;exact hf v u s2 x y H2 I2 r1 r2 q2
def gc:FX->St->Hp->VK->Prop
 |0,some v::_,H,Q=>Q v H
 |i+1,_::σ,H,Q=>gc i σ H Q
 |_,_,_,_=>False
theorem Dp {H:Hp}{Q:VK} : ∀ {i:FX}{σ:St},gc i σ H Q-> ∃v,σ[i]?=FB (FB v)/\Q v H
 |0,some v::_,h=>#[v,Go,h]
 |i+1,_::σ,h=>Dp (i:=i) (σ:=σ) h
theorem nj {H:Hp}{Q:VK}{v:V}(q:Q v H): ∀ {i:FX}{σ:St},σ[i]?=FB (FB v)->gc i σ H Q
 |0,some _::_,e=>F4 (F4 e)▸q
 |i+1,_::σ,e=>nj q (i:=i) (σ:=σ) e
def tC (v:V):TE:=λ_ H Q=>Q v H
def dR {i:FX}{x:Gf}{pos:Pos}(hN:X.N[i]?=FB x) (hv:o6 X.env.scope x) (hd:(x == [003])=Gc:=by decide) (Td:(x == ("__classdict__":Gf))=Gc:=by decide):PE X (.Name x pos) (gc i):=by
 rw[01];obtain⟨v,e,h⟩:=Dp h;obtain⟨m,hn,hl⟩:=I.loc;obtain⟨u,r,l⟩:=hl i x v hN e hv;have eS:EP X pins σ Q u s:=#[v,H,I,r,h];rcases l with⟨hk,hm⟩|⟨hk,c,hc,U7⟩
 .exact Zy (Xf I.ok.kind hk hn hm eS) hd
 .rcases hk with hk|hk
  .exact Zy (Yc I.ok.kind hk hc U7 eS) hd
  .exact Zy (wpAny_loadName_free I.ok.kind hk hc U7 eS Td) hd
def ak {i j pos} :PE X (.Constant (.int i) j pos) (tC (.int i)):=λ_ _ _ H _ I h=>wpAny_Constant_int #[.int i,H,I.tok _,#[_,Go],h]
def uI {b j pos} :PE X (.Constant (.bool b) j pos) (tC (.bl b)):=λ_ _ _ H _ I h=>Constant_bool #[.bl b,H,I,Go,h]
def aaQ {j pos} :PE X (.Constant .none j pos) (tC .Jm):=λ_ _ _ H _ I h=>Constant_none #[.Jm,H,I,Go,h]
def dI {x j pos} :PE X (.Constant (.str x) j pos) (tC (.str x)):=λ_ _ _ H _ I h=>Calls.Constant_str #[.str x,H,I.tok _,#[_,Go],h]
def Gl (X:Cx) (x:Gf):Prop:=X.env.kindOf x=FB .globalImplicit
def gv {E:FE->FJ->Prop}{pins:Fx (FG×Jp)}{s:FJ}{σ:St}{H:Hp}{x:Gf}{u:FE}{pos:Pos}{Q:FE->FJ->Prop}(I:aE X pins σ H s) (hg:Gl X x) (hm:X.mg x=FB u) (h:Q u s)
  (hd:(x == [003])=Gc:=by decide):Gk (model X.prog X.w) X.A (eval (.Name x pos) X.env) Q E s:=
 RH I.ok.kind hg (Calls.loadGlobal_global (by rw[I.ok.glob];exact I.mod.glob.keeps I.bk) hm h) hd
def lS {E:FE->FJ->Prop}{pins:Fx (FG×Jp)}{s:FJ}{σ:St}{H:Hp}{x:Gf}{u:FE}{pos:Pos}{Q:FE->FJ->Prop}(I:aE X pins σ H s) (hg:Gl X x) (hm:X.mg x=FM) (hv:LC x=FB u) (h:Q u s)
  (hn:x≠"__name__":=by decide) (hd:(x == [003])=Gc:=by decide):Gk (model X.prog X.w) X.A (eval (.Name x pos) X.env) Q E s:=by
 obtain⟨mb,h1,h2⟩:=I.mod.blt;exact RH I.ok.kind hg (Calls.loadGlobal_builtin (by rw[I.ok.glob];exact I.mod.glob.keeps I.bk) hm (by rw[I.ok.blt];exact h1.keeps I.bk) ((h2 x hn).trans hv) h) hd
def qM {x:Gf}{v:V}{u:FE}{pos:Pos}(hg:Gl X x) (hm:X.mg x=FB u) (r:bo v u) (hd:(x == [003])=Gc:=by decide):PE X (.Name x pos) (tC v):=
 λ_ _ _ H _ I h=>gv I hg hm #[v,H,I,r,h] hd
variable {a b:HX}{ta tb:TE}{pos:Pos}
def PC (X:Cx) (op:CmpOp) (a b:HX) (t:TE):Prop:=
 ∀(pins:Fx (FG×Jp)) (s:FJ) (σ:St) (H:Hp) (Q:VK),aE X pins σ H s->t σ H Q->
  Gk (model X.prog X.w) X.A (eval a X.env) (λv s₁=>Gk (model X.prog X.w) X.A (eval b X.env) (λu s₂=>Gk (model X.prog X.w) X.A (IY op v u) (EP X pins σ Q) X.xe s₂) X.xe s₁) X.xe s
def AD (b:HX) (h:op≠ .In) (h2:op≠ .NotIn):behindInMarks op b=Gc:=by
 have e1:(op == CmpOp.In)=Gc:=by cases op<;>first|rfl|exact F6 Go h
 have e2:(op == CmpOp.NotIn)=Gc:=by cases op<;>first|rfl|exact F6 Go h2
 cases b<;>simp [behindInMarks,e1,e2]
def af2 (ta:TE):TE:=λσ H Q=>ta σ H λx H1=>Q (.bl (!decide (x= .Jm))) H1
def bo.WK {x:V}{v:FE}(r:bo x v):(v == IA)=decide (x= .Jm):=by
 cases x with
 |Jm=>cases r;rfl
 |bl _=>cases r;rfl
 |int _=>obtain⟨t,rfl⟩:=r;rfl
 |str _=>obtain⟨t,rfl⟩:=r;rfl
 |Tc _=>obtain⟨t,rfl⟩:=r;rfl
 |Yo _=>obtain⟨t,rfl⟩:=r;rfl
 |ref _=>cases r;rfl
 |ty _=>cases r;rfl
def Fh {j NY} (ha:PE X a ta):PC X .IsNot a (.Constant .none j NY) (af2 ta):=by
 rw[01];refine cc (ha pins s σ H _ I h) λv s1 ⟨x,H1,I1,r1,q1⟩=>?_;exact Constant_none (isnot_none_gen #[.bl _,H1,I1,by rw[r1.WK];rfl,q1])
inductive vC (R:GP->Hp->Prop) (x:V) (H1:Hp):Prop
 |mk (c:GP) (_:x= .bl c) (_:R c H1):vC R x H1
def tB (t:TE):TT:=λσ H Q=>t σ H (vC Q)
def fD {t:TE}(h:PC X op a b t) (h1:behindInMarks op b=Gc:=by first|exact AD _ [01] [01]|rfl):PT X (.Compare a [op] [b] pos) (tB t):=by
 intro pins s σ H Q I hw;refine WU (cc (h pins s σ H _ I hw) λv s1 h1=>cc h1 λu s2 h2=>cc h2 λc s3 ⟨x,H1,I1,r1,q1⟩=>?_) h1;obtain⟨d,rfl,q⟩:=q1;cases r1;exact Jq #[H1,I1,q]
def de {e:HX}{t:TE}(h:PE X e t) (he: ∀whole,isTrue e X.env whole=(do let v<-whole;standAt e.pos;holding [v] (truthy v)):=by intro _;rfl):PT X e (tB t):=by
 intro pins s σ H Q I hw;refine isTrue_plain (cc (h pins s σ H _ I hw) λv s1 ⟨x,H1,I1,r1,q1⟩=>?_) (he _);obtain⟨d,rfl,q⟩:=q1;cases r1;exact Jq #[H1,I1,q]
variable {tA tB':TT}{rest:Fx HX}
def aaR (t u:TT):TT:=λσ H Q=>t σ H λc H1=>if c=FS then u σ H1 Q else Q Gc H1
def tOr (t u:TT):TT:=λσ H Q=>t σ H λc H1=>if c=FS then Q FS H1 else u σ H1 Q
def alo (t:TT):TT:=λσ H Q=>t σ H λc H1=>Q (!c) H1
def kh (ha:PT X a tA):PW X (.BoolOp .And [a] pos) tA:=by
 intro wh pins s σ H Q I h;refine isTrue_and (cc (ha pins s σ H Q I h) λc s1 e=>?_);cases c with
 |true=>exact isTrue_and_nil e
 |false=>exact e
def ou (ha:PT X a tA):PW X (.BoolOp .Or [a] pos) tA:=by
 intro wh pins s σ H Q I h;refine isTrue_or (cc (ha pins s σ H Q I h) λc s1 e=>?_);cases c with
 |false=>exact isTrue_or_nil e
 |true=>exact e
def lP (ha:PT X a tA) (hb:PW X (.BoolOp .And (b::rest) pos) tB'):PW X (.BoolOp .And (a::b::rest) pos) (aaR tA tB'):=by
 intro wh pins s σ H Q I h;refine isTrue_and (cc (ha pins s σ H _ I h) λc s1 ⟨H1,I1,q1⟩=>?_);cases c with
 |true=>exact hb wh pins s1 σ H1 Q I1 q1
 |false=>exact#[H1,I1,q1]
def tK (ha:PT X a tA) (hb:PW X (.BoolOp .Or (b::rest) pos) tB'):PW X (.BoolOp .Or (a::b::rest) pos) (tOr tA tB'):=by
 intro wh pins s σ H Q I h;refine isTrue_or (cc (ha pins s σ H _ I h) λc s1 ⟨H1,I1,q1⟩=>?_);cases c with
 |true=>exact#[H1,I1,q1]
 |false=>exact hb wh pins s1 σ H1 Q I1 q1
def k6 (ha:PT X a tA):PT X (.UnaryOp .Not a pos) (alo tA):=by
 rw[01];exact isTrue_not (ha pins s σ H (λc H1=>Q (!c) H1) I h)
def af3 (ta tb:TE):TE:=λσ H Q=>ta σ H (vC (λc H1=>if c=FS then tb σ H1 Q else Q (.bl Gc) H1))
def alp (ta tb:TE):TE:=λσ H Q=>ta σ H (vC (λc H1=>if c=FS then Q (.bl FS) H1 else tb σ H1 Q))
def iK {op} {t:TE}(h:PE X a t):PE X (.BoolOp op [a] pos) t:=λpins s σ H Q I hw=>BoolOp_one (h pins s σ H Q I hw)
def jO (ha:PE X a ta) (hb:PE X (.BoolOp .And (b::rest) pos) tb):PE X (.BoolOp .And (a::b::rest) pos) (af3 ta tb):=by
 rw[01];refine BoolOp_and (cc (ha pins s σ H _ I h) λv s1 ⟨x,H1,I1,r1,q1⟩=>?_);obtain⟨c,rfl,q1⟩:=q1;cases r1;refine Jq ?_;cases c with
 |true=>exact hb pins s1 σ H1 Q I1 q1
 |false=>exact#[.bl Gc,H1,I1,Go,q1]
def Dc (ha:PE X a ta) (hb:PE X (.BoolOp .Or (b::rest) pos) tb):PE X (.BoolOp .Or (a::b::rest) pos) (alp ta tb):=by
 rw[01];refine BoolOp_or (cc (ha pins s σ H _ I h) λv s1 ⟨x,H1,I1,r1,q1⟩=>?_);obtain⟨c,rfl,q1⟩:=q1;cases r1;refine Jq ?_;cases c with
 |false=>exact hb pins s1 σ H1 Q I1 q1
 |true=>exact#[.bl FS,H1,I1,Go,q1]
def tIf (t:TT) (ta tb:TE):TE:=λσ H Q=>t σ H λc H1=>if c=FS then ta σ H1 Q else tb σ H1 Q
def dD {c:HX}(hc:PT X c tA) (ha:PE X a ta) (hb:PE X b tb):PE X (.IfExp c a b pos) (tIf tA ta tb):=by
 rw[01];refine wpAny_IfExp (cc (hc pins s σ H _ I h) λd s1 ⟨H1,I1,q1⟩=>?_);cases d with
 |true=>exact ha pins s1 σ H1 Q I1 q1
 |false=>exact hb pins s1 σ H1 Q I1 q1
end
def alq:FE->FP V
 | .none=>FB .Jm
 | .bool b=>FB (.bl b)
 | .int i _=>FB (.int i)
 | .str x _=>FB (.str x)
 | .bytes b _=>FB (.Tc b)
 | .float b _=>FB (.Yo b)
 | .ref a=>FB (.ref a)
 | .type n=>FB (.ty n)
 |_=>FM
def bo.abs {x:V}{u:FE}(r:bo x u):alq u=FB x:=by
 cases x with
 |Jm=>cases r;rfl
 |bl _=>cases r;rfl
 |int _=>obtain⟨t,rfl⟩:=r;rfl
 |str _=>obtain⟨t,rfl⟩:=r;rfl
 |Tc _=>obtain⟨t,rfl⟩:=r;rfl
 |Yo _=>obtain⟨t,rfl⟩:=r;rfl
 |ref _=>cases r;rfl
 |ty _=>cases r;rfl
def bo.inj {x y:V}{u:FE}(r:bo x u) (q:bo y u):x=y:=F4 (r.abs.symm.trans q.abs)
theorem a8.inj: ∀ {xs ys:Fx V}{us:Fx FE},a8 xs us->a8 ys us->xs=ys
 |_,_,_, .nil, .nil=>rfl
 |_,_,_, .cons r t, .cons r' t'=>by rw[r.inj r',a8.inj t t']
section
variable {X:Cx}{pins:Fx (FG×Jp)}{σ:St}{H:Hp}{s:FJ}{a:FG}{xs ys:Fx V}
def qQ.of {K:FC}(h:H a=FB (.tup xs)):qQ K H a xs:= .inl (.inl h)
def aE.list (I:aE X pins σ H s) (h:cD X.K H a xs): ∃Il:Fx FE,a8 xs Il/\PlainL s.heap a Il.toArray/\xs.length<=GD:=by
 rcases h with h|⟨o,Il,n,hk,hc,hd,hs,hz,r⟩
 .obtain⟨z,Il,n,r,e⟩:=h.ok I.IQ
  exact#[Il,r,#[_,n,e,Go,Go,Go],z]
 .refine#[Il.toList,r,#[o,n,I.NW a o hk,hc,hd,by simpa using hs],?_]
  have e:=r.length;simp only[UP] at e;lia
def aE.tuple (I:aE X pins σ H s) (h:qQ X.K H a xs): ∃Il:Fx FE,a8 xs Il/\IsTup s.heap a Il.toArray/\xs.length<=GD:=by
 rcases h with h|⟨o,Il,n,hk,hc,hs,hz,r⟩
 .obtain⟨z,Il,r,p⟩:=h.ok I.IQ
  exact#[Il,r,p,z]
 .refine#[Il.toList,r,#[o,I.NW a o hk,hc,n,by simpa using hs],?_]
  have e:=r.length;simp only[UP] at e;lia
def aE.WL (I:aE X pins σ H s) (h:cD X.K H a xs) (h':cD X.K H a ys):xs=ys:=by
 obtain⟨Il,r,⟨o,n,e,_,_,d⟩,_⟩:=I.list h;obtain⟨its',r',⟨o',n',e',_,_,d'⟩,_⟩:=I.list h';rw[e] at e';cases e';rw[d] at d';injection d' with d1 _;have:Il=its':=by simpa using GO Tb d1
 subst this;exact r.inj r'
end
abbrev Cx.RT (X:Cx) (E:FE->FJ->Prop):Cx:= { X with xe:=E }
abbrev Cx.nox (X:Cx):Cx:=X.RT λ_ _=>False
theorem Cx.Ok.RT {X:Cx}(ok:X.Ok) (E:FE->FJ->Prop):(X.RT E).Ok:=
 #[ok.mod,ok.kind,ok.glob,ok.blt,ok.above,ok.inj,ok.has,ok.YB,ok.hd,ok.frames,ok.YC,ok.exf,ok.bs,ok.Vq,ok.Tv,ok.Tw,ok.funs,ok.W7]
def Cx.Ok.OK {X:Cx}{E:FE->FJ->Prop}(ok:(X.RT E).Ok):X.Ok:=
 #[ok.mod,ok.kind,ok.glob,ok.blt,ok.above,ok.inj,ok.has,ok.YB,ok.hd,ok.frames,ok.YC,ok.exf,ok.bs,ok.Vq,ok.Tv,ok.Tw,ok.funs,ok.W7]
section
variable {X:Cx}{pins:Fx (FG×Jp)}{σ:St}{H:Hp}{s:FJ}{E:FE->FJ->Prop}
theorem aE.RT (I:aE X pins σ H s) (E:FE->FJ->Prop):aE (X.RT E) pins σ H s:=#[I.ok.RT E,I.os,I.bare,I.base,I.loc,I.cell,I.free,I.L3,I.pin,I.IQ,I.len]
theorem aE.OK (I:aE (X.RT E) pins σ H s):aE X pins σ H s:=#[I.ok.OK,I.os,I.bare,I.base,I.loc,I.cell,I.free,I.L3,I.pin,I.IQ,I.len]
theorem SP.OK {f:Flow}{s':FJ}(h:SP (X.RT E) pins D f s'):SP X pins D f s':=by
 cases f with
 |next=>obtain⟨σ',H',I,q⟩:=h;exact#[σ',H',I.OK,q]
 |brk=>obtain⟨σ',H',I,q⟩:=h;exact#[σ',H',I.OK,q]
 |cont=>obtain⟨σ',H',I,q⟩:=h;exact#[σ',H',I.OK,q]
 |ret u=>obtain⟨v,σ',H',I,r,q⟩:=h;exact#[v,σ',H',I.OK,r,q]
theorem uJ.nox {st:Fx Stmt}{t:TS}(h:uJ X.nox st t):uJ X st t:=λpins s σ H D I hw=>
 Jc (h pins s σ H D (I.RT _) hw) (λ_ _ q=>q.OK) λ_ _ z=>Jk z
end
section
variable {X:Cx}{st:Stmt}{rest:Fx Stmt}{t u:TS}{e:HX}{te:TE}{pos:Pos}
def af4:TS:=λD σ H=>D.nx σ H
def alr (t u:TS):TS:=λD σ H=>t { D with nx:=u D } σ H
def aY:uJ X [] af4:=λ_ _ σ H _ I h=>Nv #[σ,H,I,h]
def ao (h1:PS X st t) (h2:uJ X rest u):uJ X (st::rest) (alr t u):=by
 rw[04];refine wpAny_execs_cons (cc (h1 pins s σ H { D with nx:=u D } I h) λf s1 q=>?_);cases f with
 |next=>
  obtain⟨σ',H',I',q⟩:=q;exact h2 pins s1 σ' H' D I' q
 |ret v=>exact q
 |brk=>exact q
 |cont=>exact q
def ah (h1:PS X st t):uJ X [st] t:=by
 rw[04];refine wpAny_execs_cons (cc (h1 pins s σ H D I h) λf s1 q=>?_);cases f with
 |next=>exact Nv q
 |ret v=>exact q
 |brk=>exact q
 |cont=>exact q
def aaS:TS:=λD σ H=>D.bk σ H
def AY:PS X (.Break pos) aaS:=λ_ _ σ H _ I h=>wpAny_Break #[σ,H,I,h]
def aE.quiet {pins:Fx (FG×Jp)}{σ:St}{H:Hp}{s:FJ}(I:aE X pins σ H s):interactive X.env=Gc:=by simp [interactive,I.ok.kind]
def af5 (te:TE):TS:=λD σ H=>te σ H λ_ H1=>D.nx σ H1
def bf (he:PE X e te) (hs:KG e FM pos.line X.env=pure Gc:=by rfl):PS X (.Expr e pos) (af5 te):=by
 rw[04];exact wpAny_Expr_any (cc (he pins s σ H _ I h) λv s1 ⟨x,H1,I1,r1,q1⟩=>#[σ,H1,I1,q1]) I.quiet hs
def af6 (te:TE):TS:=λD σ H=>te σ H D.rt
def aH (he:PE X e te):PS X (.Return (FB e) pos) (af6 te):=by
 rw[04];exact wpAny_Return_some (cc (he pins s σ H _ I h) λv s1 ⟨x,H1,I1,r1,q1⟩=>#[x,σ,H1,I1,r1,q1])
def als (c:TT) (t u:TS):TS:=λD σ H=>c σ H λb H1=>if b=FS then t D σ H1 else u D σ H1
def b4 {c:HX}{a b:Fx Stmt}{tc:TT}(hc:PT X c tc) (ha:uJ X a t) (hb:uJ X b u):PS X (.If c a b pos) (als tc t u):=by
 rw[04];refine wpAny_If (cc (hc pins s σ H _ I h) λd s1 ⟨H1,I1,q1⟩=>?_);cases d with
 |true=>exact ha pins s1 σ H1 D I1 q1
 |false=>exact hb pins s1 σ H1 D I1 q1
end
abbrev TG:=V->St->Hp->(St->Hp->Prop)->Prop
def PG (X:Cx) (target:HX) (t:TG):Prop:=
 ∀(pins:Fx (FG×Jp)) (s:FJ) (σ:St) (H:Hp) (v:V) (u:FE) (Q:St->Hp->Prop),aE X pins σ H s->bo v u->t v σ H Q->
  Gk (model X.prog X.w) X.A (assign target X.env u) (λ_ s'=> ∃σ' H',aE X pins σ' H' s'/\Q σ' H') X.xe s
abbrev TIp:=V->V->Hp->VK->Prop
def PIp (X:Cx) (op:Operator) (t:TIp):Prop:=
 ∀(pins:Fx (FG×Jp)) (s:FJ) (σ:St) (H:Hp) (x y:V) (v u:FE) (Q:VK),aE X pins σ H s->bo x v->bo y u->t x y H Q->
  Gk (model X.prog X.w) X.A (inplaceOp op v u) (EP X pins σ Q) X.xe s
section
variable {X:Cx}{pos:Pos}
def xH (i:FX):TG:=λv σ H Q=>Q (σ.set i (FB v)) H
def fL {i:FX}{x:Gf}(hN:X.N.Nodup) (hi:X.N[i]?=FB x) (hx:Loc X.env.scope x) (hf:X.fn x=FS\/X.env.scope.names.lookup x=FB .local:=by first|exact .inl rfl|exact .inr rfl|assumption):PG X (.Name x pos) (xH i):=by
 intro pins s σ H v u Q I r h;exact wpAny_assign_Name (kc I hN hi hx r (λs' I'=>#[_,H,I',h]) hf)
def af7 (te:TE) (g:TG):TS:=λD σ H=>te σ H λx H1=>g x σ H1 D.nx
def cN {i:FX}{x:Gf}{e:HX}{te:TE}{NY:Pos}(hN:X.N.Nodup) (hi:X.N[i]?=FB x) (hx:Loc X.env.scope x) (he:PE X e te) (hs:KG e (FB (.Name x NY)) pos.line X.env=pure Gc:=by rfl) (hf:X.fn x=FS\/X.env.scope.names.lookup x=FB .local:=by first|exact .inl rfl|exact .inr rfl|assumption):
  PS X (.Assign [.Name x NY] e pos) (af7 te (xH i)):=by
 rw[04];refine wpAny_Assign_Name (cc (he pins s σ H _ I h) λv s1 ⟨y,H1,I1,r1,q1⟩=>?_) hs;exact kc I1 hN hi hx r1 (λs2 I2=>#[_,H1,I2,q1]) hf
def alu (i:FX) (te:TE) (ti:TIp):TS:=λD σ H=> ∃x,σ[i]?=FB (FB x)/\te σ H λy H1=>ti x y H1 λz H2=>D.nx (σ.set i (FB z)) H2
def lF {i:FX}{x:Gf}{e:HX}{te:TE}{NY:Pos}(hN:X.N.Nodup) (hi:X.N[i]?=FB x) (hx:Loc X.env.scope x) (he:PE X e te) (ho:PIp X op ti) (hf:X.fn x=FS\/X.env.scope.names.lookup x=FB .local:=by first|exact .inl rfl|exact .inr rfl|assumption):
  PS X (.AugAssign (.Name x NY) op e pos) (alu i te ti):=by
 rw[04];obtain⟨v,e1,h⟩:=h;obtain⟨m,hn,hl⟩:=I.loc;have vis:o6 X.env.scope x:=by rcases hx with k|k;exact .inl k;exact .inr (.inl k)
 obtain⟨u,r,l⟩:=hl i x v hi e1 vis;refine wpAny_AugAssign_Name ?_;have go:Gk (model X.prog X.w) X.A (eval e X.env) (λw s₂=>Gk (model X.prog X.w) X.A (inplaceOp op u w) (λr s₃=>Gk (model X.prog X.w) X.A (storeName X.env x r) (λ_=>SP X pins D .next) X.xe s₃) X.xe s₂) X.xe s:=by
  refine cc (he pins s σ H _ I h) λw s1 ⟨y,H1,I1,r1,q1⟩=>?_;refine cc (ho pins s1 σ H1 v y u w _ I1 r r1 q1) λz s2 ⟨zv,H2,I2,r2,q2⟩=>?_;exact kc I2 hN hi hx r2 (λs3 I3=>#[_,H2,I3,q2]) hf
 rcases l with⟨hk,hm⟩|⟨hk,c,hc,U7⟩
 .exact Xf I.ok.kind hk hn hm go
 .rcases hk with hk|hk
  .exact Yc I.ok.kind hk hc U7 go
  .rcases hx with k|k
   .have:X.env.scope.names.lookup x=FB .free:=hk
    rw[k] at this;cases this
   .have:X.env.scope.names.lookup x=FB .free:=hk
    rw[k] at this;cases this
def ipI (f:Int->Int->Int):TIp:=λx y H Q=> ∃i j,x= .int i/\y= .int j/\Q (.int (f i j)) H
def lM:PIp X .Add (ipI λi j=>i+j):=by
 intro pins s σ H x y v u Q I r1 r2 h;obtain⟨i,j,e1,e2,q⟩:=h;subst e1;subst e2;obtain⟨t,rfl⟩:=r1;obtain⟨t',rfl⟩:=r2;exact iadd_int #[.int _,H,I.tok _,#[_,Go],q]
end
section
variable {X:Cx}{pos:Pos}
def aaT (c:TT) (tb:TS):TS:=λD σ H=> ∃W:FX->St->Hp->Prop,(∃m,W m σ H)/\ ∀m σ H,W m σ H->
 c σ H λb H1=>if b=FS then∃N:St->Hp->Prop,(∀σ' H',N σ' H'-> ∃m',m'<m/\W m' σ' H')/\tb { D with nx:=N,ct:=N,bk:=D.nx } σ H1 else D.nx σ H1
def iV {c:HX}{tc:TT}{tb:TS}(hp:QG (model X.prog X.w) X.A X.env X.xe) (hc:PT X c tc) (hb:uJ X body tb):PS X (.While c body [] pos) (aaT tc tb):=by
 rw[04];obtain⟨W,⟨m0,w0⟩,turn⟩:=h;refine wpAny_While (codeAny_whileLoop (λn s'=> ∃σ' H',aE X pins σ' H' s'/\W n σ' H') ?_ m0 #[σ,H,I,w0]);rintro n s1 ⟨σ1,H1,I1,w1⟩;refine KZ hp (cc (hc pins s1 σ1 H1 _ I1 (turn n σ1 H1 w1)) λb s2 ⟨H2,I2,q2⟩=>?_);cases b with
 |true=>
  obtain⟨N,hN,q2⟩:=q2;rw[FI Go];refine KZ hp (cc (hb pins s2 σ1 H2 _ I2 q2) λf s3 q3=>?_);cases f with
  |next=>
   obtain⟨σ3,H3,I3,n3⟩:=q3;obtain⟨m',hm,w3⟩:=hN σ3 H3 n3;exact#[m',hm,σ3,H3,I3,w3]
  |cont=>
   obtain⟨σ3,H3,I3,n3⟩:=q3;obtain⟨m',hm,w3⟩:=hN σ3 H3 n3;exact#[m',hm,σ3,H3,I3,w3]
  |brk=>exact q3
  |ret v=>exact q3
 |false=>
  rw[FF FA];exact Nv #[σ1,H2,I2,q2]
end
structure It where
 go:FX->Hp->Prop
 yld:FX->Hp->V->Hp->Prop
 stop:FX->Hp->Prop
def pz (X:Cx) (pins:Fx (FG×Jp)) (H:Hp) (b:FG):Prop:=
 H b=FM/\b≠X.env.locals/\b∉X.fs/\(b∈X.ex\/X.Ql.heap.objs.size<=b)/\(∀x c,X.env.cells.lookup x=FB c->c≠b)/\ ∀p∈X.pn++pins,p.1≠b
def aE.aaU {X:Cx}{pins:Fx (FG×Jp)}{σ:St}{H H':Hp}{s:FJ}{b:FG}(I:aE X pins σ H s) (hb:s.heap.objs.size<=b) (hn:H' b=FM):pz X pins H' b:=by
 refine#[hn,L5 (Gv I.lt hb),I.alm hb, .inr (F7 I.sz hb),λx c e z=>?_,λp hp z=>?_]
 .obtain⟨v,q⟩:=I.cell x c e
  exact F6 (Gv q.lt (by rw[z];exact hb)) (IB _)
 .exact F6 (Gv (Gq (I.pin p hp).1) (by rw[z];exact hb)) (IB _)
structure Turn (P:Gy) (w:Hf) (K:FC) (tg:HX) (J:It) (fp:Fx FG) (it:FG) (tn:FX->Ho->Prop):Prop where
 mem:it∈fp
 obj: ∀i h,tn i h-> ∀b∈fp,∃o,h.get? b=FB o/\ ∀v,o.data≠ .cell v
 keep: ∀i h h',tn i h->(∀b∈fp,∀o,h.get? b=FB o->h'.get? b=FB o)->tn i h'
 item: ∀(X:Cx),X.prog=P->X.w=w->X.K=K->X.calm=FS-> ∀(i:FX) (pins:Fx (FG×Jp)) (s:FJ) (σ:St) (H:Hp) (E:FE->FJ->Prop),aE X pins σ H s->(∀b∈fp,pz X pins H b)->tn i s.heap->J.go i H->
  Gk (model P w) X.A (Sk (.ref it)) (λr s1=> ∃u,r=FB u/\
   Gk (model P w) X.A (Py tg (.ref it) u) (λ_ s2=> ∃x H',aE X pins σ H' s2/\bo x u/\J.yld i H x H'/\tn (i+1) s2.heap/\ ∀b∈fp,H' b=FM) E s1) E s
 done: ∀(X:Cx),X.prog=P->X.w=w->X.K=K->X.calm=FS-> ∀(i:FX) (pins:Fx (FG×Jp)) (s:FJ) (σ:St) (H:Hp) (E:FE->FJ->Prop),aE X pins σ H s->(∀b∈fp,pz X pins H b)->tn i s.heap->J.stop i H->
  Gk (model P w) X.A (Sk (.ref it)) (λr s1=>r=FM/\aE X pins σ H s1) E s
 self: ∀(A:Hm) (i:FX) (s:FJ) (Q:FE->FJ->Prop) (E:FE->FJ->Prop),tn i s.heap->Q (.ref it) s->Gk (model P w) A (pyIter (.ref it)) Q E s
abbrev TI:=St->Hp->(It->Hp->Prop)->Prop
def PIE (X:Cx) (pins:Fx (FG×Jp)) (σ:St) (tg:HX) (R:It->Hp->Prop) (itv:FE) (s2:FJ):Prop:=
 ∃(it:FG) (fp:Fx FG) (tn:FX->Ho->Prop) (J:It) (H':Hp),itv= .ref it/\aE X pins σ H' s2/\Turn X.prog X.w X.K tg J fp it tn/\tn 0 s2.heap/\(∀b∈fp,pz X pins H' b)/\R J H'
def PI (X:Cx) (tg Mo:HX) (wi:TI):Prop:=
 ∀(pins:Fx (FG×Jp)) (s:FJ) (σ:St) (H:Hp) (R:It->Hp->Prop),aE X pins σ H s->wi σ H R->
  Gk (model X.prog X.w) X.A (eval Mo X.env) (λv s1=>Gk (model X.prog X.w) X.A (pyIter v) (PIE X pins σ tg R) X.xe s1) X.xe s
def YF {A:Hm}{E:FE->FJ->Prop}{s:FJ}{tg:HX}{it:FG}{u:FE}{o:Jp}{Q:Nc->FJ->Prop}(ho:s.heap.get? it=FB o) (hc:o.cls= .type n) (hd:o.data= .fields vs)
  (hn:["enumerate","zip","dict_itemiterator","dict_reverseitemiterator","odict_iterator","itertools.zip_longest","itertools.pairwise"].contains n=Gc) (hQ:Q () s):Gk M A (Py tg (.ref it) u) Q E s:=by
 unfold Py;cases tg<;>first
  |exact Gu hQ
  | (cases u<;>first
    |exact Gu hQ
    | (refine FV (wpAny_load ho ?_)
       rw[hc,hd];show Gk M A (if(["enumerate","zip","dict_itemiterator","dict_reverseitemiterator","odict_iterator","itertools.zip_longest","itertools.pairwise"].contains n&&vs[0]? == FB (Ox _))=FS then _ else _) Q E s
       rw[FF (by intro h;rw[hn,Ip] at h;cases h)];exact Gu hQ))
def YG (K:FC) (a:FG):It:=
 #[λi H=> ∃xs x,cD K H a xs/\xs[i]?=FB x,λi H x H'=>H'=H/\ ∀xs,cD K H a xs->xs[i]?=FB x,λi H=> ∃xs,cD K H a xs/\xs.length<=i]
def Itr (lo:Int) (n:FX):It:=#[λi _=>i<n,λi H x H'=>H'=H/\x= .int (lo+i),λi _=>n<=i]
def Af {P:Gy}{w:Hf}{K:FC}{tg:HX}(a it:FG):Turn P w K tg (YG K a) [it] it (λi h=>h.IsListIter it a i) where
 mem:=by simp
 obj:=λi h st b hb=>by
  have e:b=it:=by simpa using hb
  subst e;obtain⟨o,e,c,d⟩:=st;exact#[o,e,λv z=>by rw[d] at z;cases z]
 keep:=λi h h' st k=>st.at λo e=>k it (by simp) o e
 item:=by
  intro X hP hw hK hc i pins s σ H E I hf st hg;subst hP hw hK;obtain⟨xs,x,hq,hx⟩:=hg;obtain⟨Il,rv,p,hz⟩:=I.list hq;obtain⟨u,hu,ru⟩:=rv.get hx;obtain⟨f0,f1,f2,f3,f4,f5⟩:=hf it (by simp);refine wpAny_pyNext_list_item st p.isList (x:=u) (by simpa using hu) λh' st' sb=>?_;have I1:aE X pins σ H { s with heap:=h' } :=I.turned (t':=s.toks) (λb o hb e=>(sb.2 b hb).trans e) f0 f1 f3 f4 f5
  obtain⟨o,e,c,d⟩:=id st';exact#[u,Go,YF (s:= { s with heap:=h' }) e c d [01] #[x,H,I1,ru,#[Go,λys hy=>by rw[I.WL hy hq];exact hx],st',λb hb=>(hf b hb).1]]
 done:=by
  intro X hP hw hK hc i pins s σ H E I hf st hg;subst hP hw hK;obtain⟨xs,hq,hx⟩:=hg;obtain⟨Il,rv,p,hz⟩:=I.list hq;obtain⟨f0,f1,f2,f3,f4,f5⟩:=hf it (by simp);have hl:=rv.length;exact wpAny_pyNext_list_end (I.ok.hd hc) st p.isList (by simp;lia) λh' eb=>#[Go,I.turned (t':=s.toks) (λb o hb e=>eb b o hb e) f0 f1 f3 f4 f5]
 self:=λ_ _ _ _ _ st h=>wpAny_pyIter_listiter st h
def vD {P:Gy}{w:Hf}{K:FC}{tg:HX}(it:FG) (lo:Int) (n:FX):Turn P w K tg (Itr lo n) [it] it (λi h=>IsRangeIter h it (lo+(i:FX)*1) ((n:Int)-(i:FX)) 1) where
 mem:=by simp
 obj:=λi h st b hb=>by
  have e:b=it:=by simpa using hb
  subst e;exact#[_,st,λv z=>by
   have z':Data.fields _=Data.cell v:=z;cases z']
 keep:=λi h h' st k=>k it (by simp) _ st
 item:=by
  intro X hP hw hK hc i pins s σ H E I hf st hg;subst hP hw hK;obtain⟨f0,f1,f2,f3,f4,f5⟩:=hf it (by simp);have W:=Walks.range (prog:=X.prog) (w:=X.w) (I.ok.hd hc) it lo 1 n;refine W.item i s _ _ hg st λv h' tk hv st' kk=>?_;obtain⟨t,rfl⟩:=hv;have I1:aE X pins σ H { s with heap:=h',toks:=tk } :=I.turned (λb o hb e=>kk b o (by simpa using hb) e) f0 f1 f3 f4 f5
  refine#[_,Go,YF (s:= { s with heap:=h',toks:=tk }) (n:="range_iterator") st' Go Go [01] #[.int (lo+i),H,I1,#[t,?_],#[Go,Go],st',λb hb=>(hf b hb).1]];rw[Int.mul_one]
 done:=by
  intro X hP hw hK hc i pins s σ H E I hf st hg;subst hP hw hK;obtain⟨f0,f1,f2,f3,f4,f5⟩:=hf it (by simp);exact wpAny_pyNext_range_end (I.ok.hd hc) st (by have:n<=i:=hg;lia) λh' eb=>#[Go,I.turned (t':=s.toks) (λb o hb e=>eb b o hb e) f0 f1 f3 f4 f5]
 self:=λ_ _ _ _ _ st h=>wpAny_pyIter_rangeiter st h
section
variable {X:Cx}{tg:HX}
inductive YH (K:FC) (R:It->Hp->Prop) (x:V) (H1:Hp):Prop
 |mk (a:FG) (_:x= .ref a) (_:(∃xs,cD K H1 a xs)) (_:R (YG K a) H1):YH K R x H1
def af8 (K:FC) (tl:TE):TI:=λσ H R=>tl σ H (YH K R)
def gt {l:HX}{tl:TE}(hl:PE X l tl):PI X tg l (af8 X.K tl):=by
 intro pins s σ H R I h;refine cc (hl pins s σ H _ I h) λv s1 ⟨x,H1,I1,r1,q1⟩=>?_;obtain⟨a,e,⟨xs,hq⟩,q⟩:=q1;subst e;cases r1;obtain⟨Il,rv,p,hz⟩:=I1.list hq;refine wpAny_pyIter_list p.isList ?_;refine#[s1.heap.objs.size,[s1.heap.objs.size],_,_,H1,Go,I1.kept (t':=s1.toks) λb o e=>FY _ e,Af a _,#[_,Hx _ Go,Go,Go],λb hb=>?_,q];have e:b=s1.heap.objs.size:=by simpa using hb
 subst e;exact I1.aaU (F5 _) (I1.IQ.fresh (F5 _))
def AL {pins:Fx (FG×Jp)}{σ:St}{H:Hp}{s:FJ}{R:It->Hp->Prop}{E:FE->FJ->Prop}{lo hi:Int}{t u v:Tok}{tk:FX}(I:aE X pins σ H s) (h1: -(2 ^ 62)<=lo) (h2:lo<2 ^ 62) (h3: -(2 ^ 62)<=hi) (h4:hi<2 ^ 62)
  (q:R (Itr lo (hi-lo).toNat) H):Gk (model X.prog X.w) X.A (pyIter (.ref s.heap.objs.size)) (PIE X pins σ tg R) E { s with heap:=s.heap.push { cls:= .type "range",data:= .fields [.int lo t, .int hi u, .int 1 v].toArray },toks:=tk } :=by
 refine wpAny_pyIter_range (IsRange.new ..) (small_one h1 h2 h3 h4) ?_;have I1:aE X pins σ H { s with heap:=s.heap.push { cls:= .type "range",data:= .fields [.int lo t, .int hi u, .int 1 v].toArray },toks:=tk } :=I.kept λb o e=>FY _ e
 refine#[(s.heap.push { cls:= .type "range",data:= .fields [.int lo t, .int hi u, .int 1 v].toArray }).objs.size,[(s.heap.push { cls:= .type "range",data:= .fields [.int lo t, .int hi u, .int 1 v].toArray }).objs.size],_,_,H,Go,
  I1.kept (t':=tk) λb o e=>FY _ e,vD _ lo (hi-lo).toNat,?_,λb hb=>?_,q]
 .have e1:lo+((0:FX):Int)*1=lo:=by simp
  have e2:(((hi-lo).toNat:FX):Int)-((0:FX):Int)=Builtin.Range.rangeSize lo hi 1:=by rw[rangeSize_one];split<;>lia
  show IsRangeIter _ _ (lo+((0:FX):Int)*1) ((((hi-lo).toNat:FX):Int)-((0:FX):Int)) 1
  rw[e1,e2];exact Hx _ Go
 .have e:b=(s.heap.push { cls:= .type "range",data:= .fields [.int lo t, .int hi u, .int 1 v].toArray }).objs.size:=by simpa using hb
  subst e;exact I1.aaU (F5 _) (I1.IQ.fresh (F5 _))
def af9 (ta:TA):TI:=λσ H R=>ta σ H λvs H1=> ∃j:Int,vs=[.int j]/\ -(2 ^ 62)<=j/\j<2 ^ 62/\R (Itr 0 j.toNat) H1
def yC {a:HX}{ta:TA}{p pos:Pos}(hg:Gl X "range") (hm:X.mg "range"=FM) (ha:PA X [a] ta) (hs:F9 [a] X.env=[(Gc,eval a X.env)]:=by rfl):PI X tg (.Call (.Name "range" p) [a] [] pos) (af9 ta):=by
 intro pins s σ H R I h;refine Call_ (lS I hg hm boot_range (Kq (cc (ha pos pins s σ H _ I h) λus s1 ⟨vs,H1,I1,r1,q1⟩=>?_) hs Go));obtain⟨j,e,q1,q2,q⟩:=q1;subst e;cases r1 with
 |cons r rr=>
  cases rr;obtain⟨t,rfl⟩:=r;exact call_range_1 (AL I1 (by lia) (by lia) q1 q2 (by simpa using q))
def alv (wi:TI) (g:TG) (tb:TS):TS:=λD σ H=>wi σ H λJ H1=> ∃W:FX->FX->St->Hp->Prop,(∃m,W 0 m σ H1)/\ ∀i m σ H,W i m σ H->
 (J.stop i H/\D.nx σ H)\/(J.go i H/\ ∃N:St->Hp->Prop,(∀σ' H',N σ' H'-> ∃m',m'<m/\W (i+1) m' σ' H')/\ ∀x H',J.yld i H x H'->g x σ H' λσ2 H2=>tb { D with nx:=N,ct:=N,bk:=D.nx } σ2 H2)
def m6 (fp:Fx FG) (h:Ho):Fx (FG×Jp):=fp.filterMap λb=>(h.get? b).map λo=>(b,o)
def jJ {h:Ho}{b:FG}{o:Jp}(hb:b∈fp) (e:h.get? b=FB o):(b,o)∈m6 fp h:=VH.mpr #[b,hb,by rw[e];rfl]
def yz {h:Ho}{p:FG×Jp}(hp:p∈m6 fp h):p.1∈fp/\h.get? p.1=FB p.2:=by
 obtain⟨b,hb,e⟩:=VH.mp hp;cases q:h.get? b with
 |none=>rw[q] at e;cases e
 |some o=>
  rw[q] at e;have e':(b,o)=p:=F4 e;subst e';exact#[hb,q]
def aE.pinned {pins:Fx (FG×Jp)}{σ:St}{H:Hp}{s:FJ}(I:aE X pins σ H s) (hf: ∀b∈fp,pz X pins H b) (ho: ∀b∈fp,∃o,s.heap.get? b=FB o/\ ∀v,o.data≠ .cell v):aE X (pins++m6 fp s.heap) σ H s:=
 I.U5 λp hp=>(Gr.mp hp).elim (λz=>I.pin p (HG _ z)) λz=>by
  obtain⟨hb,e⟩:=yz z;obtain⟨f0,f1,f2,_⟩:=hf p.1 hb;obtain⟨o,e',d⟩:=ho p.1 hb;rw[e] at e';cases e';exact#[e,f0,f1,f2,d]
def aE.Qb {pins pl:Fx (FG×Jp)}{σ:St}{H:Hp}{s:FJ}(I:aE X (pins++pl) σ H s):aE X pins σ H s:=I.U5 λp hp=>I.pin p (HG _ (MC _ hp))
def ww {g:TG}{tb:TS}{pos:Pos}(hp:QG (model X.prog X.w) X.A X.env X.xe) (hc:X.calm=FS) (hi:PI X tg Mo wi) (hg:PG X tg g) (hb:uJ X body tb)
  (hs: ∀x,K7 Mo X.env x=pure x:=by intro _;rfl):PS X (.For tg Mo body [] pos) (alv wi g tb):=by
 rw[04];refine wpAny_For (cc (hi pins s σ H _ I h) λv s1 h1=>cc h1 λitv s2 h2=>?_) hs;obtain⟨it,fp,tn,J,H2,e,I2,T,st2,f2,W,⟨m0,w0⟩,turn⟩:=h2;subst e;have Uz: ∀ {H':Hp},(∀b∈fp,H' b=FM)-> ∀b∈fp,pz X pins H' b:=λhn b hb=>#[hn b hb,(f2 b hb).2]
 refine codeAny_forLoop_any (λn s'=> ∃i σ' H',aE X pins σ' H' s'/\tn i s'.heap/\(∀b∈fp,H' b=FM)/\W i n σ' H') ?_ m0 #[0,σ,H2,I2,st2,λb hb=>(f2 b hb).1,w0];rintro n s3 ⟨i,σ3,H3,I3,st3,fr3,w3⟩;rcases turn i n σ3 H3 w3 with⟨stop,qn⟩|⟨go,N,hN,step⟩
 .refine KZ hp (cc (T.done X Go Go Go hc i pins s3 σ3 H3 X.xe I3 (Uz fr3) st3 stop) λr s4 ⟨hr,I4⟩=>?_)
  subst hr;exact Nv #[σ3,H3,I4,qn]
 .refine KZ hp (cc (T.item X Go Go Go hc i pins s3 σ3 H3 X.xe I3 (Uz fr3) st3 go) λr s4 ⟨u,hr,h4⟩=>?_)
  subst hr;refine KZ hp (cc h4 λ_ s5 ⟨x,H5,I5,r5,y5,st5,fr5⟩=>?_);have I5':=I5.pinned (Uz fr5) (T.obj _ _ st5);refine KZ hp (cc (hg _ s5 σ3 H5 x u _ I5' r5 (step x H5 y5)) λ_ s6 ⟨σ6,H6,I6,q6⟩=>?_);refine KZ hp (cc (hb _ s6 σ6 H6 _ I6 q6) λf s7 q7=>?_);have again: ∀ {σ7:St}{H7:Hp},aE X (pins++m6 fp s5.heap) σ7 H7 s7->N σ7 H7-> ∃m,m<n/\ ∃i σ' H',aE X pins σ' H' s7/\tn i s7.heap/\(∀b∈fp,H' b=FM)/\W i m σ' H':=λ{σ7 H7} I7 n7=>by
   obtain⟨m',hm,w7⟩:=hN σ7 H7 n7;refine#[m',hm,i+1,σ7,H7,I7.Qb,T.keep _ _ _ st5 λb hb o e=>(I7.pin (b,o) (HG _ (HG _ (jJ hb e)))).1,λb hb=>?_,w7];obtain⟨o,e,d⟩:=T.obj _ _ st5 b hb;exact(I7.pin (b,o) (HG _ (HG _ (jJ hb e)))).2.1
  cases f with
  |next=>obtain⟨σ7,H7,I7,n7⟩:=q7;exact again I7 n7
  |cont=>obtain⟨σ7,H7,I7,n7⟩:=q7;exact again I7 n7
  |brk=>obtain⟨σ7,H7,I7,q7⟩:=q7;exact#[σ7,H7,I7.Qb,q7]
  |ret v=>obtain⟨x7,σ7,H7,I7,r7,q7⟩:=q7;exact#[x7,σ7,H7,I7.Qb,r7,q7]
end
def sZ {K:FC}{a:FG}{xs:Fx V}{g:TG}{tb:TS}{D:eI}{σ:St}{H:Hp}(Pv:FX->St->Hp->Prop) (h0:Pv 0 σ H) (hl: ∀i σ H,i<=xs.length->Pv i σ H->cD K H a xs)
  (hs: ∀i x σ H,xs[i]?=FB x->Pv i σ H->g x σ H λσ2 H2=>tb { D with nx:=Pv (i+1),ct:=Pv (i+1),bk:=D.nx } σ2 H2) (hd: ∀σ H,Pv xs.length σ H->D.nx σ H):
  ∃W:FX->FX->St->Hp->Prop,(∃m,W 0 m σ H)/\ ∀i m σ H,W i m σ H->
   ((YG K a).stop i H/\D.nx σ H)\/((YG K a).go i H/\ ∃N:St->Hp->Prop,(∀σ' H',N σ' H'-> ∃m',m'<m/\W (i+1) m' σ' H')/\ ∀x H',(YG K a).yld i H x H'->g x σ H' λσ2 H2=>tb { D with nx:=N,ct:=N,bk:=D.nx } σ2 H2):=by
 refine#[λi m σ H=>m=xs.length-i/\i<=xs.length/\Pv i σ H,#[xs.length,by simp,Gn _,h0],?_];rintro i m σ H ⟨rfl,hi,p⟩;have q:=hl i σ H hi p;by_cases U8:i<xs.length
 .refine .inr #[#[xs,xs[i],q,by simp [U8]],Pv (i+1),λσ' H' p'=>#[xs.length-(i+1),by lia,Go,U8,p'],λx H' y=>?_]
  obtain⟨e,y⟩:=y;subst e;exact hs i x σ _ (y xs q) p
 .have e:i=xs.length:=by lia
  subst e;exact .inl #[#[xs,q,F5 _],hd σ H p]
def yI {lo:Int}{n:FX}{g:TG}{tb:TS}{D:eI}{σ:St}{H:Hp}(Pv:FX->St->Hp->Prop) (h0:Pv 0 σ H)
  (hs: ∀i σ H,i<n->Pv i σ H->g (.int (lo+i)) σ H λσ2 H2=>tb { D with nx:=Pv (i+1),ct:=Pv (i+1),bk:=D.nx } σ2 H2) (hd: ∀σ H,Pv n σ H->D.nx σ H):
  ∃W:FX->FX->St->Hp->Prop,(∃m,W 0 m σ H)/\ ∀i m σ H,W i m σ H->
   ((Itr lo n).stop i H/\D.nx σ H)\/((Itr lo n).go i H/\ ∃N:St->Hp->Prop,(∀σ' H',N σ' H'-> ∃m',m'<m/\W (i+1) m' σ' H')/\ ∀x H',(Itr lo n).yld i H x H'->g x σ H' λσ2 H2=>tb { D with nx:=N,ct:=N,bk:=D.nx } σ2 H2):=by
 refine#[λi m σ H=>m=n-i/\i<=n/\Pv i σ H,#[n,by simp,Gn _,h0],?_];rintro i m σ H ⟨rfl,hi,p⟩;by_cases U8:i<n
 .refine .inr #[U8,Pv (i+1),λσ' H' p'=>#[n-(i+1),by lia,Go,U8,p'],λx H' y=>?_]
  obtain⟨e,y⟩:=y;subst e y;exact hs i σ _ U8 p
 .have e:i=n:=by lia
  subst e;exact .inl #[F5 _,hd σ H p]
abbrev R2:=V->V->Hp->VK->Prop
def kZ (X:Cx) (f:FE->FE->Sem FE) (r:R2):Prop:=
 ∀(pins:Fx (FG×Jp)) (s:FJ) (σ:St) (H:Hp) (x y:V) (v u:FE) (Q:VK),aE X pins σ H s->bo x v->bo y u->r x y H Q->
  Gk (model X.prog X.w) X.A (f v u) (EP X pins σ Q) X.xe s
def UnR (X:Cx) (f:FE->Sem FE) (r:V->Hp->VK->Prop):Prop:=
 ∀(pins:Fx (FG×Jp)) (s:FJ) (σ:St) (H:Hp) (x:V) (v:FE) (Q:VK),aE X pins σ H s->bo x v->r x H Q->
  Gk (model X.prog X.w) X.A (f v) (EP X pins σ Q) X.xe s
def gY (X:Cx) (f:FE) (r:Fx V->Hp->VK->Prop):Prop:=
 ∀(pins:Fx (FG×Jp)) (s:FJ) (σ:St) (H:Hp) (xs:Fx V) (us:Fx FE) (Q:VK),aE X pins σ H s->a8 xs us->r xs H Q->
  Gk (model X.prog X.w) X.A (call f us) (EP X pins σ Q) X.xe s
def DT (r:R2) (ta tb:TE):TE:=λσ H Q=>ta σ H λx H1=>tb σ H1 λy H2=>r x y H2 Q
def tUn (r:V->Hp->VK->Prop) (ta:TE):TE:=λσ H Q=>ta σ H λx H1=>r x H1 Q
inductive rI (C:Int->Int->Prop) (g:Int->Int->V) (x:V) (y:V) (H:Hp) (Q:VK):Prop
 |mk (i j:Int) (_:x= .int i) (_:y= .int j) (_:C i j) (_:Q (g i j) H):rI C g x y H Q
inductive vX (g:Int->Int->V) (x:V) (y:V) (H:Hp) (Q:VK):Prop
 |mk (i j:Int) (_:x= .int i) (_:y= .int j) (_:Q (g i j) H):vX g x y H Q
inductive rU (g:Int->V) (x:V) (H:Hp) (Q:VK):Prop
 |mk (i:Int) (_:x= .int i) (_:Q (g i) H):rU g x H Q
section
variable {X:Cx}{a b c:HX}{ta tb tc:TE}{pos:Pos}
def aaV (ha:PE X a ta) (hb:PE X b tb) {pins:Fx (FG×Jp)}{s:FJ}{σ:St}{H:Hp}{R:V->V->Hp->Prop}(I:aE X pins σ H s)
  (h:ta σ H λx H1=>tb σ H1 λy H2=>R x y H2) {Q:FE->FJ->Prop}{f:FE->FE->Sem FE}
  (hf: ∀v u s2 x y H2,aE X pins σ H2 s2->bo x v->bo y u->R x y H2->Gk (model X.prog X.w) X.A (f v u) Q X.xe s2):
  Gk (model X.prog X.w) X.A (eval a X.env) (λv s₁=>Gk (model X.prog X.w) X.A (eval b X.env) (λu s₂=>Gk (model X.prog X.w) X.A (f v u) Q X.xe s₂) X.xe s₁) X.xe s:=by
 refine cc (ha pins s σ H _ I h) λv s1 ⟨x,H1,I1,r1,q1⟩=>?_;refine cc (hb pins s1 σ H1 _ I1 q1) λu s2 ⟨y,H2,I2,r2,q2⟩=>?_;exact hf v u s2 x y H2 I2 r1 r2 q2
def bM {r:R2}(ho:kZ X (Qs op) r) (ha:PE X a ta) (hb:PE X b tb):PE X (.BinOp a op b pos) (DT r ta tb):=by
 rw[01];exact wpAny_BinOp (aaV ha hb I h λv u s2 x y H2 I2 rx ry q=>ho pins s2 σ H2 x y v u Q I2 rx ry q)
def dH {r:V->Hp->VK->Prop}(ho:UnR X (unaryOp op) r) (ha:PE X a ta):PE X (.UnaryOp op a pos) (tUn r ta):=by
 rw[01];exact UnaryOp_ (cc (ha pins s σ H _ I h) λv s1 ⟨x,H1,I1,r1,q1⟩=>ho pins s1 σ H1 x v Q I1 r1 q1)
def opI {f:FE->FE->Sem FE}{C:Int->Int->Prop}{g:Int->Int->Int}
  (rule: ∀(i j:Int) (t u:Tok) (s:FJ) (Q:FE->FJ->Prop) (E:FE->FJ->Prop),C i j->Q (.int (g i j) s.toks) { s with toks:=s.toks+1 } ->Gk (model X.prog X.w) X.A (f (.int i t) (.int j u)) Q E s):
  kZ X f (rI C λi j=> .int (g i j)):=by
 intro pins s σ H x y v u Q I rx ry h;obtain⟨i,j,rfl,rfl,hc,q⟩:=h;obtain⟨t,rfl⟩:=rx;obtain⟨t',rfl⟩:=ry;exact rule i j t t' s _ _ hc #[.int (g i j),H,I.tok _,#[_,Go],q]
def aga {f:FE->FE->Sem FE}{g:Int->Int->Int}
  (rule: ∀(i j:Int) (t u:Tok) (s:FJ) (Q:FE->FJ->Prop) (E:FE->FJ->Prop),Q (.int (g i j) s.toks) { s with toks:=s.toks+1 } ->Gk (model X.prog X.w) X.A (f (.int i t) (.int j u)) Q E s):
  kZ X f (vX λi j=> .int (g i j)):=by
 intro pins s σ H x y v u Q I rx ry h;obtain⟨i,j,rfl,rfl,q⟩:=h;obtain⟨t,rfl⟩:=rx;obtain⟨t',rfl⟩:=ry;exact rule i j t t' s _ _ #[.int (g i j),H,I.tok _,#[_,Go],q]
def E2 {f:FE->FE->Sem FE}{g:Int->Int->GP}
  (rule: ∀(i j:Int) (t u:Tok) (s:FJ) (Q:FE->FJ->Prop) (E:FE->FJ->Prop),Q (.bool (g i j)) s->Gk (model X.prog X.w) X.A (f (.int i t) (.int j u)) Q E s):
  kZ X f (vX λi j=> .bl (g i j)):=by
 intro pins s σ H x y v u Q I rx ry h;obtain⟨i,j,rfl,rfl,q⟩:=h;obtain⟨t,rfl⟩:=rx;obtain⟨t',rfl⟩:=ry;exact rule i j t t' s _ _ #[.bl (g i j),H,I,Go,q]
def aaW (i j:Int):Prop:=(-(2 ^ 64)<i/\i<2 ^ 64)\/(-(2 ^ 64)<j/\j<2 ^ 64)
def aaW.ok {i j:Int}(h:aaW i j):IntMulOk i j:=by
 rcases h with⟨h1,h2⟩|⟨h1,h2⟩
 .exact .of_left (intBits_le_64 h1 h2)
 .exact .of_right (intBits_le_64 h1 h2)
def dW:kZ X (Qs .Add) (vX λi j=> .int (i+j)):=aga λ_ _ _ _ _ _ _ q=>add_int q
def cv:kZ X (Qs .Sub) (vX λi j=> .int (i-j)):=aga λ_ _ _ _ _ _ _ q=>sub_int q
def rR:kZ X (Qs .Mult) (rI aaW λi j=> .int (i*j)):=opI λ_ _ _ _ _ _ _ hc q=>mul_int q hc.ok
def EF:kZ X (Qs .Mod) (rI (λ_ j=>j≠0) λi j=> .int (i.fmod j)):=opI λ_ _ _ _ _ _ _ hc q=>mod_int' hc q
def unI {f:FE->Sem FE}{g:Int->Int}
  (rule: ∀(i:Int) (t:Tok) (s:FJ) (Q:FE->FJ->Prop) (E:FE->FJ->Prop),Q (.int (g i) s.toks) { s with toks:=s.toks+1 } ->Gk (model X.prog X.w) X.A (f (.int i t)) Q E s):
  UnR X f (rU λi=> .int (g i)):=by
 intro pins s σ H x v Q I rx h;obtain⟨i,rfl,q⟩:=h;obtain⟨t,rfl⟩:=rx;exact rule i t s _ _ #[.int (g i),H,I.tok _,#[_,Go],q]
def cE:UnR X (unaryOp .USub) (rU λi=> .int (-i)):=unI λ_ _ _ _ _ q=>neg_int q
end
def aaX:V->V->GP
 | .Jm, .Jm=>FS| .Jm, .int _=>FS| .int _, .Jm=>FS| .Jm, .bl _=>FS| .bl _, .Jm=>FS| .Jm, .str _=>FS| .str _, .Jm=>FS
 | .int _, .int _=>FS| .bl _, .bl _=>FS| .str _, .str _=>FS| .Tc _, .Tc _=>FS
 | .int _, .str _=>FS| .str _, .int _=>FS| .bl _, .str _=>FS| .str _, .bl _=>FS
 |_,_=>Gc
inductive rEq (x:V) (y:V) (H:Hp) (Q:VK):Prop
 |mk (_:aaX x y=FS) (_:Q (.bl (decide (x=y))) H):rEq x y H Q
inductive rNe (x:V) (y:V) (H:Hp) (Q:VK):Prop
 |mk (_:aaX x y=FS) (_:Q (.bl (!decide (x=y))) H):rNe x y H Q
def xl {i j:Int} :decide (V.int i=V.int j)=(i == j):=by
 rw[HB];simp
def C9 {i j:GP} :decide (V.bl i=V.bl j)=(i == j):=by
 rw[HB];simp
def xC {i j:Gf} :decide (V.str i=V.str j)=(i == j):=by
 rw[HB];simp
def xA {i j:JN Jx} :decide (V.Tc i=V.Tc j)=(i.toList == j.toList):=by
 rw[HB];cases i;cases j;simp
section
variable {X:Cx}{a b c:HX}{ta tb tc:TE}{pos:Pos}
def bE {pins:Fx (FG×Jp)}{σ:St}{H:Hp}{s:FJ}{Q:VK}{k k':GP}(I:aE X pins σ H s) (q:Q (.bl k) H) (e:k=k'):EP X pins σ Q (.bool k') s:=by
 subst e;exact#[.bl k,H,I,Go,q]
def bS:kZ X (IY .Eq) rEq:=by
 intro pins s σ H x y v u Q I rx ry h;obtain⟨hs,q⟩:=h;cases x with
 |Jm=>
  cases rx;cases y with
  |Jm=>cases ry;exact PySem.EqNone.eq_none_none (bE I q (by simp))
  |bl j=>cases ry;exact PySem.EqNone.eq_none_bool (bE I q (by simp))
  |int j=>obtain⟨t',rfl⟩:=ry;exact PySem.EqNone.eq_none_int (bE I q (by simp))
  |str j=>obtain⟨t',rfl⟩:=ry;exact PySem.EqNone.eq_none_str (bE I q (by simp))
  |_=>exact F6 (show Gc=FS from hs) FA
 |bl i=>
  cases rx;cases y with
  |Jm=>cases ry;exact PySem.EqNone.eq_bool_none (bE I q (by simp))
  |bl j=>cases ry;exact eq_bool (bE I q C9)
  |str j=>obtain⟨t',rfl⟩:=ry;exact PySem.EqMixed.eq_bool_str (bE I q (by simp))
  |_=>exact F6 (show Gc=FS from hs) FA
 |int i=>
  obtain⟨t,rfl⟩:=rx;cases y with
  |Jm=>cases ry;exact PySem.EqNone.eq_int_none (bE I q (by simp))
  |int j=>obtain⟨t',rfl⟩:=ry;exact eq_int (bE I q xl)
  |str j=>obtain⟨t',rfl⟩:=ry;exact PySem.EqMixed.eq_int_str (bE I q (by simp))
  |_=>exact F6 (show Gc=FS from hs) FA
 |str i=>
  obtain⟨t,rfl⟩:=rx;cases y with
  |Jm=>cases ry;exact PySem.EqNone.eq_str_none (bE I q (by simp))
  |bl j=>cases ry;exact PySem.EqMixed.eq_str_bool (bE I q (by simp))
  |int j=>obtain⟨t',rfl⟩:=ry;exact PySem.EqMixed.eq_str_int (bE I q (by simp))
  |str j=>obtain⟨t',rfl⟩:=ry;exact eq_str (bE I q xC)
  |_=>exact F6 (show Gc=FS from hs) FA
 |Tc i=>
  obtain⟨t,rfl⟩:=rx;cases y with
  |Tc j=>obtain⟨t',rfl⟩:=ry;exact PySem.W.eq_bytes (bE I q xA)
  |_=>exact F6 (show Gc=FS from hs) FA
 |_=>cases y<;>exact F6 (show Gc=FS from hs) FA
def qf:kZ X (IY .NotEq) rNe:=by
 intro pins s σ H x y v u Q I rx ry h;obtain⟨hs,q⟩:=h;cases x with
 |Jm=>
  cases rx;cases y with
  |Jm=>cases ry;exact PySem.EqNone.ne_none_none (bE I q (by simp))
  |bl j=>cases ry;exact PySem.EqNone.ne_none_bool (bE I q (by simp))
  |int j=>obtain⟨t',rfl⟩:=ry;exact PySem.EqNone.ne_none_int (bE I q (by simp))
  |str j=>obtain⟨t',rfl⟩:=ry;exact PySem.EqNone.ne_none_str (bE I q (by simp))
  |_=>exact F6 (show Gc=FS from hs) FA
 |bl i=>
  cases rx;cases y with
  |Jm=>cases ry;exact PySem.EqNone.ne_bool_none (bE I q (by simp))
  |bl j=>cases ry;exact ne_bool (bE I q (GO not C9))
  |str j=>obtain⟨t',rfl⟩:=ry;exact PySem.EqMixed.ne_bool_str (bE I q (by simp))
  |_=>exact F6 (show Gc=FS from hs) FA
 |int i=>
  obtain⟨t,rfl⟩:=rx;cases y with
  |Jm=>cases ry;exact PySem.EqNone.ne_int_none (bE I q (by simp))
  |int j=>obtain⟨t',rfl⟩:=ry;exact ne_int (bE I q (GO not xl))
  |str j=>obtain⟨t',rfl⟩:=ry;exact PySem.EqMixed.ne_int_str (bE I q (by simp))
  |_=>exact F6 (show Gc=FS from hs) FA
 |str i=>
  obtain⟨t,rfl⟩:=rx;cases y with
  |Jm=>cases ry;exact PySem.EqNone.ne_str_none (bE I q (by simp))
  |bl j=>cases ry;exact PySem.EqMixed.ne_str_bool (bE I q (by simp))
  |int j=>obtain⟨t',rfl⟩:=ry;exact PySem.EqMixed.ne_str_int (bE I q (by simp))
  |str j=>obtain⟨t',rfl⟩:=ry;exact ne_str (bE I q (GO not xC))
  |_=>exact F6 (show Gc=FS from hs) FA
 |Tc i=>
  obtain⟨t,rfl⟩:=rx;cases y with
  |Tc j=>obtain⟨t',rfl⟩:=ry;exact PySem.W.ne_bytes (bE I q (GO not xA))
  |_=>exact F6 (show Gc=FS from hs) FA
 |_=>cases y<;>exact F6 (show Gc=FS from hs) FA
def io:kZ X (IY .Lt) (vX λi j=> .bl (decide (i<j))):=E2 λ_ _ _ _ _ _ _ q=>lt_int q
def dN:kZ X (IY .LtE) (vX λi j=> .bl (decide (i<=j))):=E2 λ_ _ _ _ _ _ _ q=>le_int q
def fS:kZ X (IY .Gt) (vX λi j=> .bl (decide (j<i))):=E2 λ_ _ _ _ _ _ _ q=>gt_int q
def xf:kZ X (IY .GtE) (vX λi j=> .bl (decide (j<=i))):=E2 λ_ _ _ _ _ _ _ q=>ge_int q
def aaY:kZ X (IY .Is) (λx y H Q=>y= .Jm/\Q (.bl (decide (x= .Jm))) H):=by
 intro pins s σ H x y v u Q I rx ry h;obtain⟨rfl,q⟩:=h;cases ry;refine is_none_gen (bE I q ?_);cases x<;>first
  | (cases rx;rfl)
  | (obtain⟨t,rfl⟩:=rx;rfl)
def D1:kZ X (IY .IsNot) (λx y H Q=>y= .Jm/\Q (.bl (!decide (x= .Jm))) H):=by
 intro pins s σ H x y v u Q I rx ry h;obtain⟨rfl,q⟩:=h;cases ry;refine isnot_none_gen (bE I q ?_);cases x<;>first
  | (cases rx;rfl)
  | (obtain⟨t,rfl⟩:=rx;rfl)
def aG (b:HX) (h:op≠ .In:=by decide) (h2:op≠ .NotIn:=by decide):behindInMarks op b=Gc:=by
 have e1:(op == CmpOp.In)=Gc:=by cases op<;>first|rfl|exact F6 Go h
 have e2:(op == CmpOp.NotIn)=Gc:=by cases op<;>first|rfl|exact F6 Go h2
 cases b<;>simp [behindInMarks,e1,e2]
def cf {r:R2}(ho:kZ X (IY op) r) (ha:PE X a ta) (hb:PE X b tb) (hm:behindInMarks op b=Gc):PE X (.Compare a [op] [b] pos) (DT r ta tb):=by
 rw[01];exact wpAny_Compare1 (aaV ha hb I h λv u s2 x y H2 I2 rx ry q=>ho pins s2 σ H2 x y v u Q I2 rx ry q) hm
def pY (t:TE):TT:=λσ H Q=>t σ H (vC Q)
def aL {r:R2}(ho:kZ X (IY op) r) (ha:PE X a ta) (hb:PE X b tb) (hm:behindInMarks op b=Gc):PT X (.Compare a [op] [b] pos) (pY (DT r ta tb)):=by
 rw[01];refine WU (cc (ha pins s σ H _ I h) λv s1 ⟨x,H1,I1,r1,q1⟩=>cc (hb pins s1 σ H1 _ I1 q1) λu s2 ⟨y,H2,I2,r2,q2⟩=>
  cc (ho pins s2 σ H2 x y v u _ I2 r1 r2 q2) λc s3 ⟨z,H3,I3,r3,k,e,q3⟩=>?_) hm
 subst e;cases r3;exact Jq #[H3,I3,q3]
def rf (r r':R2) (ta tb tc:TE):TE:=λσ H Q=>ta σ H λx H1=>tb σ H1 λy H2=>r x y H2 λz H3=> ∃k,z= .bl k/\
 (if k=FS then tc σ H3 λw' H4=>r' y w' H4 Q else Q (.bl Gc) H3)
def fV {r r':R2}(ho:kZ X (IY op) r) (Sb:kZ X (IY op') r') (ha:PE X a ta) (hb:PE X b tb) (hc:PE X c tc)
  (hm:VM [op,op'] [b,c]=Gc:=by with_unfolding_all rfl):PE X (.Compare a [op,op'] [b,c] pos) (rf r r' ta tb tc):=by
 rw[01];refine Compare_chain (cc (ha pins s σ H _ I h) λv s1 ⟨x,H1,I1,r1,q1⟩=>chain_link (cc (hb pins s1 σ H1 _ I1 q1) λu s2 ⟨y,H2,I2,r2,q2⟩=>
  cc (ho pins s2 σ H2 x y v u _ I2 r1 r2 q2) λd s3 ⟨z,H3,I3,r3,k,e,q3⟩=>?_)) hm
 subst e;cases r3;refine Jq ?_;cases k with
 |false=>exact ite_ff #[.bl Gc,H3,I3,Go,q3]
 |true=>exact ite_tt (chain_last (cc (hc pins s3 σ H3 _ I3 q3) λw' s4 ⟨z',H4,I4,r4,q4⟩=>Sb pins s4 σ H4 y z' u w' Q I4 r2 r4 q4))
def AI {r r':R2}(ho:kZ X (IY op) r) (Sb:kZ X (IY op') r') (ha:PE X a ta) (hb:PE X b tb) (hc:PE X c tc)
  (hm:VM [op,op'] [b,c]=Gc:=by with_unfolding_all rfl):PT X (.Compare a [op,op'] [b,c] pos) (pY (rf r r' ta tb tc)):=by
 rw[01];refine isTrue_chain (cc (ha pins s σ H _ I h) λv s1 ⟨x,H1,I1,r1,q1⟩=>test_link (cc (hb pins s1 σ H1 _ I1 q1) λu s2 ⟨y,H2,I2,r2,q2⟩=>
  cc (ho pins s2 σ H2 x y v u _ I2 r1 r2 q2) λd s3 ⟨z,H3,I3,r3,k,e,q3⟩=>?_)) hm
 subst e;cases r3;refine Jq ?_;cases k with
 |false=>
  obtain⟨k',e',q'⟩:=q3;cases e';exact ite_ff #[H3,I3,q']
 |true=>
  refine ite_tt (test_last (cc (hc pins s3 σ H3 _ I3 q3) λw' s4 ⟨z',H4,I4,r4,q4⟩=>cc (Sb pins s4 σ H4 y z' u w' _ I4 r2 r4 q4) λd' s5 ⟨z2,H5,I5,r5,k2,e2,q5⟩=>?_));subst e2;cases r5;exact Jq #[H5,I5,q5]
def rC:(GD:FX)<2 ^ 63:=by rw[IE];decide
def nZ {x:V}(r:a8 [x] us): ∃u,us=[u]/\bo x u:=by
 cases r with
 |cons r1 r2=>cases r2;exact#[_,Go,r1]
def vals2 {x y:V}(r:a8 [x,y] us): ∃u w',us=[u,w']/\bo x u/\bo y w':=by
 cases r with
 |cons r1 r2=>
  cases r2 with
  |cons r3 r4=>cases r4;exact#[_,_,Go,r1,r3]
def tO:gY X (.builtin "abs") (λxs H Q=> ∃i,xs=[.int i]/\Q (.int (if i<0 then-i else i)) H):=by
 intro pins s σ H xs us Q I r h;obtain⟨i,rfl,q⟩:=h;obtain⟨u,rfl,t,rfl⟩:=nZ r;exact call_abs_int λu tk=>#[.int (if i<0 then-i else i),H,I.tok _,#[_,Go],q]
end
structure vZ (h:Ho) (x dx C:FG) (mA:Gf->FP FE):Prop where
 obj:h.get? x=FB (JV C dx)
 ns:h.Ns1 dx mA
 ne:dx≠x
def zZ {h:Ho}{dx:FG}{mA:Gf->FP FE}(n:h.Ns1 dx mA): ∃od,h.get? dx=FB od/\ ∀name,Oy name od=FB (mA name):=by
 obtain⟨o,es,ep,ho,hd,hk,_,hm⟩:=n;refine#[o,ho,λname=>?_];have e:=hm name;unfold nsFind findBy at e;rw[<-Vl] at e;unfold Oy;rw[hd];dsimp only;split
 .rename_i y q
  rw[q] at e;exact GO FB e
 .rename_i q
  rw[q] at e;have a:es.toList.any (·.refKey)=Gc:=by
   rw[V6];intro y hy;obtain⟨z,t,alw⟩:=hk y (Ug.mp hy);simp [OT.refKey,alw]
  have a': ¬es.toList.any (·.refKey)=FS:=by rw[a];exact FA
  rw[FF a'];exact GO FB e
def vZ.look {h:Ho}{x dx C:FG}{mA:Gf->FP FE}(I:vZ h x dx C mA): ∃od,PySem.W.InstAt h x (JV C dx) C (FB od)/\ ∀name,Oy name od=FB (mA name):=
 let ⟨od,ho,hl⟩:=zZ I.ns
 #[od,#[I.obj,Go,Go,ho],hl]
section
variable {prog:Gy}{w:Hf}{A:Hm}{E:FE->FJ->Prop}{s:FJ}{K:FC}{x dx C f:FG}{mA:Gf->FP FE}{name:Gf}{v:FE}
def Fl {Q:FE->FJ->Prop}(X:K.In s.heap) (I:vZ s.heap x dx C mA) (hg:NK K C name=FS) (hh:PJ K C=FS)
  (ha:Iu K (.ref C) name=FB FM) (hv:mA name=FB v) (hv':Vo v=FS) (h:Q v { s with toks:=s.toks+1 }):
  Gk (model prog w) A (TR (.ref x) name expr) Q E s:=by
 obtain⟨od,J,hl⟩:=I.look;exact PySem.W.get_value X J (OQ hg).1 (PySem.W.findObj_own hh ha Go (by rw[hl,hv])) hv' h
def Cw {Q:FE×Fx FE->FJ->Prop}(X:K.In s.heap) (I:vZ s.heap x dx C mA) (hg:NK K C name=FS)
  (hf:Iu K (.ref C) name=FB (FB (.ref f))) (ht:PM K (.ref f)=FS) (hv:mA name=FM) (h:Q (.ref f,[.ref x]) s):
  Gk (model prog w) A (LG (.ref x) name pl) Q E s:=by
 obtain⟨od,J,hl⟩:=I.look;exact PySem.W.method_fn X J (OQ hg).1 (OQ hg).2 hf (beq_iff_eq.mp ht) (by show(Oy name od).map (·.isSome)=FB Gc;rw[hl,hv];rfl) h
def DX {ns:Fx Gf}{Q:Nc->FJ->Prop}(X:K.In s.heap) (I:vZ s.heap x dx C mA)
  (hs:Iu K (.ref C) "__setattr__"=FB (FB (.builtin "object.__setattr__"))) (hp:UR K C=FS) (ht:Q2 K C name=FB FM) (hh:PJ K C=FS)
  (hw:Om mA ns) (hsz:ns.length<=GD)
  (h: ∀h',vZ h' x dx C (λy=>if y=name then FB v else mA y)->M4 dx s.heap h'->Q () { s with heap:=h',toks:=s.toks+2 }):
  Gk (model prog w) A (TU (.ref x) name v) Q E s:=by
 obtain⟨od,J,hl⟩:=I.look;refine PySem.W.set_plain X J hs (PySem.W.osa_open (s:= { s with toks:=s.toks+1 }) (r:=FM) X J hp ht λb=>?_);obtain⟨cd,hc,XZ⟩:=PySem.W.any_some hh;have hx:s.heap.get? x=FB ⟨.ref C,FB dx, .plain, [].toArray⟩:=I.obj;refine FV (Gu (FV (FV (wpAny_loadPart hx (FV (PySem.W.Looks.here (s:= { s with toks:=s.toks+1 }) (PySem.W.looks_clsIn X hc) ?_))))));rw[XZ];refine Gu (a:=FB dx) (FV (Gu (FV ?_)));refine V7 (s:= { s with toks:=s.toks+1 }) I.ns λh' hn2 VY=>?_;obtain⟨oD,esD,epD,hoD,hdD,hcD⟩:=hn2.count (Om.cons name v hw);refine FV (Sg hoD (by rw[hdD];exact Sh (F7 hcD (by rw[FW];lia))) ?_);exact Gu (h _ #[(VY.2 _ (Jf I.ne)).trans I.obj,hn2,I.ne] VY)
def CN {R:Result->FJ->Prop}(X:K.In s.heap) (hm:VR K C=FS)
  (hi:Iu K (.ref C) "__init__"=FB (FB (.ref f))) (hf:Wh K (.ref f)=FB (.type "function"))
  (h:LX (model prog w) (A.under (.builtin "type.__call__" #[.ref C::vs,kw])) (.call (.ref f) #[.ref (s.heap.objs.size+1)::vs,kw]) (PySem.W.InitBack (s.heap.objs.size+1) R)
   { s with heap:=(s.heap.push Jd).push (JV C s.heap.objs.size) }):
  LX (model prog w) A (.call (.ref C) #[vs,kw]) R s:=by
 obtain⟨hh,g,d,t,os⟩:=s;exact PySem.W.make_core (PySem.W.makes_of X hm) (PySem.W.looks_findIn X hi) (λself=>PySem.W.bind_fn X self hf) (.inl Go) h
end
def ID (f:Gf) (v:V):Fx (Gf×V)->Fx (Gf×V)
 |[]=>[(f,v)]
 | (g,x)::r=>if g=f then(g,v)::r else(g,x)::ID f v r
theorem i4 (f g:Gf) (v:V): ∀fs:Fx (Gf×V),(ID f v fs).lookup g=if g=f then FB v else fs.lookup g
 |[]=>by
  show JO g [(f,v)]=_
  by_cases h:g=f
  .have hb:(g == f)=FS:=beq_iff_eq.mpr h
   simp only[JO,hb,FI h]
  .have hb:(g == f)=Gc:=beq_eq_false_iff_ne.mpr h
   simp only[JO,hb,FF h]
 | (k,x)::r=>by
  have ih:=i4 f g v r;rw[show ID f v ((k,x)::r)=(if k=f then(k,v)::r else(k,x)::ID f v r) from Go]
  by_cases hk:k=f
  .rw[FI hk]
   by_cases h:g=k
   .have hb:(g == k)=FS:=beq_iff_eq.mpr h
    simp only[JO,hb,FI (h.trans hk)]
   .have hb:(g == k)=Gc:=beq_eq_false_iff_ne.mpr h
    simp only[JO,hb,FF (λe:g=f=>h (e.trans hk.symm))]
  .rw[FF hk]
   by_cases h:g=k
   .have hb:(g == k)=FS:=beq_iff_eq.mpr h
    simp only[JO,hb,FF (λe:g=f=>hk (h.symm.trans e))]
   .have hb:(g == k)=Gc:=beq_eq_false_iff_ne.mpr h
    simp only[JO,hb];exact ih
theorem gS (f:Gf) (v:V): ∀fs:Fx (Gf×V),f∈(ID f v fs).map (·.1)/\ ∀g,g∈fs.map (·.1)->g∈(ID f v fs).map (·.1)
 |[]=>#[by simp [ID],λg h=>by simp at h]
 | (k,x)::r=>by
  obtain⟨i1,i2⟩:=gS f v r;rw[show ID f v ((k,x)::r)=(if k=f then(k,v)::r else(k,x)::ID f v r) from Go]
  by_cases hk:k=f
  .rw[FI hk]
   subst hk;exact#[by simp,λg h=>by simpa using h]
  .rw[FF hk]
   refine#[?_,λg h=>?_]
   .rw[Ge]
    exact FK _ i1
   .rw[Ge] at h ⊢
    rcases FU.mp h with e|e
    .exact FU.mpr (.inl e)
    .exact FK _ (i2 g e)
theorem cV (f:Gf) (v:V): ∀fs:Fx (Gf×V),(ID f v fs).length<=fs.length+1
 |[]=>by simp [ID]
 | (k,x)::r=>by
  have ih:=cV f v r;rw[show ID f v ((k,x)::r)=(if k=f then(k,v)::r else(k,x)::ID f v r) from Go]
  by_cases hk:k=f
  .rw[FI hk,FW,FW];lia
  .rw[FF hk,FW,FW];lia
def fX.some_of {v:V}{o:FP FE}(r:fX (FB v) o): ∃u,o=FB u/\bo v u:=by
 cases o with
 |none=>exact(show False from r).elim
 |some u=>exact#[u,Go,r]
def fX.none_of {o:FP FE}(r:fX FM o):o=FM:=by
 cases o with
 |none=>rfl
 |some u=>exact(show False from r).elim
def pW {v:V}{u:FE}(r:bo v u):Vo u=FS:=by
 cases v with
 |Jm=>cases (show u=IA from r);rfl
 |bl b=>cases (show u=Na b from r);rfl
 |int i=>obtain⟨t,e⟩:=(show∃t,u=KQ i t from r);cases e;rfl
 |str x=>obtain⟨t,e⟩:=(show∃t,u=O3 x t from r);cases e;rfl
 |Tc b=>obtain⟨t,e⟩:=(show∃t,u=FE.bytes b t from r);cases e;rfl
 |Yo b=>obtain⟨t,e⟩:=(show∃t,u=Um b t from r);cases e;rfl
 |ref a=>cases (show u=Gs a from r);rfl
 |ty n=>cases (show u=Nb n from r);rfl
section
variable {P:Gy}{w:Hf}{H H':Hp}{h h':Ho}{a C dx:FG}{fs fs':Fx (Gf×V)}
def mC (IQ:hJ P w H h) (e:H a=FB (.ins C dx fs)): ∃mA,vZ h a dx C mA/\(∀f,fX (fs.lookup f) (mA f))/\Om mA (fs.map (·.1))/\fs.length<=1000/\H dx=FB (.own a):=by
 obtain⟨d,z,ne,ob,mA,n,r,q⟩:=(show cx P w H h a (.ins C dx fs) from IQ a _ e);exact#[mA,#[ob,n,ne],r,q,z,d]
end
def gT.get {K:FC}{C:FG}(c:gT K C) (f:Gf):NK K C f=FS:=c.pg
def au.agb {K:FC}{C:FG}{f:Gf}(n:au K C f):Q2 K C f=FB FM:=by
 unfold Q2;rw[show Iu K (.ref C) f=FB FM from n]
 rfl
section
variable {X:Cx}{pins:Fx (FG×Jp)}{σ:St}{H:Hp}{s:FJ}{a C dx:FG}{fs:Fx (Gf×V)}{f:Gf}{v:V}{A:Hm}{E:FE->FJ->Prop}
def oB {b:GP}{Q:FE->FJ->Prop}(I:aE X pins σ H s) (e:H a=FB (.ins C dx fs)) (c:gT X.K C) (n:au X.K C f) (l:fs.lookup f=FB v)
  (h: ∀u s',aE X pins σ H s'->bo v u->Q u s'):Gk (model X.prog X.w) A (TR (.ref a) f b) Q E s:=by
 obtain⟨mA,O,r,_,_,_⟩:=mC I.IQ e;obtain⟨u,hu,ru⟩:=fX.some_of (v:=v) (o:=mA f) (by rw[<-l];exact r f);exact Fl I.NW O (c.get f) c.hd n hu (pW ru) (h u _ (I.tok _) ru)
def oO {m:Gf}{g:FG}{Q:FE×Fx FE->FJ->Prop}(I:aE X pins σ H s) (e:H a=FB (.ins C dx fs)) (c:gT X.K C) (k:Meth X.K C m g) (l:fs.lookup m=FM)
  (h:Q (.ref g,[.ref a]) s):Gk (model X.prog X.w) A (LG (.ref a) m pl) Q E s:=by
 obtain⟨mA,O,r,_,_,_⟩:=mC I.IQ e;have hn:mA m=FM:=fX.none_of (by rw[<-l];exact r m);exact Cw I.NW O (c.get m) k.at_ k.fn hn h
def mV {y:V}{u:FE}{Q:Nc->FJ->Prop}(I:aE X pins σ H s) (e:H a=FB (.ins C dx fs)) (c:gT X.K C) (n:au X.K C f) (hl:fs.length<1000) (ry:bo y u)
  (h: ∀s',aE X pins σ (aI H a (.ins C dx (ID f y fs))) s'->Q () s'):Gk (model X.prog X.w) A (TU (.ref a) f u) Q E s:=by
 obtain⟨mA,O,r,wi,_,ho⟩:=mC I.IQ e;have hz:(fs.map (·.1)).length<=GD:=by rw[FT,IE];lia
 refine DX I.NW O c.sa c.po n.agb c.hd wi hz λh' O' sb=>h _ ?_;have hd: ∃o,h'.get? dx=FB o:=let ⟨o,_,_,e',_⟩:=O'.ns;#[o,e'];refine I.write (x:=a) (e:=dx) (by rw[e];exact HD) (.inr ho) (λb q hb z=>(sb.2 b hb).trans z) hd ?_;refine#[by rw[ac O.ne];exact ho,?_,O.ne,O'.obj,_,O'.ns,λg=>?_,λg hg=>?_]
 .have:=cV f y fs;lia
 .show fX ((ID f y fs).lookup g) (if g=f then FB u else mA g)
  rw[i4];by_cases q:g=f
  .rw[FI q,FI q];exact ry
  .rw[FF q,FF q];exact r g
 .by_cases q:g=f
  .rw[q];exact(gS f y fs).1
  .refine(gS f y fs).2 g (wi g λz=>hg ?_)
   show(if g=f then FB u else mA g)=FM
   rw[FF q];exact z
def aE.made (I:aE X pins σ H s):aE X pins σ (aI (aI H s.heap.objs.size (.own (s.heap.objs.size+1))) (s.heap.objs.size+1) (.ins C s.heap.objs.size []))
  { s with heap:=(s.heap.push Jd).push (JV C s.heap.objs.size) } :=by
 have e1:(s.heap.push Jd).get? s.heap.objs.size=FB Jd:=Hx s.heap Go
 have e2:((s.heap.push Jd).push (JV C s.heap.objs.size)).get? (s.heap.objs.size+1)=FB (JV C s.heap.objs.size):=by
  have:=Hx (s.heap.push Jd) (o:=JV C s.heap.objs.size) Go
  rwa [Iq] at this
 have e3:(s.heap.push Jd).Ns s.heap.objs.size (λ_=>FM):=#[Jd, [].toArray,_,e1,Go,(λe he=>F6 he (by simp)),λ_=>rfl]
 have I1:=I.laid (a:=s.heap.objs.size) (o:= .own (s.heap.objs.size+1)) (h':=s.heap.push Jd) (t':=s.toks) (λb u q=>FY _ q) (F5 _) #[_,e1]
 refine I1.laid (a:=s.heap.objs.size+1) (o:= .ins C s.heap.objs.size []) (t':=s.toks) (λb u q=>FY _ q) (KH (Iq _ _)) ?_;have ne:s.heap.objs.size≠s.heap.objs.size+1:=Hv (Ib _);refine#[by rw[ac ne,ae],Gn _,ne,e2,λ_=>FM,(PB e3).at λo q=>FY _ q,λ_=>HD,λy hy=>F6 Go hy]
def yi {prog:Gy}{w:Hf}{env:Env}{e:HX}{f:Gf}{pos:Pos}{s:FJ}{Q:FE->FJ->Prop}(hb:Ja e f env (eval e env)=eval e env)
  (h:Gk (model prog w) A (eval e env) (λo s₁=>Gk (model prog w) A (TR o f FS) Q E s₁) E s):Gk (model prog w) A (eval (.Attribute e f pos) env) Q E s:=
 Attribute_any_ h (by rw[arm_eval_Attribute,hb])
end
inductive cQ (K:FC) (f:Gf) (R:V->Hp->Prop) (x:V) (H1:Hp):Prop
 |mk (a C dx:FG) (fs:Fx (Gf×V)) (v:V) (_:x= .ref a) (_:H1 a=FB (.ins C dx fs)) (_:gT K C) (_:au K C f) (_:fs.lookup f=FB v) (_:R v H1):cQ K f R x H1
def Ay (K:FC) (ta:TE) (f:Gf):TE:=λσ H Q=>ta σ H (cQ K f Q)
def alx (K:FC) (ta tv:TE) (f:Gf):TS:=λD σ H=>tv σ H λy H1=>ta σ H1 λx H2=> ∃a C dx fs,x= .ref a/\H2 a=FB (.ins C dx fs)/\gT K C/\au K C f/\fs.length<1000/\
 D.nx σ (aI H2 a (.ins C dx (ID f y fs)))
def agc (X:Cx) (op:Operator) (rd:V->V->Hp->VK->Prop):Prop:=
 ∀(pins:Fx (FG×Jp)) (s:FJ) (σ:St) (H:Hp) (x y:V) (u v:FE) (Q:VK),aE X pins σ H s->bo x u->bo y v->rd x y H Q->Gk (model X.prog X.w) X.A (inplaceOp op u v) (EP X pins σ Q) X.xe s
def Fp (K:FC) (ta tv:TE) (rd:V->V->Hp->VK->Prop) (f:Gf):TS:=λD σ H=>ta σ H λx H1=> ∃a C dx fs v,x= .ref a/\H1 a=FB (.ins C dx fs)/\gT K C/\au K C f/\fs.lookup f=FB v/\
 tv σ H1 λy H2=>rd v y H2 λz H3=> ∃dx' fs',H3 a=FB (.ins C dx' fs')/\fs'.length<1000/\D.nx σ (aI H3 a (.ins C dx' (ID f z fs')))
section
variable {X:Cx}{o e KR:HX}{f:Gf}{pos NY agd:Pos}{ta tv:TE}
def ai (he:PE X e ta) (hb:Ja e f X.env (eval e X.env)=eval e X.env):PE X (.Attribute e f pos) (Ay X.K ta f):=by
 rw[01];refine yi hb (cc (he pins s σ H _ I h) λu s1 ⟨x,H1,I1,rx,a,C,dx,fs,v,ex,ea,c,n,l,q⟩=>?_);subst ex;obtain rfl:u=Gs a:=rx;exact oB I1 ea c n l λu' s2 I2 ru=>#[v,H1,I2,ru,q]
def b5 (ha:PE X o ta) (hv:PE X KR tv) (hs:KG KR (FB (.Attribute o f NY)) pos.line X.env=pure Gc):PS X (.Assign [.Attribute o f NY] KR pos) (alx X.K ta tv f):=by
 rw[04];refine MM (cc (hv pins s σ H _ I h) λu s1 ⟨y,H1,I1,ry,q⟩=>cc (ha pins s1 σ H1 _ I1 q) λov s2 ⟨x,H2,I2,rx,a,C,dx,fs,ex,ea,c,n,l,q2⟩=>?_) hs;subst ex;obtain rfl:ov=Gs a:=rx;exact mV I2 ea c n l ry λs3 I3=>#[σ,_,I3,q2]
def gU {rd:V->V->Hp->VK->Prop}(ha:PE X o ta) (hv:PE X KR tv) (X0:agc X op rd):PS X (.AugAssign (.Attribute o f agd) op KR pos) (Fp X.K ta tv rd f):=by
 rw[04];refine wpAny_AugAssign_AttributeAny (cc (ha pins s σ H _ I h) λov s1 ⟨x,H1,I1,rx,a,C,dx,fs,v,ex,ea,c,n,l,q⟩=>?_);subst ex;obtain rfl:ov=Gs a:=rx;refine oB I1 ea c n l λu s2 I2 ru=>cc (hv pins s2 σ H1 _ I2 q) λw3 s3 ⟨y,H2,I3,ry,q3⟩=>cc (X0 pins s3 σ H2 v y u w3 _ I3 ru ry q3) λw4 s4 ⟨z,H3,I4,rz,dx',fs',ea',l',q4⟩=>?_;exact mV I4 ea' c n l' rz λs5 I5=>#[σ,_,I5,q4]
def aly:V->V->Hp->VK->Prop:=λx y H Q=> ∃i j,x= .int i/\y= .int j/\Q (.int (i+j)) H
def ox:agc X .Add aly:=by
 rintro pins s σ H x y u v Q I rx ry ⟨i,j,rfl,rfl,q⟩;obtain⟨t,rfl⟩:=(show∃t,u=KQ i t from rx);obtain⟨t',rfl⟩:=(show∃t',v=KQ j t' from ry);exact PyProof.Rows.iadd_int #[.int (i+j),H,I.tok _,#[_,Go],q]
end
section
variable {X:Cx}{pins:Fx (FG×Jp)}{σ:St}{H:Hp}{s:FJ}{A:Hm}{E:FE->FJ->Prop}{Q:FE->FJ->Prop}{c:FE}{b:GP}
inductive iS (K:FC) (H:Hp):V->FE->Prop where
 |Jm:iS K H .Jm (.type "NoneType")
 |bl (x:GP):iS K H (.bl x) (.type "bool")
 |int (i:Int):iS K H (.int i) (.type "int")
 |str (x:Gf):iS K H (.str x) (.type "str")
 |Yo (x:UInt64):iS K H (.Yo x) (.type "float")
 |lst {a:FG}{xs:Fx V}(e:H a=FB (.lst xs)):iS K H (.ref a) (.type "list")
 |Ri {a:FG}{o:Jp}{xs:Fx V}(e:H a=FB (.Ri o (.lst xs))):iS K H (.ref a) (.type "list")
 |tup {a:FG}{xs:Fx V}(e:H a=FB (.tup xs)):iS K H (.ref a) (.type "tuple")
 |dK {a:FG}{aD:Fx (be×V)}(e:H a=FB (.dK aD)):iS K H (.ref a) (.type "dict")
 |dT {a:FG}{aD:Fx (Fx be×V)}(e:H a=FB (.dT aD)):iS K H (.ref a) (.type "dict")
 |ins {a C dx:FG}{fs:Fx (Gf×V)}(e:H a=FB (.ins C dx fs)) (cl:gT K C) (ha:Iu K (.ref C) "__class__"=FB (FB (.builtin "object.__class__")))
   (hn:PK K (.builtin "object.__class__") "__get__"=FB (FB (.builtin "getset_descriptor.__get__"))) (htk:VS K (.builtin "object.__class__")=FB FS)
   (hm:W6 K C (.type "object")=FB FS):iS K H (.ref a) (.ref C)
def yY {x:V}{u t:FE}(I:aE X pins σ H s) (rx:bo x u) (ty:iS X.K H x t) (e:HM X.K t c=FB b) (h: ∀tk,Q (.bool b) { s with toks:=tk }):
  Gk (model X.prog X.w) A (call (.builtin "isinstance") [u,c]) Q E s:=by
 cases ty with
 |Jm=>cases (show u=IA from rx);exact IM PySem.W.kitx_none I.NW HD e (λz=>nomatch z) h
 |bl y=>cases (show u=Na y from rx);exact IM PySem.W.kitx_bool I.NW HD e (λz=>nomatch z) h
 |int i=>obtain⟨t,q⟩:=(show∃t,u=KQ i t from rx);cases q;exact IM PySem.W.kitx_int I.NW HD e (λz=>nomatch z) h
 |str y=>obtain⟨t,q⟩:=(show∃t,u=O3 y t from rx);cases q;exact IM PySem.W.kitx_str I.NW HD e (λz=>nomatch z) h
 |Yo y=>obtain⟨t,q⟩:=(show∃t,u=Um y t from rx);cases q;exact IM PySem.W.kitx_float I.NW HD e (λz=>nomatch z) h
 | @lst a xs ea=>
  cases (show u=Gs a from rx);obtain⟨_,_,n,_,h1⟩:=(show cx X.prog X.w H s.heap a (.lst xs) from I.IQ a _ ea);exact IM US I.NW #[_,h1,Go] e (λz=>nomatch z) h
 | @Ri a ob xs ea=>
  cases (show u=Gs a from rx);obtain⟨_,_,_,n,_,h1⟩:=(show cx X.prog X.w H s.heap a (.Ri ob (.lst xs)) from I.IQ a _ ea);exact IM US I.NW #[_,h1,Go] e (λz=>nomatch z) h
 | @tup a xs ea=>
  cases (show u=Gs a from rx);obtain⟨_,_,_,p⟩:=(show cx X.prog X.w H s.heap a (.tup xs) from I.IQ a _ ea);obtain⟨o,h1,h2,_⟩:=p;exact IM PySem.W.kitx_tuple I.NW #[o,h1,h2] e (λz=>nomatch z) h
 | @dK a aD ea=>
  cases (show u=Gs a from rx);obtain⟨_,_,vs,_,p⟩:=(show cx X.prog X.w H s.heap a (.dK aD) from I.IQ a _ ea);obtain⟨o,es,ep,h1,h2,_⟩:=p;exact IM UT I.NW #[o,h1,h2.1] e (λz=>nomatch z) h
 | @dT a aD ea=>
  cases (show u=Gs a from rx);obtain⟨_,_,xs,_,o,es,ep,h1,h2,_⟩:=(show cx X.prog X.w H s.heap a (.dT aD) from I.IQ a _ ea);exact IM UT I.NW #[o,h1,h2.1] e (λz=>nomatch z) h
 | @ins a C dx fs ea cl ha hn htk hm=>
  cases (show u=Gs a from rx);obtain⟨mA,O,_⟩:=mC I.IQ ea;obtain⟨od,J,_⟩:=O.look;exact IM (PySem.W.kitx_own (cl.get _) cl.hd ha hn htk hm) I.NW J e (λz=>nomatch z) h
end
def bZ.mono {j k:FX}{A:Hm}(r:bZ k A) (h:j<=k):bZ j A:=#[r.hd,by have:=r.dp;lia,by have:=r.un;lia]
theorem bZ.deeper {k:FX}{A:Hm}(r:bZ (k+1) A) (env:Env):bZ k (A.deeper env):=
 #[r.hd,by have:=r.dp;show A.depth+1+2*k+5<_;lia,by have:=r.un;show A.units+3+16*k+200<_;lia]
def vb {A:Hm}{C:FG} :(A.under (.builtin "type.__call__" #[.ref C::us,kw])).depth=A.depth+1:=by
 first|rfl|simp [SV,Code.weight,Code.isCreation,Code.isGuard,Code.isCaller,Code.frames,TV,guardIds]
def wq {A:Hm}{C:FG} :(A.under (.builtin "type.__call__" #[.ref C::us,kw])).units=A.units+1:=by
 first|rfl|simp [SV,Code.cUnits,Code.frames,TV]
def bZ.make {k:FX}{A:Hm}(r:bZ (k+1) A) (C:FG) (us:Fx FE) (kw:Fx (Gf×FE)):bZ k (A.under (.builtin "type.__call__" #[.ref C::us,kw])):=
 #[r.hd,by have:=r.dp;rw[vb];lia,by have:=r.un;rw[wq];lia]
theorem bZ.depth {k:FX}{A:Hm}(r:bZ k A):A.depth<recursionLimit:=by have:=r.dp;lia
theorem bZ.units {k:FX}{A:Hm}(r:bZ k A):A.units+64<Qt:=by have:=r.un;lia
def Ah:TA:=λ_ H Q=>Q [] H
def uk (ta:TE) (tr:TA):TA:=λσ H Q=>ta σ H λx H1=>tr σ H1 λxs H2=>Q (x::xs) H2
section
variable {X:Cx}{e:HX}{es:Fx HX}{te:TE}{t:TA}{pos:Pos}
def ag:PA X [] Ah:=λ_ _ _ _ H Q I h=>LU #[[],H,I, .nil,h]
def aa (ha:PE X e te) (hr:PA X es t) (hs:F9 (e::es) X.env=[001]::F9 es X.env:=by rfl):PA X (e::es) (uk te t):=by
 intro pos pins s σ H Q I h;rw[hs];show Gk _ _ (spliced ([001]::Jr pos (F9 es X.env))) _ _ s;refine LD (cc (ha pins s σ H _ I h) λu s1 ⟨x,H1,I1,r1,q1⟩=>?_);exact cc (hr pos pins s1 σ H1 _ I1 q1) λus s2 ⟨xs,H2,I2,r2,q2⟩=>#[x::xs,H2,I2, .cons r1 r2,q2]
def alz (t:TA):TE:=λσ H Q=>t σ H λxs H1=>xs.length<=GD/\ ∀p,H1 p=FM->Q (.ref p) (aI H1 p (.tup xs))
inductive BS (Q:VK) (xs:Fx V) (H1:Hp):Prop
 |mk (_:xs.length<=GD) (_: ∀p,H1 p=FM->Q (.ref p) (aI H1 p (.lst xs))):BS Q xs H1
def alA (t:TA):TE:=λσ H Q=>t σ H (BS Q)
def BU {x1} (h:PA X es t):PE X (.Tuple es x1 pos) (alz t):=by
 intro pins s σ H Q I hq;refine wpAny_Tuple_spliced (cc (h pos pins s σ H _ I hq) λus s1 ⟨xs,H1,I1,r,z,q⟩=>#[by rw[<-r.length];exact z,?_]);have hf:H1 s1.heap.objs.size=FM:=I1.IQ.fresh (F5 _);refine#[.ref s1.heap.objs.size,aI H1 s1.heap.objs.size (.tup xs),I1.laid (t':=s1.toks) (λb u e=>FY _ e) (F5 _) ?_,Go,q _ hf];exact#[z,us,r,#[_,Hx _ Go,Go,_,Go]]
def iQ (h:PA X es t):PE X (.List es pos) (alA t):=by
 intro pins s σ H Q I hq;refine wpAny_List_spliced (cc (h pos pins s σ H _ I hq) λus s1 ⟨xs,H1,I1,r,z,q⟩=>#[by rw[<-r.length];exact z,?_]);have hf:H1 s1.heap.objs.size=FM:=I1.IQ.fresh (F5 _);refine#[.ref s1.heap.objs.size,aI H1 s1.heap.objs.size (.lst xs),I1.laid (t':=s1.toks) (λb u e=>FY _ e) (F5 _) ?_,Go,q _ hf];exact#[z,us,0,r,Hx _ Go]
end
theorem bW.mono {P:Gy}{w:Hf}{K:FC}{mg:Gf->FP FE}{base:Ho}{CX:qG}{j k:FX}{f:FG}{fd:GQ}{ps:Fx Gf}{sp:Sp}(F:bW P w K mg base CX j f fd ps sp) (h:j<=k):
  bW P w K mg base CX k f fd ps sp:=#[F.len,λA outer s H args us vs Q E hr=>F.run A outer s H args us vs Q E (hr.mono h)]
def bW.imp {P:Gy}{w:Hf}{K:FC}{mg:Gf->FP FE}{base:Ho}{CX:qG}{k:FX}{f:FG}{fd:GQ}{ps:Fx Gf}{sp sp':Sp}(F:bW P w K mg base CX k f fd ps sp)
  (h: ∀vs H Q E,sp' vs H Q E->sp vs H Q E):bW P w K mg base CX k f fd ps sp':=
 #[λvs H Q E q=>F.len vs H Q E (h _ _ _ _ q),λA outer s H args us vs Q E hr he hb hv hs=>F.run A outer s H args us vs Q E hr he hb hv (h _ _ _ _ hs)]
def wC.make {P:Gy}{w:Hf}{K:FC}{mg:Gf->FP FE}{base:Ho}{A:Hm}{s:FJ}{H:Hp}(e:wC P w K mg base A outer s H) (C:FG) (us:Fx FE) (kw:Fx (Gf×FE)):
  wC P w K mg base (A.under (.builtin "type.__call__" #[.ref C::us,kw])) outer s H:=#[by first|exact e.frames|(simpa [SV,Code.envs,TV,pushEnvs] using e.frames),e.mod,e.bs,e.Vq,e.funs,e.W7,e.IQ,e.bare]
section
variable {X:Cx}{pins:Fx (FG×Jp)}{σ:St}{H:Hp}{s s':FJ}
def aE.aaZ (I:aE X pins σ H s):wC X.prog X.w X.K X.mg X.base X.A X.stack s H:=
 #[I.ok.frames,I.ok.mod,I.bs,F7 I.ok.Vq I.sz,I.stack,I.Qa,I.IQ,I.bare]
def aE.after {Q:VK}{u:FE}(I:aE X pins σ H s) (h:CE X.stack X.prog X.w H s Q u s'):EP X pins σ Q u s':=by
 obtain⟨v,H',os,bare,un,IQ,r,q⟩:=h;obtain⟨hh,g,d,t,os'⟩:=s';obtain rfl:os'=s.os:=os;exact#[v,H',I.call (h':=hh) (g':=g) (d':=d) (t':=t) (ch:=[]) un IQ bare (λb z=>F6 z (by simp)),r,q]
end
def A3 (sp:Sp) (R7:Fx V) (E:XK) (t:TA):TE:=λσ H Q=>t σ H λvs H1=>sp (vs++R7) H1 Q E
inductive Av (C:FG) (m:Gf) (R:V->Hp->Prop) (x:V) (H1:Hp):Prop
 |mk (a dx:FG) (fs:Fx (Gf×V)) (_:x= .ref a) (_:H1 a=FB (.ins C dx fs)) (_:fs.lookup m=FM) (_:R x H1):Av C m R x H1
def YI (C:FG) (m:Gf) (sp:Sp) (R7:Fx V) (E:XK) (ta:TE) (t:TA):TE:=λσ H Q=>ta σ H (Av C m (λx H1=>t σ H1 λvs H2=>sp (x::(vs++R7)) H2 Q E))
def AR (C:FG) (sp:Sp) (R7:Fx V) (E:XK) (t:TA):TE:=λσ H Q=>t σ H λvs H1=> ∀x dx,H1 x=FM->H1 dx=FM->dx≠x->
 sp (.ref x::(vs++R7)) (aI (aI H1 dx (.own x)) x (.ins C dx [])) (λv H2=>v= .Jm/\Q (.ref x) H2) E
def dn (CX:qG) (X:Cx) (E:XK):Prop:= ∀(pins:Fx (FG×Jp)) (σ:St) (H:Hp) (s:FJ) (e:FE) (s':FJ),aE X pins σ H s->CX X.stack H s E e s'->X.xe e s'
section
variable {X:Cx}{CX:qG}{k:FX}{f C:FG}{fd:GQ}{ps:Fx Gf}{sp:Sp}{R7:Fx V}{ds:Fx FE}{E:XK}{x m:Gf}{p pos LJ:Pos}{e o:HX}{es:Fx HX}{ta:TE}{t:TA}
def ra {pins:Fx (FG×Jp)}{σ:St}{H:Hp}{s:FJ}{Q:VK}(F:bW X.prog X.w X.K X.mg X.base CX k f fd ps sp) (hr:bZ k X.A) (hb:gm X.K fd ps ds) (hd:a8 R7 ds) (hx:dn CX X E)
  (I:aE X pins σ H s) (r:a8 vs us) (h:sp (vs++R7) H Q E):Gk (model X.prog X.w) X.A (call (.ref f) us) (EP X pins σ Q) X.xe s:=by
 have r2:a8 (vs++R7) (us++ds):=r.append hd
 have hl:(us++ds).length=ps.length:=by rw[<-r2.length];exact F.len _ _ _ _ h
 refine Rg (NH (F.run X.A X.stack s H #[us,[]] (us++ds) (vs++R7) Q E hr I.aaZ (hb s us I.NW hl) r2 h) λr s' hq=>?_);cases r with
 |error e=>exact hx pins σ H s e s' I hq
 |ok fl=>
  cases fl with
  |ret u=>exact I.after hq
  |next=>exact Jk hq
  |brk=>exact Jk hq
  |cont=>exact Jk hq
def aF (F:bW X.prog X.w X.K X.mg X.base CX k f fd ps sp) (hr:bZ k X.A) (hg:Gl X x) (d:CD X.K X.mg x f fd ps) (hx:dn CX X E)
  (ha:PA X (e::es) t) (SJ:(x == [003])=Gc:=by decide) (he:F9 (e::es) X.env=[001]::F9 es X.env:=by rfl) (Ng:(Jr pos (F9 es X.env)).any (·.1)=Gc:=by rfl):
  PE X (.Call (.Name x p) (e::es) [] pos) (A3 sp [] E t):=by
 rw[01];refine J5 (gv I hg d.m ?_ SJ);refine Lm (h₀:=X.base) I.ok.mod.VW d.k (cc (ha pos pins s σ H _ I h) λus s1 ⟨vs,H1,I1,r,q⟩=>#[I1.NW,?_]) he Ng;exact ra F hr d.b .nil hx I1 r q
def cB (he:PE X o ta) (c:gT X.K C) (d:MD X.K C m f fd ps) (F:bW X.prog X.w X.K X.mg X.base CX k f fd ps sp) (hr:bZ k X.A) (hx:dn CX X E) (ha:PA X (e::es) t)
  (KN:F9 (e::es) X.env=[001]::F9 es X.env:=by rfl) (Ng:(Jr pos (F9 es X.env)).any (·.1)=Gc:=by rfl)
  (ht:eval (.Call (.Attribute o m LJ) (e::es) [] pos) X.env=(do
   let ov<-eval o X.env
   standAt LJ.atName
   let (f,first)<-holding [ov] (LG ov m pl)
   N7 pos f first (Jr pos (F9 (e::es) X.env)) (Ln pos (JJ [] X.env))):=by rfl):
  PE X (.Call (.Attribute o m LJ) (e::es) [] pos) (YI C m sp [] E ta t):=by
 rw[01];refine LV (pl:=pl) (cc (he pins s σ H _ I h) λu s1 ⟨x,H1,I1,rx,a,dx,fs,ex,ea,l,q⟩=>?_) ht;subst ex;obtain rfl:u=Gs a:=rx;refine oO I1 ea c d.m l ?_;refine Lm (first:=[.ref a]) (h₀:=X.base) I.ok.mod.VW d.m.kp (cc (ha pos pins s1 σ H1 _ I1 q) λus s2 ⟨vs,H2,I2,r,q2⟩=>#[I2.NW,?_]) KN Ng
 exact ra (us:= .ref a::us) (vs:= .ref a::vs) F hr d.b .nil hx I2 (.cons Go r) q2
def bV (he:PE X o ta) (c:gT X.K C) (d:MD X.K C m f fd ps) (F:bW X.prog X.w X.K X.mg X.base CX k f fd ps sp) (hr:bZ k X.A) (hx:dn CX X E)
  (ht:eval (.Call (.Attribute o m LJ) [] [] pos) X.env=(do
   let ov<-eval o X.env
   standAt LJ.atName
   let (f,first)<-holding [ov] (LG ov m pl)
   N7 pos f first (Jr pos (F9 [] X.env)) (Ln pos (JJ [] X.env))):=by rfl):
  PE X (.Call (.Attribute o m LJ) [] [] pos) (YI C m sp [] E ta Ah):=by
 rw[01];refine LV (pl:=pl) (cc (he pins s σ H _ I h) λu s1 ⟨x,H1,I1,rx,a,dx,fs,ex,ea,l,q⟩=>?_) ht;subst ex;obtain rfl:u=Gs a:=rx;refine oO I1 ea c d.m l ?_;exact OR (first:=[.ref a]) I1.NW d.m.kp (ra (us:=[.ref a]) (vs:=[.ref a]) F hr d.b .nil hx I1 (.cons Go .nil) q)
def tY {pins:Fx (FG×Jp)}{σ:St}{H:Hp}{s:FJ}{Q:VK}(M:Mk X.K C f) (F:bW X.prog X.w X.K X.mg X.base CX k f fd ps sp) (hr:bZ (k+1) X.A) (hb:gm X.K fd ps ds) (hd:a8 R7 ds)
  (hx:dn CX X E) (I:aE X pins σ H s) (r:a8 vs us)
  (h: ∀x dx,H x=FM->H dx=FM->dx≠x->sp (.ref x::(vs++R7)) (aI (aI H dx (.own x)) x (.ins C dx [])) (λv H2=>v= .Jm/\Q (.ref x) H2) E):
  Gk (model X.prog X.w) X.A (call (.ref C) us) (EP X pins σ Q) X.xe s:=by
 have hq:=h (s.heap.objs.size+1) s.heap.objs.size (I.IQ.fresh (LQ _)) (I.IQ.fresh (F5 _)) (Hv (Ib _))
 have I2:=aE.made (C:=C) I
 have r2:a8 (V.ref (s.heap.objs.size+1)::(vs++R7)) (Gs (s.heap.objs.size+1)::(us++ds)):= .cons Go (r.append hd)
 have hl:(Gs (s.heap.objs.size+1)::us++ds).length=ps.length:=by
  have e:=r2.length;rw[F.len _ _ _ _ hq] at e;exact e.symm
 refine Rg (CN (f:=f) I.NW M.makes M.init (beq_iff_eq.mp M.fn) (NH (F.run _ X.stack _ _ #[Gs (s.heap.objs.size+1)::us,[]] (Gs (s.heap.objs.size+1)::(us++ds)) _ _ E (hr.make C us [])
  (I2.aaZ.make C us []) (hb _ (Gs (s.heap.objs.size+1)::us) I2.NW hl) r2 hq) λr s' U9=>?_))
 cases r with
 |error e=>exact hx pins σ _ _ e s' I2 U9
 |ok fl=>
  cases fl with
  |ret u=>
   obtain⟨v,H',I3,rv,ev,q3⟩:=I2.after U9;subst ev;exact#[rv,#[V.ref (s.heap.objs.size+1),H',I3,Go,q3]]
  |next=>exact Jk U9
  |brk=>exact Jk U9
  |cont=>exact Jk U9
def h9 (M:Mk X.K C f) (F:bW X.prog X.w X.K X.mg X.base CX k f fd ps sp) (hr:bZ (k+1) X.A) (hg:Gl X x) (hm:X.mg x=FB (.ref C)) (hb:gm X.K fd ps ds) (hd:a8 R7 ds) (hx:dn CX X E)
  (ha:PA X (e::es) t) (SJ:(x == [003])=Gc:=by decide) (he:F9 (e::es) X.env=[001]::F9 es X.env:=by rfl) (Ng:(Jr pos (F9 es X.env)).any (·.1)=Gc:=by rfl):
  PE X (.Call (.Name x p) (e::es) [] pos) (AR C sp R7 E t):=by
 rw[01];refine J5 (gv I hg hm ?_ SJ);refine Lm (h₀:=X.base) I.ok.mod.VW M.kp (cc (ha pos pins s σ H _ I h) λus s1 ⟨vs,H1,I1,r,q⟩=>#[I1.NW,?_]) he Ng;exact tY M F hr hb hd hx I1 r q
def BL (M:Mk X.K C f) (F:bW X.prog X.w X.K X.mg X.base CX k f fd ps sp) (hr:bZ (k+1) X.A) (hg:Gl X x) (hm:X.mg x=FB (.ref C)) (hb:gm X.K fd ps ds) (hd:a8 R7 ds) (hx:dn CX X E)
  (SJ:(x == [003])=Gc:=by decide):PE X (.Call (.Name x p) [] [] pos) (AR C sp R7 E Ah):=by
 rw[01];refine J5 (gv I hg hm ?_ SJ);exact OR I.NW M.kp (tY (us:=[]) M F hr hb hd hx I .nil h)
end
structure ay (N P:Fx Gf) (sc:Scope):Prop where
 kind:sc.kind= .function
 co:sc.isCoroutine=Gc
 gen:sc.isGenerator=Gc
 nd:N.Nodup
 pre:N.take P.length=P
 par: ∀x∈P,sc.names.lookup x=FB .local\/sc.names.lookup x=FB .cell
 aa0: ∀y∈sc.names,y.2≠ .free
theorem pI {kindOf:Gf->FP Kl}{x:Gf} : ∀ {binds:Fx (Gf×FE)}{m:Gf->FP FE},(∀v,(x,v)∉binds)->VU kindOf binds m x=m x
 |[],_,_=>rfl
 | (n,v)::r,m,h=>by
  unfold VU;rw[pI λw hw=>h w (FK _ hw)];split
  .have:x≠n:=by rintro rfl;exact h v FL
   simp [this]
  .rfl
theorem pR {kindOf:Gf->FP Kl}{x:Gf} : ∀ {binds:Fx (Gf×FE)}{m:Gf->FP FE},(∀v,(x,v)∉binds)->VV kindOf binds m x=m x
 |[],_,_=>rfl
 | (n,v)::r,m,h=>by
  unfold VV;rw[pR λw hw=>h w (FK _ hw)];split
  .rfl
  .have:x≠n:=by rintro rfl;exact h v FL
   simp [this]
theorem pU {kindOf:Gf->FP Kl}{x:Gf}{v:FE} : ∀ {P:Fx Gf}{vs:Fx FE}{i:FX}{m:Gf->FP FE},P.Nodup->P[i]?=FB x->vs[i]?=FB v->kindOf x=FB .local->
  VU kindOf (P.zip vs) m x=FB v
 |[],_,_,_,_,h,_,_=>by simp at h
 |_::_,[],_,_,_,_,h,_=>by simp at h
 |p::P,w::vs,0,m,nd,h1,h2,hk=>by
  simp at h1 h2;subst h1;subst h2;show VU kindOf ((p,w)::P.zip vs) m p=_;unfold VU;rw[pI λv hv=>(GJ.mp nd).1 (LF hv).1,FI hk];simp
 |p::P,w::vs,i+1,m,nd,h1,h2,hk=>by
  show VU kindOf ((p,w)::P.zip vs) m x=_
  unfold VU;exact pU (i:=i) (GJ.mp nd).2 (by simpa using h1) (by simpa using h2) hk
theorem qy {kindOf:Gf->FP Kl}{x:Gf}{v:FE} : ∀ {P:Fx Gf}{vs:Fx FE}{i:FX}{m:Gf->FP FE},P.Nodup->P[i]?=FB x->vs[i]?=FB v->kindOf x≠FB .local->
  VV kindOf (P.zip vs) m x=FB v
 |[],_,_,_,_,h,_,_=>by simp at h
 |_::_,[],_,_,_,_,h,_=>by simp at h
 |p::P,w::vs,0,m,nd,h1,h2,hk=>by
  simp at h1 h2;subst h1;subst h2;show VV kindOf ((p,w)::P.zip vs) m p=_;unfold VV;rw[pR λv hv=>(GJ.mp nd).1 (LF hv).1,FF hk];simp
 |p::P,w::vs,i+1,m,nd,h1,h2,hk=>by
  show VV kindOf ((p,w)::P.zip vs) m x=_
  unfold VV;exact qy (i:=i) (GJ.mp nd).2 (by simpa using h1) (by simpa using h2) hk
def start (N:Fx Gf) (vs:Fx V):St:=vs.map FB++JE (N.length-vs.length) FM
def fg (CX:qG) (P:Gy) (w:Hf) (K:FC) (mg:Gf->FP FE) (base:Ho) (N:Fx Gf) (Hy:Gf) (scope:Scope) (f:FG) (cd:FE) (A:Hm) (outer:Fx Env) (s:FJ) (H:Hp) (E:XK):Cx where
 prog:=P
 w:=w
 K:=K
 mg:=mg
 base:=base
 A:=A.deeper (J6 Hy scope s.heap.objs.size f cd)
 N:=N
 Ql:=s
 H_0:=H
 env:=J6 Hy scope s.heap.objs.size f cd
 outer:=outer
 stack:=J6 Hy scope s.heap.objs.size f cd::outer
 ex:=[]
 calm:=FS
 fn:=λ_=>FS
 pn:=[]
 xe:=λe s'=>Gk (model P w) (A.deeper (J6 Hy scope s.heap.objs.size f cd)) (leaving (J6 Hy scope s.heap.objs.size f cd) e) (λ_ s''=>CX outer H s E e s'') (λe' s''=>CX outer H s E e' s'') s'
def uu {sc:Scope}{n:FX}{x:Gf}(h:sc.names.lookup x=FB .cell): ∃c,(IJ n sc.names []).lookup x=FB c:=by
 have q:=Si sc.names n [] (.inl h);exact Lh.mp q
def zH {CX:qG}{P:Gy}{w:Hf}{K:FC}{mg:Gf->FP FE}{base:Ho}{N ps:Fx Gf}{Hy:Gf}{scope:Scope}{f:FG}{cd:FE}{A:Hm}{outer:Fx Env}{s s1:FJ}{H:Hp}{E:XK}{us:Fx FE}{vs:Fx V}
  (S:ay N ps scope) (hd:A.handled=FM) (e0:wC P w K mg base A outer s H) (hl:vs.length=ps.length) (r:a8 vs us)
  (x:InCallC s s.heap.objs.size (VU (J6 Hy scope s.heap.objs.size f cd).kindOf [019] λ_=>FM) (IJ (s.heap.objs.size+1) scope.names []) (VV (J6 Hy scope s.heap.objs.size f cd).kindOf [019] λ_=>FM) s1):
  aE (fg CX P w K mg base N Hy scope f cd A outer s H E) [] (start N vs) H s1:=by
 have Ng:ps.length<=N.length:=by have:=GO O2 S.pre;rw[Q7] at this;lia
 obtain⟨h1,tk,rfl,hk⟩:=x.done;have noA: ∀b:FG,b∉(fg CX P w K mg base N Hy scope f cd A outer s H E).ex:=λb z=>F6 (show b∈([]:Fx FG) from z) (by simp)
 refine#[#[e0.mod,S.kind,Go,Go,F5 _,λy z c h1 h2=>?_,λy hy=>?_,λy c _ h=>?_,λ_=>hd,Hm.frames_deeper e0.frames, .inr #[Go,Go],λb z=>F6 z (noA b),e0.bs,e0.Vq,λb _ _=>noA b,λb z=>F6 z (noA b),e0.funs,e0.W7],
  rfl,e0.bare,Un.kept hk,#[_,x.toInCall.ns,λi y v h1 h2 h3=>?_],λy c h=>#[_,x.cell y c h],e0.IQ.fresh (F5 _),λy c h=>?_,λp hp=>F6 (show p∈([]:Fx (FG×Jp)) from hp) (by simp),e0.IQ.kept hk,?_]
 .exact name_of_addr x.apart (Hi h1) (Hi h2)
 .have hy:scope.names.lookup y=FB .cell\/scope.names.lookup y=FB .free:=hy
  rcases hy with hy|hy
  .exact uu hy
  .exact F6 Go (S.aa0 _ (Hi hy))
 .exact Lb (x.above y c (Hi h))
 .have hi:i<vs.length:=by
   unfold start at h2;by_cases hi:i<vs.length
   .exact hi
   .rw[Fx.getElem?_append_right (by simpa using hi)] at h2
    rw[LK] at h2;split at h2<;>cases h2
  have ha:vs[i]?=FB v:=by
   unfold start at h2;rw[Se (by simpa using hi),GR] at h2;cases e:vs[i]? with
   |none=>rw[e] at h2;cases h2
   |some a=>rw[e] at h2;cases h2;rfl
  obtain⟨u,hu,rv⟩:=r.get ha;have hp:ps[i]?=FB y:=by
   rw[<-S.pre,Fx.getElem?_take_of_lt (by lia)];exact h1
  have ndP:ps.Nodup:=by rw[<-S.pre];exact S.nd.sublist (Fx.take_sublist _ _)
  refine#[u,rv,?_];rcases S.par y (G8 hp) with k|k
  .exact .inl #[k,pU ndP hp hu k]
  .obtain⟨c,e⟩:=uu (n:=s.heap.objs.size+1) k
   refine .inr #[.inl k,c,e,?_];have q:=x.cell y c e;rw[qy ndP hp hu (by show scope.names.lookup y≠_;rw[k];decide)] at q;exact q
 .exact e0.IQ.fresh (Lb (x.above y c (Hi h)))
 .unfold start
  show _=N.length
  rw[Gb,FT,OM];lia
def YJ {CX:qG}{P:Gy}{w:Hf}{K:FC}{mg:Gf->FP FE}{base:Ho}{k:FX}{f:FG}{name Hy:Gf}{params:Arguments}{body:Fx Stmt}{scope:Scope}{dV kV doc pm Hn ct oc:FE}{an od:FP FG}
  {W8:JN (FP FE)}{N ps:Fx Gf}{sp:Sp}(lk:K.lookup f=FB #[oc,od, .func (IP name Hy params body scope dV kV doc pm an Hn ct),W8]) (Td:LL K Hn Hy=FS) (S:ay N ps scope)
  (len: ∀vs H Q E,sp vs H Q E->vs.length=ps.length)
  (J3: ∀(A:Hm) (outer:Fx Env) (s:FJ) (H:Hp) (vs:Fx V) (Q:VK) (E:XK),bZ k (A.deeper (J6 Hy scope s.heap.objs.size f Hn))->sp vs H Q E->
   Bd (fg CX P w K mg base N Hy scope f Hn A outer s H E) body { nx:=λ_ H'=>Q .Jm H',rt:=Q } (start N vs) H):
  bW P w K mg base CX (k+1) f (IP name Hy params body scope dV kV doc pm an Hn ct) ps sp:=by
 refine#[len,λA outer s H args us vs Q E hr e0 hb r Uq=>?_];have hl:=len _ _ _ _ Uq;have KX:K.In s.heap:=e0.mod.VW.keeps λb o e=>(e0.bs b o e).1
 have lim:s.heap.NoLimit:=e0.mod.nolimit.keeps λb o e=>(e0.bs b o e).1
 have age: ∀y∈ps.zip us,scope.names.lookup y.1=FB .local\/(scope.names.lookup y.1=FB .cell/\((IJ (s.heap.objs.size+1) scope.names []).lookup y.1).isSome=FS):=λ⟨n,v⟩ hy=>by
  rcases S.par n (LF hy).1 with q|q
  .exact .inl q
  .exact .inr #[q,Si _ _ _ (.inl q)]
 refine codeAny_call_function hr.depth (KX _ _ lk) Go S.co S.gen Go (PySem.W.codeRec_of KX Td) (hb _ _ _ _ ?_);refine wpAny_newFunctionEnv_cells S.kind age λenv he s1 x=>?_;subst he;refine#[lim.keeps x.toInCall.keep,codeAny_func ?_];obtain⟨t,ht,hq⟩:=J3 A outer s H vs Q E (hr.deeper _) Uq;have I:aE (fg CX P w K mg base N Hy scope f Hn A outer s H E) [] (start N vs) H s1:=zH S hr.hd e0 hl r x;refine Jc (ht [] s1 (start N vs) H _ I hq) (λfl s' hs=>?_) λe s' hs=>hs;have eS: ∀ {σ':St}{H':Hp}{v:V}{u:FE},aE (fg CX P w K mg base N Hy scope f Hn A outer s H E) [] σ' H' s'->bo v u->Q v H'->CE outer P w H s Q u s':=
  λ{σ' H' v u} J rv q=>#[v,H',J.os,J.bare,J.base,J.IQ,rv,q]
 cases fl with
 |ret u=>
  obtain⟨v,σ',H',J,rv,q⟩:=hs;exact eS J rv q
 |next=>
  obtain⟨σ',H',J,q⟩:=hs;exact eS (v:=V.Jm) (u:=IA) J Go q
 |brk=>
  obtain⟨_,_,_,q⟩:=hs;exact Jk q
 |cont=>
  obtain⟨_,_,_,q⟩:=hs;exact Jk q
section
variable {X:Cx}{x:Gf}{p pos:Pos}{e:HX}{es:Fx HX}{t:TA}{id T:String}{r:Fx V->Hp->VK->Prop}
def tCB (r:Fx V->Hp->VK->Prop) (t:TA):TE:=λσ H Q=>t σ H λvs H1=>r vs H1 Q
def br (hc:gY X (.builtin id) r) (hg:Gl X x) (hm:X.mg x=FM) (hv:LC x=FB (.builtin id)) (ha:PA X (e::es) t) (hn:x≠"__name__":=by decide) (SJ:(x == [003])=Gc:=by decide)
  (he:F9 (e::es) X.env=[001]::F9 es X.env:=by rfl) (Ng:(Jr pos (F9 es X.env)).any (·.1)=Gc:=by rfl):PE X (.Call (.Name x p) (e::es) [] pos) (tCB r t):=by
 rw[01];refine J5 (lS I hg hm hv ?_ hn SJ);exact OY (cc (ha pos pins s σ H _ I h) λus s1 ⟨vs,H1,I1,r1,q1⟩=>hc pins s1 σ H1 vs us Q I1 r1 q1) he Ng
def jm (hc:gY X (.type T) r) (hg:Gl X x) (hm:X.mg x=FM) (hv:LC x=FB (.type T)) (ha:PA X (e::es) t) (hn:x≠"__name__":=by decide) (SJ:(x == [003])=Gc:=by decide)
  (he:F9 (e::es) X.env=[001]::F9 es X.env:=by rfl) (Ng:(Jr pos (F9 es X.env)).any (·.1)=Gc:=by rfl):PE X (.Call (.Name x p) (e::es) [] pos) (tCB r t):=by
 rw[01];refine J5 (lS I hg hm hv ?_ hn SJ);exact Kq (cc (ha pos pins s σ H _ I h) λus s1 ⟨vs,H1,I1,r1,q1⟩=>hc pins s1 σ H1 vs us Q I1 r1 q1) he Ng
end
end L2
namespace HT
open PySem PyProof.Rows
section
variable {prog:Gy}{w:Hf}{A:Hm}{E:FE->FJ->Prop}{s:FJ}
def T8 (n d:FX):FP Int->FX
 |none=>d
 |some v=>if v<0 then(v+(n:Int)).toNat else min v.toNat n
def Va (n d k:FX):T8 n d (FB (k:Int))=min k n:=by
 show(if(k:Int)<0 then((k:Int)+(n:Int)).toNat else min (k:Int).toNat n)=min k n
 rw[FF (by lia),Int.toNat_natCast]
end
end HT
namespace L2
open PySem PySem.Spec PyProof.Rows
abbrev TO:=St->Hp->(FP Int->Hp->Prop)->Prop
def PO (X:Cx) (e:FP HX) (t:TO):Prop:=
 ∀(pins:Fx (FG×Jp)) (s:FJ) (σ:St) (H:Hp) (Q:FP Int->Hp->Prop),aE X pins σ H s->t σ H Q->
  Gk (model X.prog X.w) X.A (evalPart e X.env) (λu s'=> ∃o H',aE X pins σ H' s'/\IsPart u o/\Q o H') X.xe s
def agf (t:TE):TO:=λσ H Q=>t σ H λx H1=> ∃i,x= .int i/\Q (FB i) H1
section
variable {X:Cx}{e:HX}{te:TE}{lo hi:FP HX}{tl th:TO}{pos p2:Pos}
def jh (h:PE X e te):PO X (FB e) (agf te):=by
 intro pins s σ H Q I hw;rw[evalPart_some];refine cc (h pins s σ H _ I hw) λu s1 ⟨x,H1,I1,r1,q1⟩=>?_;obtain⟨i,rfl,q⟩:=q1;obtain⟨t,rfl⟩:=r1;exact#[FB i,H1,I1, .int i t,q]
def SlR (X:Cx) (r:V->FP Int->FP Int->Hp->VK->Prop):Prop:=
 ∀(pins:Fx (FG×Jp)) (s:FJ) (σ:St) (H:Hp) (x:V) (v vl vu:FE) (lo hi:FP Int) (sl:FG) (Q:VK),aE X pins σ H s->bo x v->s.heap.IsSliceOf sl vl vu .none->IsPart vl lo->IsPart vu hi->r x lo hi H Q->
  ∃T id,Ir (.type T) "__getitem__"=pure (FB (.builtin id))/\s.TypeIs v T/\Gk (model X.prog X.w) X.A (TX v (.ref sl)) (EP X pins σ Q) X.xe s
def tSl (r:V->FP Int->FP Int->Hp->VK->Prop) (te:TE) (tl th:TO):TE:=λσ H Q=>te σ H λx H1=>tl σ H1 λl H2=>th σ H2 λu H3=>r x l u H3 Q
def mU {r:V->FP Int->FP Int->Hp->VK->Prop}(hr:SlR X r) (he:PE X e te) (hl:PO X lo tl) (hu:PO X hi th):PE X (.Subscript e (.Slice lo hi FM p2) pos) (tSl r te tl th):=by
 rw[01];refine Zz (cc (he pins s σ H _ I h) λv s1 ⟨x,H1,I1,r1,q1⟩=>?_);refine wpAny_Slice (cc (hl pins s1 σ H1 _ I1 q1) λvl s2 ⟨l,H2,I2,pl,q2⟩=>cc (hu pins s2 σ H2 _ I2 q2) λvu s3 ⟨u,H3,I3,pu,q3⟩=>?_);rw[evalPart_none];refine Gu ?_;have I4:aE X pins σ H3 { s3 with heap:=s3.heap.push { cls:= .type "slice",data:= .fields [vl,vu, .none].toArray } } :=I3.kept (t':=s3.toks) λb ob q=>FY _ q
 obtain⟨T,id,hT,ht,hg⟩:=hr pins { s3 with heap:=s3.heap.push { cls:= .type "slice",data:= .fields [vl,vu, .none].toArray } } σ H3 x v vl vu l u s3.heap.objs.size Q I4 r1 (ach ..) pl pu q3;show Gk (model X.prog X.w) X.A (Vk e (.Slice lo hi FM p2) v (.ref s3.heap.objs.size)) (EP X pins σ Q) X.xe { s3 with heap:=s3.heap.push { cls:= .type "slice",data:= .fields [vl,vu, .none].toArray } };exact tail_any (ops:=[.ref s3.heap.objs.size,v]) ht hT hg (by with_unfolding_all rfl)
def wd (xs:Fx V) (lo hi:FP Int):Fx V:=(xs.drop (HT.T8 xs.length 0 lo)).take (HT.T8 xs.length xs.length hi-HT.T8 xs.length 0 lo)
def sX (xs:Fx V) (lo hi:FP Int):(wd xs lo hi).length<=xs.length:=by
 unfold wd;rw[Q7,Mr];lia
end
def YK (n:FX) (i:Int):FP FX:=if 0<=i then(if i<n then FB i.toNat else FM) else if-(n:Int)<=i then FB (i+n).toNat else FM
def Al {α:Type}(xs:Fx α) (i:Int):FP α:=(YK xs.length i).bind λj=>xs[j]?
def EV {i:Int}(h:YK n i=FB j):seqIndex? i n=FB j/\j<n/\ -(n:Int)<=i/\i<n:=by
 unfold YK at h;by_cases h0:0<=i
 .rw[FI h0] at h
  by_cases h1:i<n
  .rw[FI h1] at h
   have e:i.toNat=j:=F4 h;exact#[by rw[seqIndex_of h0 h1,e],by lia,by lia,h1]
  .rw[FF h1] at h;cases h
 .rw[FF h0] at h
  by_cases h1: -(n:Int)<=i
  .rw[FI h1] at h
   have e:(i+n).toNat=j:=F4 h;exact#[by rw[seqIndex_neg (by lia) h1,e],by lia,h1,by lia]
  .rw[FF h1] at h;cases h
def rT {α:Type}{xs:Fx α}{i:Int}{v:α}(h:Al xs i=FB v): ∃j,seqIndex? i xs.length=FB j/\xs[j]?=FB v/\j<xs.length/\ -(xs.length:Int)<=i/\i<xs.length:=by
 unfold Al at h;cases e:YK xs.length i with
 |none=>rw[e] at h;cases h
 |some j=>
  rw[e] at h;obtain⟨h1,h2,h3,h4⟩:=EV e;exact#[j,h1,h,h2,h3,h4]
def bv {α:Type}{xs:Fx α}{j:FX}{v:α}(h:xs[j]?=FB v):Al xs (j:Int)=FB v:=by
 have hj:j<xs.length:=(GG.mp h).1
 have e:YK xs.length (j:Int)=FB j:=by
  unfold YK;rw[FI (by lia),FI (by lia)];simp
 unfold Al;rw[e];exact h
def eG {α:Type}(xs:Fx α) (v:α):Al (xs++[v]) (-1)=FB v:=by
 have hl:(xs++[v]).length=xs.length+1:=by simp
 have e:YK (xs++[v]).length (-1)=FB xs.length:=by
  unfold YK;rw[hl,FF [01],FI (by lia)]
  congr 1
  lia
 unfold Al;rw[e];show(xs++[v])[xs.length]?=FB v;simp
def rb (b:HX):Prop:= ∀o i,subscripted b Gc o i=operate [o,i] (TX o i)
def IxR (X:Cx) (r:R2):Prop:=
 ∀(KR slice:HX) (pins:Fx (FG×Jp)) (s:FJ) (σ:St) (H:Hp) (x y:V) (v u:FE) (Q:VK),aE X pins σ H s->bo x v->bo y u->r x y H Q->
  subscripted slice Gc v u=operate [v,u] (TX v u)->Gk (model X.prog X.w) X.A (Vk KR slice v u) (EP X pins σ Q) X.xe s
def MtR (X:Cx) (id:String) (r:V->Fx V->Hp->VK->Prop):Prop:=
 ∀(pins:Fx (FG×Jp)) (s:FJ) (σ:St) (H:Hp) (x:V) (xs:Fx V) (v:FE) (us:Fx FE) (Q:VK),aE X pins σ H s->bo x v->a8 xs us->r x xs H Q->
  Gk (model X.prog X.w) X.A (call (.builtin id) (v::us)) (EP X pins σ Q) X.xe s
section
variable {X:Cx}{a b:HX}{ta tb:TE}{pos:Pos}
def cO {r:R2}(hr:IxR X r) (ha:PE X a ta) (hb:PE X b tb) (hs:rb b):PE X (.Subscript a b pos) (DT r ta tb):=by
 rw[01];exact Zz (aaV ha hb I h λv u s2 x y H2 I2 rx ry q=>hr a b pins s2 σ H2 x y v u Q I2 rx ry q (hs _ _))
inductive Bq (K:FC) (x:V) (y:V) (H:Hp) (Q:VK):Prop
 |mk (p:FG) (xs:Fx V) (i:Int) (v:V) (_:x= .ref p) (_:y= .int i) (_:cD K H p xs) (_:Al xs i=FB v) (_:Q v H):Bq K x y H Q
inductive agg (K:FC) (x:V) (y:V) (H:Hp) (Q:VK):Prop
 |mk (p:FG) (xs:Fx V) (i:Int) (v:V) (_:x= .ref p) (_:y= .int i) (_:qQ K H p xs) (_:Al xs i=FB v) (_:Q v H):agg K x y H Q
inductive agh (x:V) (y:V) (H:Hp) (Q:VK):Prop
 |mk (z:Gf) (i:Int) (c:FX) (_:x= .str z) (_:y= .int i) (_:z.length<=GD) (_:Al z.cps.toList i=FB c) (_:Q (.str ⟨[c].toArray⟩) H):agh x y H Q
def bC:IxR X (Bq X.K):=by
 intro KR slice pins s σ H x y v u Q I rx ry h hs;obtain⟨p,xs,i,z,rfl,rfl,hq,he,q⟩:=h;cases rx;obtain⟨t,rfl⟩:=ry;obtain⟨Il,r,pl,hz⟩:=I.list hq;obtain⟨j,h1,h2,h3,h4,h5⟩:=rT he;obtain⟨w,ew,UA⟩:=r.get h2;have hl:=r.length;have hn:=rC;have eS:EP X pins σ Q w s:=#[z,H,I,UA,q];by_cases h0:0<=i
 .have hj:i.toNat=j:=by
   rw[seqIndex_of h0 h5] at h1;exact F4 h1
  exact item_listR pl.isList h0 (by lia) (by rw[hj];simpa using ew) eS hs
 .have hj:(i+(Il.toArray.size:Int)).toNat=j:=by
   rw[seqIndex_neg (by lia) h4] at h1;rw[Hd,<-hl];exact F4 h1
  exact V2 (x:=w) pl.isList.typeIs slot_list_getitem.lookup
   (wpAny_getItem_list_neg (Q:=λr s'=>r=w/\EP X pins σ Q r s') pl.isList (by lia) (by rw[Hd]<;>lia) (by lia) (by rw[hj];simpa using ew) #[Go,eS]) hs
def aa1:IxR X (agg X.K):=by
 intro KR slice pins s σ H x y v u Q I rx ry h hs;obtain⟨p,xs,i,z,rfl,rfl,hq,he,q⟩:=h;cases rx;obtain⟨t,rfl⟩:=ry;obtain⟨Il,r,pl,hz⟩:=I.tuple hq;obtain⟨j,h1,h2,h3,h4,h5⟩:=rT he;obtain⟨w,ew,UA⟩:=r.get h2;have hl:=r.length;have hn:=rC;have eS:EP X pins σ Q w s:=#[z,H,I,UA,q];exact V2 (x:=w) pl.typeIs slot_tuple_getitem.lookup
  (getItem_tuple (j:=j) (Q:=λr s'=>r=w/\EP X pins σ Q r s') pl (by lia) (by lia) (by rw[Hd,<-hl];exact h1) (by simpa using ew) #[Go,eS]) hs
def aa2:IxR X agh:=by
 intro KR slice pins s σ H x y v u Q I rx ry h hs;obtain⟨z,i,c,rfl,rfl,hz,he,q⟩:=h;obtain⟨t,rfl⟩:=rx;obtain⟨t',rfl⟩:=ry;obtain⟨j,h1,h2,h3,h4,h5⟩:=rT he;have hl:z.cps.toList.length=z.length:=by simp [Gf.length]
 rw[hl] at h1 h4 h5;have hn:=rC;exact tail_any (ZA s z t) slot_str_getitem.lookup (getItem_str (c:=c) (by
  have e1:decide (i< -(2 ^ 63:Int))=Gc:=Gp (by lia)
  have e2:decide (i ≥ 2 ^ 63)=Gc:=Gp (by lia);rw[e1,e2,PL]) (by rw[h1];simpa using h2) #[.str #[[c].toArray],H,I.tok _,#[_,Go],q]) hs
def rj (lo hi:FP Int) (n:FX):(M8 lo hi FM n).1=((HT.T8 n 0 lo:FX):Int)/\(M8 lo hi FM n).2.1=((HT.T8 n n hi:FX):Int)/\(M8 lo hi FM n).2.2=1:=by
 refine#[?_,?_,Go]
 .cases lo with
  |none=>simp [M8,HT.T8]
  |some i=>
   simp only[M8,HT.T8,VN,show(1:Int)>0 by decide,TY];by_cases h:i<0
   .simp only[h,TY]<;>lia
   .simp only[h,M9]<;>lia
 .cases hi with
  |none=>simp [M8,HT.T8]
  |some i=>
   simp only[M8,HT.T8,VN,show(1:Int)>0 by decide,TY];by_cases h:i<0
   .simp only[h,TY]<;>lia
   .simp only[h,M9]<;>lia
def pA (Il:Fx FE) (lo hi:FP Int):slicePick Il.toArray lo hi FM=((Il.drop (HT.T8 Il.length 0 lo)).take (HT.T8 Il.length Il.length hi-HT.T8 Il.length 0 lo)).toArray:=by
 obtain⟨h1,h2,h3⟩:=rj lo hi Il.toArray.size;unfold slicePick;rw[h1,h2,h3];simp only[sliceRange_one,pick_run,Hd]<;>rfl
def alB (K:FC):V->FP Int->FP Int->Hp->VK->Prop:=λx lo hi H Q=> ∃a xs,x= .ref a/\cD K H a xs/\ ∀p,H p=FM->Q (.ref p) (aI H p (.lst (wd xs lo hi)))
def rN:SlR X (alB X.K):=by
 intro pins s σ H x v vl vu lo hi sl Q I rx hs pl pu h;obtain⟨a,xs,rfl,hx,q⟩:=h;cases rx;obtain⟨Il,r,ht,hz⟩:=I.list hx;have NX:=r.length;refine#["list",_,slot_list_getitem.lookup,ht.isList.typeIs,?_];refine wpAny_getItem_list_slice ht.isList hs pl pu .none (by simp) ?_ (by rw[Hd]<;>lia);rw[pA,<-NX];refine#[.ref s.heap.objs.size,_,I.laid (t':=s.toks) (o:= .lst (wd xs lo hi)) (λb ob q=>FY _ q) (F5 _) ?_,Go,q _ (I.IQ.fresh (F5 _))];exact#[F7 (sX xs lo hi) hz,_,0,(r.drop (HT.T8 xs.length 0 lo)).take (HT.T8 xs.length xs.length hi-HT.T8 xs.length 0 lo),Hx _ Go]
def jB:V->GP
 | .Jm=>FS
 | .bl _=>FS
 | .int _=>FS
 | .str _=>FS
 |_=>Gc
def D5:V->V->GP
 | .Jm, .Jm=>FS
 | .bl a, .bl b=>a == b
 | .bl a, .int b=>(if a then 1 else 0) == b
 | .int a, .bl b=>a == (if b then 1 else 0)
 | .int a, .int b=>a == b
 | .str a, .str b=>a == b
 |_,_=>Gc
def aa3 {A:Hm}{s:FJ}{y x:V}{u v:FE}(ry:bo y u) (rx:bo x v) (fy:jB y=FS) (fx:jB x=FS):SeqAt.EqAt A s u v (D5 y x):=by
 cases y with
 |Jm=>
  cases ry;cases x with
  |Jm=>cases rx;exact SeqAt.EqAt.same _
  |bl b=>cases rx;exact SeqAt.EqAt.none_bool b
  |int b=>obtain⟨t,rfl⟩:=rx;exact SeqAt.EqAt.none_int b t
  |str b=>obtain⟨t,rfl⟩:=rx;exact SeqAt.EqAt.none_str b t
  |_=>exact F6 (show Gc=FS from fx) FA
 |bl a=>
  cases ry;cases x with
  |Jm=>cases rx;exact SeqAt.EqAt.bool_none a
  |bl b=>cases rx;exact SeqAt.EqAt.bool_bool a b
  |int b=>obtain⟨t,rfl⟩:=rx;exact SeqAt.EqAt.bool_int a b t
  |str b=>obtain⟨t,rfl⟩:=rx;exact SeqAt.EqAt.bool_str a b t
  |_=>exact F6 (show Gc=FS from fx) FA
 |int a=>
  obtain⟨t',rfl⟩:=ry;cases x with
  |Jm=>cases rx;exact SeqAt.EqAt.int_none a t'
  |bl b=>cases rx;exact SeqAt.EqAt.int_bool a t' b
  |int b=>obtain⟨t,rfl⟩:=rx;exact SeqAt.EqAt.int_int a t' b t
  |str b=>obtain⟨t,rfl⟩:=rx;exact SS a t' b t
  |_=>exact F6 (show Gc=FS from fx) FA
 |str a=>
  obtain⟨t',rfl⟩:=ry;cases x with
  |Jm=>cases rx;exact SeqAt.EqAt.str_none a t'
  |bl b=>cases rx;exact SeqAt.EqAt.str_bool a t' b
  |int b=>obtain⟨t,rfl⟩:=rx;exact SU a t' b t
  |str b=>obtain⟨t,rfl⟩:=rx;exact SeqAt.EqAt.str_str a t' b t
  |_=>exact F6 (show Gc=FS from fx) FA
 |_=>exact F6 (show Gc=FS from fy) FA
def vS (x:V) (u:FE):GP:=match u with
 | .none=>D5 .Jm x
 | .bool b=>D5 (.bl b) x
 | .int i _=>D5 (.int i) x
 | .str z _=>D5 (.str z) x
 |_=>Gc
def Dx {x y:V}{u:FE}(r:bo y u) (f:jB y=FS):vS x u=D5 y x:=by
 cases y with
 |Jm=>cases r;rfl
 |bl b=>cases r;rfl
 |int i=>obtain⟨t,rfl⟩:=r;rfl
 |str z=>obtain⟨t,rfl⟩:=r;rfl
 |_=>exact F6 (show Gc=FS from f) FA
theorem kM {x:V} : ∀ {xs:Fx V}{us:Fx FE},a8 xs us->xs.all jB=FS->us.any (vS x)=xs.any λy=>D5 y x
 |_,_, .nil,_=>rfl
 |y::xs,u::us, .cons r t,f=>by
  rw[N4,GI] at f;rw[N5,N5,Dx r f.1,kM t f.2]
theorem iL {A:Hm}{s:FJ}{x:V}{v:FE}(rx:bo x v) (fx:jB x=FS): ∀ {xs:Fx V}{us:Fx FE},a8 xs us->xs.all jB=FS-> ∀u∈us,SeqAt.EqAt A s u v (vS x u)
 |_,_, .nil,_=>λu hu=>by cases hu
 |y::xs,u::us, .cons r t,f=>λu' hu=>by
  rw[N4,GI] at f;rcases FU.mp hu with rfl|hu
  .rw[Dx r f.1];exact aa3 r rx f.1 fx
  .exact iL rx fx t f.2 u' hu
def uL (x:V) (xs:Fx V):GP:=xs.any λy=>D5 y x
inductive rIn (K:FC) (neg:GP) (x:V) (y:V) (H:Hp) (Q:VK):Prop
 |mk (p:FG) (xs:Fx V) (_:y= .ref p) (_:(cD K H p xs\/qQ K H p xs)) (_:jB x=FS) (_:xs.all jB=FS) (_:Q (.bl (if neg then !uL x xs else uL x xs)) H):rIn K neg x y H Q
def kY:kZ X (IY .In) (rIn X.K Gc):=by
 intro pins s σ H x y v u Q I rx ry h;obtain⟨p,xs,rfl,hq,fx,fs,q⟩:=h;cases ry;rcases hq with hq|hq
 .obtain⟨Il,r,pl,hz⟩:=I.list hq
  refine SeqAt.in_listAt (vS x) pl.isList (λw hw=>iL rx fx r fs w (by simpa using hw)) #[.bl _,H,I,Go,?_];rw[show Il.toArray.any (vS x)=Il.any (vS x) by simp,kM r fs];exact q
 .obtain⟨Il,r,pl,hz⟩:=I.tuple hq
  refine SeqAt.in_tupleAt (vS x) pl (λw hw=>iL rx fx r fs w (by simpa using hw)) #[.bl _,H,I,Go,?_];rw[show Il.toArray.any (vS x)=Il.any (vS x) by simp,kM r fs];exact q
def kN:kZ X (IY .NotIn) (rIn X.K FS):=by
 intro pins s σ H x y v u Q I rx ry h;obtain⟨p,xs,rfl,hq,fx,fs,q⟩:=h;cases ry;rcases hq with hq|hq
 .obtain⟨Il,r,pl,hz⟩:=I.list hq
  refine SeqAt.notIn_listAt (vS x) pl.isList (λw hw=>iL rx fx r fs w (by simpa using hw)) #[.bl _,H,I,Go,?_];rw[show Il.toArray.any (vS x)=Il.any (vS x) by simp,kM r fs];exact q
 .obtain⟨Il,r,pl,hz⟩:=I.tuple hq
  refine SeqAt.notIn_tupleAt (vS x) pl (λw hw=>iL rx fx r fs w (by simpa using hw)) #[.bl _,H,I,Go,?_];rw[show Il.toArray.any (vS x)=Il.any (vS x) by simp,kM r fs];exact q
inductive agi (K:FC) (xs:Fx V) (H:Hp) (Q:VK):Prop
 |mk (p:FG) (ys:Fx V) (_:xs=[.ref p]) (_:(cD K H p ys\/qQ K H p ys)) (_:Q (.int ys.length) H):agi K xs H Q
def bP:gY X (.builtin "len") (agi X.K):=by
 intro pins s σ H xs us Q I r h;obtain⟨p,ys,rfl,hq,q⟩:=h;obtain⟨u,rfl,rx⟩:=nZ r;cases rx;have hn:=rC;rcases hq with hq|hq
 .obtain⟨Il,r',pl,hz⟩:=I.list hq
  have NX:=r'.length;exact Calls.call_len_list pl.isList (by simp only[Hd]<;>lia) #[.int ys.length,H,I.tok _,#[s.toks+1,by rw[Hd,NX]],q]
 .obtain⟨Il,r',pl,hz⟩:=I.tuple hq
  have NX:=r'.length;exact len_tuple pl (by simp only[Hd]<;>lia) #[.int ys.length,H,I.tok _,#[s.toks+1,by rw[Hd,NX]],q]
def gA:gY X (.type "tuple") (λxs H Q=> ∃p ys,xs=[.ref p]/\((cD X.K H p ys/\ ∀l,H l=FM->Q (.ref l) (aI H l (.tup ys)))\/(qQ X.K H p ys/\Q (.ref p) H))):=by
 intro pins s σ H xs us Q I r h;obtain⟨p,ys,rfl,h⟩:=h;obtain⟨u,rfl,rx⟩:=nZ r;cases rx;rcases h with⟨hq,q⟩|⟨hq,q⟩
 .obtain⟨Il,r',pl,hz⟩:=I.list hq
  have NX:=r'.length;refine call_tuple_list pl.isList (λh' kp=>?_) (by simp only[Hd]<;>lia)
  have I1:aE X pins σ H { s with heap:=h' } :=I.kept (t':=s.toks) kp
  have I2:aE X pins σ (aI H h'.objs.size (.tup ys)) { s with heap:=h'.push { cls:= .type "tuple",data:= .seq Il.toArray } } :=
   I1.laid (t':=s.toks) (λb o e=>FY _ e) (F5 _) (show cx X.prog X.w _ _ _ (.tup ys) from#[hz,Il,r',IsTup.new _ _])
  exact#[.ref h'.objs.size,_,I2,Go,q _ (I1.IQ.fresh (F5 _))]
 .obtain⟨Il,r',pl,hz⟩:=I.tuple hq
  exact call_tuple_same pl #[.ref p,H,I,Go,q]
def tyV (K:FC) (T:String) (x:V) (H:Hp):Prop:=match x with
 | .str _=>T="str"
 | .int _=>T="int"
 | .ref p=>(T="list"/\ ∃xs,cD K H p xs)\/(T="tuple"/\ ∃o,K.lookup p=FB o/\o.cls= .type "tuple"/\o.dict=FM)\/
   (T="dict"/\((∃aD,H p=FB (.dK aD))\/ ∃aD,H p=FB (.dT aD)))\/(T="set"/\ ∃S n,H p=FB (.set S n))
 |_=>False
def A8 {pins:Fx (FG×Jp)}{σ:St}{H:Hp}{s:FJ}{T:String}{x:V}{v:FE}(I:aE X pins σ H s) (r:bo x v) (ty:tyV X.K T x H):
  s.TypeIs v T/\ ∀a,v= .ref a-> ∃ob,s.heap.get? a=FB ob/\ob.dict=FM:=by
 cases x with
 |str z=>
  obtain⟨t,rfl⟩:=r;cases (show T="str" from ty);exact#[ZA s z t,λ_ e=>nomatch e]
 |int i=>
  obtain⟨t,rfl⟩:=r;cases (show T="int" from ty);exact#[typeIs_int s i t,λ_ e=>nomatch e]
 |ref p=>
  cases r;rcases ty with⟨rfl,xs,hq⟩|⟨rfl,o,hk,hc,hd⟩|⟨rfl,hk⟩|⟨rfl,S,n,hk⟩
  .obtain⟨Il,_,pl,_⟩:=I.list hq
   refine#[pl.isList.typeIs,λa e=>?_];cases e;obtain⟨o,n,e,c,hd,_⟩:=pl;exact#[o,e,hd]
  .refine#[#[o,I.NW p o hk,hc],λa e=>?_]
   cases e;exact#[o,I.NW _ o hk,hd]
  .have z: ∃o,s.heap.get? p=FB o/\o.ExactDict:=by
    rcases hk with⟨aD,hk⟩|⟨aD,hk⟩
    .obtain⟨_,_,_,_,o,_,_,e,ex,_⟩:=I.IQ p _ hk
     exact#[o,e,ex]
    .obtain⟨_,_,_,_,o,_,_,e,ex,_⟩:=I.IQ p _ hk
     exact#[o,e,ex]
   obtain⟨o,e,ex⟩:=z;refine#[#[o,e,ex.1],λa e2=>?_];cases e2;exact#[o,e,ex.2.1]
  .obtain⟨o,_,_,_,e,ex,_⟩:=I.IQ p _ hk
   refine#[#[o,e,ex.1],λa e2=>?_];cases e2;exact#[o,e,ex.2.1]
 |_=>exact Jk ty
def alC (K:FC) (T:String) (r:V->Fx V->Hp->VK->Prop) (to:TE):TE:=λσ H Q=>to σ H λx H1=>tyV K T x H1/\r x [] H1 Q
inductive agj (K:FC) (T:String) (R:V->Hp->Prop) (x:V) (H1:Hp):Prop
 |mk (_:tyV K T x H1) (_:R x H1):agj K T R x H1
def tBM (K:FC) (T:String) (r:V->Fx V->Hp->VK->Prop) (to:TE) (t:TA):TE:=λσ H Q=>to σ H (agj K T (λx H1=>t σ H1 λxs H2=>r x xs H2 Q))
variable {o e:HX}{es:Fx HX}{to:TE}{t:TA}{name:Gf}{LJ Md:Pos}{T id:String}{r:V->Fx V->Hp->VK->Prop}
def Dz (pa:PlainAttrs T) (slot:Slot T name id) (hty:typeOf (.builtin id)=pure (.type "method_descriptor")) (hm:MtR X id r) (ho:PE X o to)
  (Rx:Ja o name X.env (eval o X.env)=eval o X.env:=by rfl) (Ry:(LJ.endLine == Md.line)=FS:=by rfl):PE X (.Call (.Attribute o name LJ) [] [] Md) (alC X.K T r to):=by
 rw[01];refine wpAny_Call_method0_late Rx Ry (cc (ho pins s σ H _ I h) λv s1 ⟨x,H1,I1,r1,ty,q1⟩=>?_);obtain⟨h1,h2⟩:=A8 I1 r1 ty;exact#[T,id,pa,slot,hty,h1,h2,LS Go (PySem.evalArgs_none (hm pins s1 σ H1 x [] v [] Q I1 r1 .nil q1))]
def xX (pa:PlainAttrs T) (slot:Slot T name id) (hty:typeOf (.builtin id)=pure (.type "method_descriptor")) (hm:MtR X id r) (ho:PE X o to) (ha:PA X (e::es) t)
  (Rx:Ja o name X.env (eval o X.env)=eval o X.env:=by rfl)
  (alD:((Jr Md (F9 (e::es) X.env)).all (λx=>!x.1)&&(Ln Md (JJ [] X.env)).all (λx=>x.1.isSome)
   &&decide ((e::es).length+([]:Fx Keyword).length+(if([]:Fx Keyword).isEmpty then 0 else 1)<30))=FS:=by rfl)
  (Ry:(LJ.endLine == Md.line)=FS:=by rfl) (hs:F9 (e::es) X.env=[001]::F9 es X.env:=by rfl) (aa4:(Jr Md (F9 es X.env)).any (·.1)=Gc:=by rfl):
  PE X (.Call (.Attribute o name LJ) (e::es) [] Md) (tBM X.K T r to t):=by
 rw[01];refine wpAny_Call_method_late Rx alD Ry Go (cc (ho pins s σ H _ I h) λv s1 ⟨x,H1,I1,r1,ty,q1⟩=>?_);obtain⟨h1,h2⟩:=A8 I1 r1 ty;refine#[T,id,pa,slot,hty,h1,h2,?_];have hA:=ha Md pins s1 σ H1 _ I1 q1;rw[hs] at hA ⊢;refine LS (by show(Gc||(Jr Md (F9 es X.env)).any (·.1))=Gc;rw[aa4]<;>rfl) (OP ?_)
 exact cc hA λus s2 ⟨vs,H2,I2,r2,q2⟩=>hm pins s2 σ H2 x vs v us Q I2 r1 r2 q2
end
def MtM (X:Cx) (id:String) (r:V->Fx V->Hp->VK->Prop):Prop:=
 ∀(pins:Fx (FG×Jp)) (s:FJ) (σ:St) (H:Hp) (x:V) (xs:Fx V) (v:FE) (us:Fx FE) (Q:VK),aE X pins σ H s->bo x v->a8 xs us->r x xs H Q->
  Gk (model X.prog X.w) X.A (call (.builtin id) (v::us)) (EP X pins σ Q) X.xe s
def a8.one: ∀ {x:V}{us:Fx FE},a8 [x] us-> ∃u,us=[u]/\bo x u
 |_,_, .cons r .nil=>#[_,Go,r]
def a8.zero: ∀ {us:Fx FE},a8 [] us->us=[]
 |_, .nil=>rfl
theorem a8.dropLast {xs:Fx V}(h:a8 xs us):a8 xs.dropLast us.dropLast:=by
 induction h with
 |nil=>exact .nil
 |cons r t ih=>
  cases t with
  |nil=>exact .nil
  |cons q t'=>exact .cons r ih
def uV {α:Type}(l:Fx α):l.eraseIdx (l.length-1)=l.dropLast:=by
 induction l with
 |nil=>rfl
 |cons a r ih=>
  cases r with
  |nil=>rfl
  |cons b r=>
   have e:(a::b::r).length-1=((b::r).length-1)+1:=by
    have h1:(a::b::r).length=r.length+2:=rfl
    have h2:(b::r).length=r.length+1:=rfl;lia
   rw[e,Fx.eraseIdx_cons_succ,ih]
   all_goals rfl
section
variable {X:Cx}{pins:Fx (FG×Jp)}{σ:St}{H:Hp}{s:FJ}{l b:FG}{xs ys zs:Fx V}
def aE.agk {Il its':Fx FE}{f:JN FE->JN FE}(I:aE X pins σ H s) (hH:H l=FB (.lst xs))
  (e:s.heap.get? l=FB { cls:= .type "list",data:= .seq Il.toArray n }) (hf:f Il.toArray=its'.toArray) (hv:a8 ys its') (hz:ys.length<=GD):
  aE X pins σ (aI H l (.lst ys)) { s with heap:=s.heap.update l (Jp.mapSeq f),toks:=t' } :=by
 have q:=PySem.IsL.update e f;rw[hf] at q;refine I.write (x:=l) (e:=l) (by rw[hH];exact trivial) (.inl Go) (λb' u hb hu=>(Hz s.heap (Jp.mapSeq f) (Jf hb)).trans hu) #[_,q] ?_
 exact#[hz,its',_,hv,q]
def aE.aa5 (I:aE X pins σ H s) (hH:H l=FB (.lst xs)):xs.length<=GD/\ ∃(Il:Fx FE) (n:FX),a8 xs Il/\xs.length=Il.length/\s.heap.get? l=FB { cls:= .type "list",data:= .seq Il.toArray n } :=by
 obtain⟨z,Il,n,r,e⟩:=I.IQ l _ hH;exact#[z,Il,n,r,r.length,e]
end
section
variable {X:Cx}
inductive xS (x:V) (vs:Fx V) (H:Hp) (Q:VK):Prop
 |mk (l:FG) (xs:Fx V) (y:V) (_:x= .ref l) (_:vs=[y]) (_:H l=FB (.lst xs)) (_:xs.length<GD) (_:Q .Jm (aI H l (.lst (xs++[y])))):xS x vs H Q
def i8:MtM X "list.append" xS:=by
 intro pins s σ H x vs v us Q I rx rv h;obtain⟨l,xs,y,rfl,rfl,hH,hz,q⟩:=h;cases rx;obtain⟨u,rfl,ru⟩:=rv.one;obtain⟨z,Il,n,r,hl,e⟩:=I.aa5 hH;refine call_meets F.slot_list_append #[_,e,Go] F.entry_list_append (F.args_list_append_2 _ _) (PySem.list_append l Il.toArray n u (by rw[Hd];lia)) #[e,?_];refine#[.Jm,_,I.agk (its':=Il++[u]) hH e (by simp) (r.append (.cons ru .nil)) ?_,Go,q];rw[Gb,JT];lia
def alE:V->Fx V->Hp->VK->Prop:=λx vs H Q=> ∃l xs y,x= .ref l/\vs=[]/\H l=FB (.lst xs)/\xs[xs.length-1]?=FB y/\Q y (aI H l (.lst xs.dropLast))
def Bf:MtM X "list.pop" alE:=by
 intro pins s σ H x vs v us Q I rx rv h;obtain⟨l,xs,y,rfl,rfl,hH,hy,q⟩:=h;cases rx;have hus:=rv.zero;subst hus;obtain⟨z,Il,n,r,hl,e⟩:=I.aa5 hH;obtain⟨u,hu,ru⟩:=r.get hy;have hy':Il.toArray[Il.toArray.size-1]?=FB u:=by
  show Il.toArray[Il.length-1]?=FB u
  rw[<-TK,<-hl];exact hu
 refine call_meets F.slot_list_pop #[_,e,Go] F.entry_list_pop (F.args_list_pop_1 _) (MeetsSeq.list_pop_last l Il.toArray n u hy' (by rw[Hd];lia)) #[e,?_];refine#[y,_,I.agk (its':=Il.dropLast) hH e ?_ r.dropLast ?_,ru,q]
 .show Il.toArray.eraseIdxIfInBounds (Il.toArray.size-1)=Il.dropLast.toArray
  rw[Hd,Fx.eraseIdxIfInBounds_toArray,uV]
 .rw[Fx.length_dropLast]
  lia
end
section
variable {prog:Gy}{w:Hf}{A:Hm}{E:FE->FJ->Prop}{s:FJ}
set_option maxRecDepth 100000 in
end
theorem a8.ints: ∀ {ns:Fx Int}{us:Fx FE},a8 (ns.map V.int) us->IntsAre us ns
 |[],us,h=>by
  rw[QK] at h;cases h;exact IntsAre.nil
 |n::ns,us,h=>by
  rw[Ge] at h;cases h with
  |cons r t=>
   obtain⟨k,rfl⟩:=r;exact IntsAre.cons n k (a8.ints t)
theorem a8.bls: ∀ {bs:Fx GP}{us:Fx FE},a8 (bs.map V.bl) us->us=bs.map Na
 |[],us,h=>by
  rw[QK] at h;cases h
  rfl
 |b::bs,us,h=>by
  rw[Ge] at h;cases h with
  |cons r t=>
   cases r;rw[a8.bls t,Ge]
def a8.agl {a:FG}(r:a8 [V.ref a] us):us=[Gs a]:=by
 cases r with
 |cons r t=>
  cases t;cases r
  rfl
section
variable {prog:Gy}{w:Hf}{A:Hm}{E:FE->FJ->Prop}{s:FJ}{l:FG}{Il:Fx FE}{ns:Fx Int}{Q:FE->FJ->Prop}
def Ei (hh:A.handled=FM) (hl:s.heap.IsList l Il.toArray) (hi:IntsAre Il ns)
  (h: ∀h' tk t',(∀b o,s.heap.get? b=FB o->h'.get? b=FB o)->Q (.int ns.sum t') { s with heap:=h',toks:=tk }):Gk (model prog w) A (call (.builtin "sum") [.ref l]) Q E s:=by
 obtain⟨xs,e⟩:=hi.allInts.items;have hn:numsOf (Lo xs).toList=ns:=by rw[<-e];exact hi.numsOf
 rw[nums_intItems] at hn;rw[e] at hl;refine PySem.sum_intListG hh hl λh' tk t' hk=>?_;have:=h h' tk t' hk;rw[preSum_eq,JL (by simp),hn];exact this
end
section
variable {X:Cx}
def alF (K:FC):Fx V->Hp->VK->Prop:=λvs H Q=> ∃(a:FG) (ns:Fx Int),vs=[V.ref a]/\cD K H a (ns.map V.int)/\Q (.int ns.sum) H
def v9 (hc:X.calm=FS):gY X (.builtin "sum") (alF X.K):=by
 intro pins s σ H vs us Q I r h;obtain⟨a,ns,rfl,hs,q⟩:=h;obtain⟨Il,rv,hl,_⟩:=I.list hs;rw[a8.agl r];exact Ei (I.ok.hd hc) hl.isList rv.ints λh' tk t' hk=>#[.int _,H,I.kept hk,#[_,Go],q]
end
def Da {prog:Gy}{w:Hf}{A:Hm}{E:FE->FJ->Prop}{s:FJ}{l:FG}{Q:FE->FJ->Prop}(hl:s.heap.IsList l items)
  (h: ∀s₂:FJ,s₂= { s with heap:=s.heap.push { cls:= .type "list_iterator",data:= .fields [.ref l, .int 0 0].toArray } } ->
   (s₂.heap.IsListIter s.heap.objs.size l 0/\s₂.heap.IsList l items)->l≠s.heap.objs.size->Q (.ref s.heap.objs.size) s₂):Gk (model prog w) A (pyIter (.ref l)) Q E s:=by
 have U8:l<s.heap.objs.size:=by obtain⟨_,e,_⟩:=hl;exact Gq e
 exact wpAny_pyIter_list hl (h _ Go #[#[_,Hx _ Go,Go,Go],hl.push _] (Hv U8))
def sK {prog:Gy}{w:Hf}{A:Hm}{bs:Fx GP}{Il:Fx FE}(e:Il=bs.map Na):
  TruthOf prog w A (λi v=>Il.toArray[i]?=FB v) (λi=>bs.getD i Gc):=λi v s Q E hv hq=>by
 have hv':Il[i]?=FB v:=by simpa using hv
 rw[e,GR] at hv';obtain⟨b,hb,rfl⟩:=GH.mp hv';have hg:bs.getD i Gc=b:=by rw[Jl,hb]<;>rfl
 have U9:Q (bs.getD i Gc) s:=hq;rw[hg] at U9;exact Jq U9
theorem qI: ∀bs:Fx GP,(JS bs.length).all (λi=>bs.getD i Gc)=bs.all id
 |[]=>rfl
 |b::bs=>by
  rw[FW,Fx.range_succ_eq_map,N4,TZ,N4,<-qI bs]
  all_goals rfl
section
variable {X:Cx}
def alG (K:FC):Fx V->Hp->VK->Prop:=λvs H Q=> ∃(a:FG) (bs:Fx GP),vs=[V.ref a]/\cD K H a (bs.map V.bl)/\Q (.bl (bs.all id)) H
def aa6 (hc:X.calm=FS):gY X (.builtin "all") (alG X.K):=by
 intro pins s σ H vs us Q I r h;obtain⟨a,bs,rfl,hs,q⟩:=h;obtain⟨Il,rv,hl,_⟩:=I.list hs;rw[a8.agl r];have hb:=rv.bls;refine call_all_walk (Da hl.isList λs₂ e2 st hne=>?_);subst e2;refine#[_,_,_,_,_,_,_,Go,Walks.list (A:=X.A.in1) (I.ok.hd hc) _ a hne Il.toArray,st,sK hb,λh' tk hk=>?_];refine#[.bl _,H,I.kept λb o eo=>hk b o (λaa7=>?_) (FY _ eo),?_,q]
 .rcases FU.mp aa7 with e1|aa7
  .exact F6 (e1▸Gq eo) (IB _)
  .cases aa7
 .show Na _=Na _
  rw[<-qI,hb,Hd,FT]
end
abbrev Cm (h:Ho) (c:FG) (v:FP FE):Prop:=h.IsCell c v
def alH (scope sc:Scope):Scope:=
 { scope with names:=scope.names.map λ(n,k)=>if(k == .free&&sc.kind == .function&&sc.names.lookup n == FB .cell) then(n, .cell) else(n,k) }
def b3 (cells:Fx (Gf×FG)):Fx (Gf×Kl)->Fx (Gf×FG)->Fx (Gf×FG)
 |[],acc=>acc
 | (n,k)::r,acc=>if k == .free then b3 cells r ((n,(cells.lookup n).getD 0)::acc) else b3 cells r acc
theorem kg (env:Env) (f:Gf×Kl->Fx (Gf×FG)->Sem (ForInStep (Fx (Gf×FG))))
  (hf: ∀n k c,f (n,k) c=if k == .free then(do let a<-cellOf env n;pure (.yield ((n,a)::c))) else pure (.yield c)):
  ∀(names:Fx (Gf×Kl)) (acc:Fx (Gf×FG)),(∀y∈names,y.2= .free-> ∃c,env.cells.lookup y.1=FB c)->forIn names acc f=pure (b3 env.cells names acc)
 |[],acc,_=>by rw[RU];rfl
 | (n,k)::r,acc,h=>by
  rw[Xh,hf];have ih:=λacc=>kg env f hf r acc λy hy=>h y (FK _ hy)
  unfold b3;by_cases hk:(k == L7)=FS
  .rw[FI hk,FI hk]
   obtain⟨c,hc⟩:=h (n,k) FL (by simpa using hk);have e:cellOf env n=pure c:=by unfold cellOf;rw[hc]
   rw[e];have e2:(env.cells.lookup n).getD 0=c:=by rw[hc];rfl
   rw[e2];exact ih _
  .rw[FF hk,FF hk]
   exact ih _
def vR {scope:Scope}{env:Env}(h: ∀y∈scope.names,y.2= .free-> ∃c,env.cells.lookup y.1=FB c):closureFor scope env=pure (b3 env.cells scope.names []):=by
 simp only[closureFor];rw[kg env _ (λn k c=>rfl) scope.names [] h]
 rfl
theorem jR {α:Type} : ∀ {l:Fx (Gf×α)}{n:Gf}{c:α},(n,c)∈l-> ∃c',l.lookup n=FB c'
 | (k,v)::r,n,c,h=>by
  rw[Ko];cases hb:n == k with
  |true=>exact#[_,Go]
  |false=>
   rcases FU.mp h with e|h
   .cases e;simp at hb
   .exact jR h
theorem gu {cells:Fx (Gf×FG)} : ∀ {names:Fx (Gf×Kl)}{acc:Fx (Gf×FG)}{n:Gf}{c:FG},(n,c)∈b3 cells names acc->(n,c)∈acc\/((n, .free)∈names/\c=(cells.lookup n).getD 0)
 |[],_,_,_,h=> .inl h
 | (m,k)::r,acc,n,c,h=>by
  unfold b3 at h;split at h
  .rename_i hk
   have hk:k= .free:=by simpa using hk
   rcases gu h with h|⟨h1,h2⟩
   .rcases FU.mp h with e|h
    .cases e;exact .inr #[hk▸FL,Go]
    .exact .inl h
   .exact .inr #[FK _ h1,h2]
  .rcases gu h with h|⟨h1,h2⟩
   .exact .inl h
   .exact .inr #[FK _ h1,h2]
theorem iF {cells:Fx (Gf×FG)} : ∀ {names:Fx (Gf×Kl)}{acc:Fx (Gf×FG)}{p:Gf×FG},p∈acc->p∈b3 cells names acc
 |[],_,_,h=>h
 | (m,k)::r,acc,p,h=>by
  unfold b3;split
  .exact iF (FK _ h)
  .exact iF h
theorem iI {cells:Fx (Gf×FG)} : ∀ {names:Fx (Gf×Kl)}{acc:Fx (Gf×FG)}{n:Gf},(n, .free)∈names->(n,(cells.lookup n).getD 0)∈b3 cells names acc
 | (m,k)::r,acc,n,h=>by
  unfold b3;rcases FU.mp h with e|h
  .cases e
   exact iF FL
  .split
   .exact iI h
   .exact iI h
theorem gV: ∀ {names:Fx (Gf×Kl)}{h:Ho}{acc:Fx (Gf×FG)}{x:Gf}{c:FG},(x,c)∈IJ h.objs.size names acc->
  (x,c)∈acc\/((x, .cell)∈names/\h.objs.size<=c/\Cm (N3 h names) c FM)
 |[],_,_,_,_,h=> .inl h
 | (n,k)::r,h,acc,x,c,hm=>by
  unfold IJ at hm;unfold N3;split at hm
  .rename_i hk
   rw[FI hk];have hk:k= .cell:=by simpa using hk
   rw[<-Iq h { cls:= .type "cell",data:= .cell FM }] at hm;rcases gV hm with hm|⟨h1,h2,h3⟩
   .rcases FU.mp hm with e|hm
    .cases e
     exact .inr #[hk▸FL,F5 _,_,Pz r _ _ _ (Hx _ Go),Go]
    .exact .inl hm
   .rw[Iq] at h2
    exact .inr #[FK _ h1,L4 h2,h3]
  .rename_i hk
   rw[FF hk];rcases gV hm with hm|⟨h1,h2,h3⟩
   .exact .inl hm
   .exact .inr #[FK _ h1,h2,h3]
theorem jl: ∀ {names:Fx (Gf×Kl)}{n:FX}{acc:Fx (Gf×FG)}{p:Gf×FG},p∈acc->p∈IJ n names acc
 |[],_,_,_,h=>h
 | (m,k)::r,n,acc,p,h=>by
  unfold IJ;split
  .exact jl (FK _ h)
  .exact jl h
theorem lh: ∀ {names:Fx (Gf×Kl)}{n:FX}{acc:Fx (Gf×FG)}{x:Gf},(x, .cell)∈names-> ∃c,(x,c)∈IJ n names acc
 | (m,k)::r,n,acc,x,h=>by
  unfold IJ;rcases FU.mp h with e|h
  .cases e
   exact#[n,jl FL]
  .split
   .exact lh h
   .exact lh h
theorem k7: ∀ {names:Fx (Gf×Kl)}{h:Ho}{acc:Fx (Gf×FG)}{x y:Gf}{c:FG},(∀p∈acc,p.2<h.objs.size)->(∀x y c,(x,c)∈acc->(y,c)∈acc->x=y)->
  (x,c)∈IJ h.objs.size names acc->(y,c)∈IJ h.objs.size names acc->x=y
 |[],_,_,_,_,_,_,hi,h1,h2=>hi _ _ _ h1 h2
 | (n,k)::r,h,acc,x,y,c,hl,hi,h1,h2=>by
  unfold IJ at h1 h2;split at h1
  .rename_i hk
   rw[FI hk] at h2;rw[<-Iq h { cls:= .type "cell",data:= .cell FM }] at h1 h2;refine k7 (h:=h.push _) (λp hp=>?_) (λx y c a b=>?_) h1 h2
   .rw[Iq]
    rcases FU.mp hp with rfl|hp
    .exact Ib _
    .exact JH (hl p hp)
   .rcases FU.mp a with e|a<;>rcases FU.mp b with e'|b
    .cases e;cases e';rfl
    .cases e;exact F6 (hl _ b) (IB _)
    .cases e';exact F6 (hl _ a) (IB _)
    .exact hi _ _ _ a b
  .rename_i hk
   rw[FF hk] at h2;exact k7 hl hi h1 h2
def tG {M:Model}{A:Hm}{E:FE->FJ->Prop}{s:FJ}{scope:Scope}{globals:FG}{closure:Fx (Gf×FG)}{Hy:Gf}{func:FP FG}{code:FE}{around:Env}{builtins:FG}{Q:Env->FJ->Prop}
  (h:Q (newEnv scope s.heap.objs.size globals (IJ (s.heap.objs.size+1) scope.names closure) Hy func code (FB around) builtins)
   { s with heap:=N3 (s.heap.push { cls:= .type "dict",data:= .dict [].toArray }) scope.names }):
  Gk M A (newFunctionEnv scope globals closure [] Hy func code (FB around) builtins) Q E s:=by
 simp only[newFunctionEnv,UQ,TY];refine FV (wpAny_alloc ?_);refine FV (wpAny_layCells _ (λn k c=>rfl) scope.names closure _ _ ?_);rw[show({ s with heap:=s.heap.push { cls:= .type "dict",data:= .dict [].toArray } } :FJ).heap.objs.size=s.heap.objs.size+1 from Iq ..];rw[RU];exact FV (Gu (Gu h))
theorem iY {sc:Scope} : ∀ {names:Fx (Gf×Kl)}{x:Gf}{k:Kl},
  (names.map λ(n,k)=>if(k == L7&&sc.kind == .function&&sc.names.lookup n == FB .cell) then(n,RG) else(n,k)).lookup x=FB k->
  ∃k',names.lookup x=FB k'/\(k=k'\/(k'= .free/\k= .cell))
 |[],_,_,h=>by simp at h
 | (n,k₀)::r,x,k,h=>by
  have ih:= @iY sc r x k
  have h':JO x ((if(k₀ == L7&&sc.kind == .function&&sc.names.lookup n == FB .cell)=FS then(n,RG) else(n,k₀))::(r.map _))=FB k:=h
  cases hx:x == n with
  |true=>
   simp only[Ko,hx];by_cases hc:(k₀ == L7&&sc.kind == .function&&sc.names.lookup n == FB .cell)=FS
   .rw[FI hc] at h'
    simp only[Ko,hx] at h';cases h';simp only[GI,beq_iff_eq] at hc;exact#[k₀,Go, .inr #[hc.1.1,Go]]
   .rw[FF hc] at h'
    simp only[Ko,hx] at h';cases h';exact#[_,Go, .inl Go]
  |false=>
   simp only[Ko,hx];by_cases hc:(k₀ == L7&&sc.kind == .function&&sc.names.lookup n == FB .cell)=FS
   .rw[FI hc] at h'
    simp only[Ko,hx] at h';exact ih h'
   .rw[FF hc] at h'
    simp only[Ko,hx] at h';exact ih h'
structure tU (N:Fx Gf) (sc scope:Scope) (own:Fx (Gf×FX)):Prop where
 kind:scope.kind= .function
 uniq: ∀y∈scope.names,scope.names.lookup y.1=FB y.2
 ix: ∀p∈own,N[p.2]?=FB p.1
 free: ∀y∈scope.names,y.2= .free->sc.names.lookup y.1=FB .cell\/sc.names.lookup y.1=FB .free
 own: ∀y∈scope.names,y.2= .local\/y.2= .cell->y.1∈own.map (·.1)\/y.1∉N
def g8 (σ:St):Fx FX->St
 |[]=>σ
 |v::vs=>(g8 σ vs).set v FM
theorem iN (σ:St): ∀vs:Fx FX,(g8 σ vs).length=σ.length
 |[]=>rfl
 |v::vs=>by unfold g8;rw[Fx.length_set,iN σ vs]
theorem lH {σ:St}{i:FX}{x:V} : ∀ {vs:Fx FX},(g8 σ vs)[i]?=FB (FB x)->σ[i]?=FB (FB x)/\i∉vs
 |[],h=>#[h,by simp]
 |v::vs,h=>by
  unfold g8 at h;by_cases hi:v=i
  .subst hi
   by_cases hv:v<(g8 σ vs).length
   .rw[Oq hv] at h;cases h
   .rw[Js (by simpa using hv)] at h;cases h
  .rw[OZ hi] at h
   obtain⟨h1,h2⟩:=lH h;exact#[h1,by simp only[FU,Wj];exact#[λe=>hi e.symm,h2]]
abbrev Cx.SK (X:Cx) (s:FJ) (H:Hp) (scope:Scope) (LI:Env) (fp:Fx FG):Cx:= { X with Ql:=s,H_0:=H,env:=LI,outer:=X.stack,ex:=fp,fn:=λx=>scope.names.lookup x == FB .cell,pn:=[],xe:=λ_ _=>False }
section
variable {X:Cx}{pins:Fx (FG×Jp)}{σ:St}{H:Hp}{s:FJ}
def tq {scope:Scope}{own:Fx (Gf×FX)}{fp:Fx FG}(I:aE X pins σ H s) (ok:tU X.N X.env.scope scope own) (hN:X.N.Nodup) (hfp: ∀b∈fp,pz X pins H b/\b<s.heap.objs.size):
  aE (X.SK s H scope (Lq scope (IJ (s.heap.objs.size+1) scope.names (b3 X.env.cells scope.names [])) s.heap.objs.size X.env) fp) [] (g8 σ (own.map (·.2))) H { s with heap:=N3 (s.heap.push { cls:= .type "dict",data:= .dict [].toArray }) scope.names } :=by
 have Sd: ∀y∈scope.names,y.2= .free-> ∃c,X.env.cells.lookup y.1=FB c:=λy hy e=>by
  rcases ok.free y hy e with k|k
  .exact I.ok.has _ (.inl k)
  .exact I.ok.has _ (.inr k)
 generalize Tz:Lq scope (IJ (s.heap.objs.size+1) scope.names (b3 X.env.cells scope.names [])) s.heap.objs.size X.env=LI;have kp: ∀b o,s.heap.get? b=FB o->(N3 (s.heap.push { cls:= .type "dict",data:= .dict [].toArray }) scope.names).get? b=FB o:=λb o e=>Pz _ _ _ _ (FY _ e)
 have hL:LI.locals=s.heap.objs.size:=by rw[<-Tz];rfl
 have hcl:LI.cells=IJ (s.heap.objs.size+1) scope.names (b3 X.env.cells scope.names []):=by rw[<-Tz];rfl
 have hsc:LI.scope=alH scope X.env.scope:=by rw[<-Tz];rfl
 rw[<-Iq s.heap { cls:= .type "dict",data:= .dict [].toArray }] at hcl;have cm: ∀ {y c},(y,c)∈b3 X.env.cells scope.names []->X.env.cells.lookup y=FB c/\c<s.heap.objs.size:=λ{y c} hm=>by
  rcases gu hm with hm|⟨h1,rfl⟩
  .cases hm
  .obtain⟨c,hc⟩:=Sd _ h1 Go
   rw[hc];obtain⟨w,z⟩:=I.cell _ _ hc;exact#[Go,z.lt]
 have mem: ∀ {y c},LI.cells.lookup y=FB c->(X.env.cells.lookup y=FB c/\c<s.heap.objs.size)\/(s.heap.objs.size+1<=c/\Cm (N3 (s.heap.push { cls:= .type "dict",data:= .dict [].toArray }) scope.names) c FM):=λ{y c} e=>by
  rw[hcl] at e;rcases gV (Hi e) with hm|⟨_,h2,h3⟩
  .exact .inl (cm hm)
  .rw[Iq] at h2;exact .inr #[h2,h3]
 have look: ∀ {y},scope.names.lookup y=FB .free-> ∃c,LI.cells.lookup y=FB c/\X.env.cells.lookup y=FB c:=λ{y} hl=>by
  have hy:(y,L7)∈scope.names:=Hi hl;obtain⟨c',e'⟩:=jR (jl (names:=scope.names) (n:=(s.heap.push { cls:= .type "dict",data:= .dict [].toArray }).objs.size) (iI (cells:=X.env.cells) (acc:=[]) hy));rw[<-hcl] at e';refine#[c',e',?_];rw[hcl] at e';rcases gV (Hi e') with hm|⟨h1,_,_⟩
  .exact(cm hm).1
  .have:=ok.uniq _ h1
   rw[hl] at this;cases this
 have okB:(X.SK s H scope LI fp).Ok:=by
  refine#[I.ok.mod,by show LI.scope.kind=_;rw[hsc];exact ok.kind,by show LI.globals=_;rw[<-Tz];exact I.ok.glob,by show LI.builtins=_;rw[<-Tz];exact I.ok.blt,by show s.heap.objs.size<=LI.locals;rw[hL];exact F5 _,
   λy z c e1 e2=>?_,λy hy=>?_,λy c z e=>?_,I.ok.hd,I.ok.frames, .inl Go,λb hb=>#[?_,λy c e z=>?_],I.bs,F7 I.ok.Vq I.sz,λb o e hb=>?_,λb hb z=>?_,I.stack,I.Qa]
  .have e1:LI.cells.lookup y=FB c:=e1
   have e2:LI.cells.lookup z=FB c:=e2;rw[hcl] at e1 e2;refine k7 (λp hp=>?_) (λy z c a b=>I.ok.inj y z c (cm a).1 (cm b).1) (Hi e1) (Hi e2)
   rw[Iq];exact JH (cm (y:=p.1) (c:=p.2) hp).2
  .show∃c,LI.cells.lookup y=FB c
   have key: ∀k,LI.kindOf y=FB k->(k= .cell\/k= .free)-> ∃c,LI.cells.lookup y=FB c:=λk hk hk'=>by
    unfold Env.kindOf at hk;rw[hsc] at hk;obtain⟨k',e,r⟩:=iY hk;have:k'= .cell\/k'= .free:=by
     rcases r with rfl|⟨rfl,_⟩
     .exact hk'
     .exact .inr Go
    rcases this with rfl|rfl
    .obtain⟨c,hm⟩:=lh (n:=(s.heap.push { cls:= .type "dict",data:= .dict [].toArray }).objs.size) (acc:=b3 X.env.cells scope.names []) (Hi e)
     obtain⟨c',e'⟩:=jR hm;exact#[c',by rw[hcl];exact e']
    .obtain⟨c,h1,_⟩:=look e
     exact#[c,h1]
   rcases hy with hy|hy
   .exact key _ hy (.inl Go)
   .exact key _ hy (.inr Go)
  .have z:(scope.names.lookup y == FB RG)=FS:=z
   have z:scope.names.lookup y=FB .cell:=by simpa using z
   have e:LI.cells.lookup y=FB c:=e;rw[hcl] at e;rcases gV (Hi e) with hm|⟨_,h2,_⟩
   .rcases gu hm with hm|⟨h1,_⟩
    .cases hm
    .have q:=ok.uniq _ h1
     rw[z] at q;cases q
   .rw[Iq] at h2
    exact L4 h2
  .show b≠LI.locals
   rw[hL];exact Hv (hfp b hb).2
  .have e:LI.cells.lookup y=FB c:=e
   rcases mem e with⟨h1,_⟩|⟨h1,_⟩
   .exact(hfp b hb).1.2.2.2.2.1 y c h1 z
   .have h2:s.heap.objs.size+1<=b:=by rw[<-z];exact h1
    exact F6 (Gv (hfp b hb).2 (L4 h2)) (IB _)
  .rcases(hfp b hb).1.2.2.2.1 with z|z
   .exact I.ok.Tv b o e z
   .exact F6 (Gv (Gq e) (F7 I.ok.Vq z)) (IB _)
  .rcases FU.mp (I.SI b z) with z|z
   .exact(hfp b hb).1.2.1 z
   .exact(hfp b hb).1.2.2.1 z
 refine#[okB,Go,I.bare,Un.kept kp,#[λ_=>FM,?_,λi y av e1 e2 e3=>?_],λy c e=>?_,?_,λy c e=>?_,λp hp=>?_,I.IQ.kept kp,by rw[iN];exact I.len]
 .show Ho.Ns _ LI.locals _
  rw[hL];exact Ho.Ns.keeps (Ho.Ns.new ..) λb o e=>Pz _ _ _ _ e
 .obtain⟨e2,hne⟩:=lH e2
  have RA:scope.names.lookup y=FB .free/\(LI.kindOf y=FB .cell\/LI.kindOf y=FB .free):=by
   have key: ∀k,LI.scope.names.lookup y=FB k->k= .local\/k= .cell\/k= .free->scope.names.lookup y=FB .free/\(LI.kindOf y=FB .cell\/LI.kindOf y=FB .free):=λk hk hk'=>by
    have hk0:=hk;rw[hsc] at hk;obtain⟨k',e,r⟩:=iY hk
    have no: ¬(k'= .local\/k'= .cell):=λhh=>by
     rcases ok.own _ (Hi e) hh with e'|e'
     .obtain⟨p,hp,hpy⟩:=LY.mp e'
      have e3:=ok.ix p hp
      have:p.1=y:=hpy;rw[this] at e3;exact hne (LY.mpr #[p,hp,oW hN e3 e1])
     .exact e' (G8 e1)
    rcases r with rfl|⟨rfl,rfl⟩
    .rcases hk' with rfl|rfl|rfl
     .exact F6 (.inl Go) no
     .exact F6 (.inr Go) no
     .exact#[e, .inr hk0]
    .exact#[e, .inl hk0]
   have e3:o6 LI.scope y:=e3;rcases e3 with e3|e3|e3
   .exact key _ e3 (.inl Go)
   .exact key _ e3 (.inr (.inl Go))
   .exact key _ e3 (.inr (.inr Go))
  obtain⟨m,hn,hl⟩:=I.loc;have alI:o6 X.env.scope y:=(ok.free _ (Hi RA.1) Go).elim (λk=> .inr (.inl k)) (λk=> .inr (.inr k))
  obtain⟨w,r,q⟩:=hl i y av e1 e2 alI;refine#[w,r, .inr #[RA.2,?_]];obtain⟨c,h1,h2⟩:=look RA.1;rcases q with⟨k,_⟩|⟨_,c',e',z⟩
  .have k:X.env.scope.names.lookup y=FB .local:=k
   rcases ok.free _ (Hi RA.1) Go with k'|k'<;>rw[show X.env.scope.names.lookup y=_ from k'] at k<;>cases k
  .rw[h2] at e';cases e'
   exact#[c,h1,z.keeps kp]
 .have e:LI.cells.lookup y=FB c:=e
  rcases mem e with⟨h1,_⟩|⟨_,z⟩
  .obtain⟨w,z⟩:=I.cell y c h1
   exact#[w,z.keeps kp]
  .exact#[_,z]
 .show H LI.locals=FM
  rw[hL];exact I.IQ.fresh (F5 _)
 .have e:LI.cells.lookup y=FB c:=e
  rcases mem e with⟨h1,_⟩|⟨h1,_⟩
  .exact I.L3 y c h1
  .exact I.IQ.fresh (L4 h1)
 .exact F6 (show p∈([]:Fx (FG×Jp))++[] from hp) (by simp)
def aa8 {E:FE->FJ->Prop}{xs:Fx V}{y:V}{v:FE}{Q:FE->FJ->Prop}(I:aE X pins σ H s) (hD:H D=FB (.lst xs)) (hz:xs.length<GD) (r:bo y v)
  (h: ∀s',aE X pins σ (aI H D (.lst (xs++[y]))) s'->Q .none s'):Gk (model X.prog X.w) X.A (call (.builtin "list.append") [.ref D,v]) Q E s:=by
 obtain⟨hz',Il,n,ri,e⟩:=I.IQ D _ hD;have hl:=ri.length;refine append_at (hsz:=by rw[Hd];lia) e λh' sb Sb=>?_;refine h { s with heap:=h' } (I.write (t':=s.toks) (by rw[hD];trivial) (.inl Go) (λb u hb q=>(sb.2 b hb).trans q) #[_,Sb] #[by rw[Gb];exact hz,Il++[v],n+1,ri.append (.cons r .nil),?_]);rw[Sb];simp
def PTs (X:Cx) (ifs:Fx HX) (t:TT):Prop:=
 ∀(pins:Fx (FG×Jp)) (s:FJ) (σ:St) (H:Hp) (Q:GP->Hp->Prop),aE X pins σ H s->t σ H Q->
  Gk (model X.prog X.w) X.A (forIn ifs FS λc r=>if r=FS then do let ok<-isTrue c X.env (eval c X.env);pure (N6 ok) else pure (N6 r)) (TP X pins σ Q) X.xe s
def DC:TT:=λ_ H Q=>Q FS H
def mL:PTs X [] DC:=λ_ _ _ H _ I h=>wpAny_tests_nil #[H,I,h]
def xO {c:HX}{t:TT}(h:PT X c t):PTs X [c] t:=λpins s σ H Q I hw=>wpAny_tests_one (h pins s σ H Q I hw)
end
def zr {α:Type}{t:Sem α}{Q Q':α->FJ->Prop}{A:Hm}{E:FE->FJ->Prop}{s:FJ}(h:Gk M A t Q (λ_ _=>False) s) (hQ: ∀a s,Q a s->Q' a s):Gk M A t Q' E s:=Jc h hQ λ_ _ z=>Jk z
def qO {prog:Gy}{w:Hf}{A:Hm}{R:Result->FJ->Prop}{s:FJ}{elt target Mo:HX}{scope:Scope}{pos:Pos}{it acc:FE}{env:Env}(I:FX->FJ->Prop)
  (turn: ∀n s,I n s->Gk (model prog w) A (Sk it) (λr s₁=>match r with
   |none=>R (.ok .next) s₁
   |some v=>Gk (model prog w) A (Py target it v) (λ_ s₁'=>Gk (model prog w) A (assign target env v) (λ_ s₂=>
     Gk (model prog w) A (forIn ifs FS λc r=>if r=FS then do let ok<-isTrue c env (eval c env);pure (N6 ok) else pure (N6 r)) (λok s₃=>
      if ok=FS then Gk (model prog w) A (eval elt env) (λx s₄=>
       Gk (model prog w) A (call (.builtin "list.append") [acc,x]) (λ_ s₅=> ∃m,m<n/\I m s₅) (T1 (model prog w) A env λe s'=>R (.error e) s') s₄) (T1 (model prog w) A env λe s'=>R (.error e) s') s₃
      else∃m,m<n/\I m s₃) (T1 (model prog w) A env λe s'=>R (.error e) s') s₂) (T1 (model prog w) A env λe s'=>R (.error e) s') s₁') (T1 (model prog w) A env λe s'=>R (.error e) s') s₁) (T1 (model prog w) A env λe s'=>R (.error e) s') s)
  (n:FX) (h:I n s):
  LX (model prog w) A (.compLoop (.ListComp elt [#[target,Mo,ifs,0]] scope pos) 0 it acc env) R s:=by
 refine codeAny_loop Go I (λn s hI=>?_) n h;show Gk _ A ((compTurn (.ListComp elt [#[target,Mo,ifs,0]] scope pos) 0 it acc env).onRaise (λx=>do MU x env;theTreesLotGoes x)) _ _ s;refine wpAny_noted ?_;rw[compTurn_list];refine FV (MZ (FV (Jc (turn n s hI) (λr s₁ h₁=>?_) λ_ _ h'=>h')));cases r with
 |none=>exact Gu h₁
 |some v=>
  refine FV (Jc h₁ (λ_ s₁' h₁'=>?_) λ_ _ h'=>h');refine FV (Jc h₁' (λ_ s₂ h₂=>FV (Jc h₂ (λok s₃ h₃=>?_) λ_ _ h'=>h')) λ_ _ h'=>h');cases ok with
  |false=>exact Gu #[Go,h₃]
  |true=>
   exact FV (FV (Jc h₃ (λx s₄ h₄=>FV (Jc h₄ (λ_ s₅ h₅=>Gu (Gu #[Go,h₅])) λ_ _ h'=>h')) λ_ _ h'=>h'))
section
variable {X:Cx}
def tLc (wi:TI) (g:TG) (tt:TT) (te:TE) (vs:Fx FX):TE:=λσ H Q=>wi σ H λJ H1=> ∀D,H1 D=FM-> ∃W:FX->FX->Hp->Prop,(∃m,W 0 m (aI H1 D (.lst [])))/\ ∀i m H,W i m H->
 (J.stop i H/\Q (.ref D) H)\/(J.go i H/\ ∃Nx:Hp->Prop,(∀H',Nx H'-> ∃m',m'<m/\W (i+1) m' H')/\ ∀x H',J.yld i H x H'->g x (g8 σ vs) H' λσ2 H2=>g8 σ2 vs=g8 σ vs/\tt σ2 H2 λb H3=>
  if b=FS then te σ2 H3 λy H4=> ∃acc,H4 D=FB (.lst acc)/\acc.length<GD/\Nx (aI H4 D (.lst (acc++[y]))) else Nx H3)
def xa {pins:Fx (FG×Jp)}{s:FJ}{σ:St}{H:Hp}{Q:VK}{elt tg Mo:HX}{ifs:Fx HX}{scope:Scope}{own:Fx (Gf×FX)}{pos NY:Pos}{wi:TI}{g:TG}{tt:TT}{te:TE}{use:FP (FE->Sem Nc)}{Qf:FE->FJ->Prop}
  (hc:X.calm=FS) (hN:X.N.Nodup) (I:aE X pins σ H s) (hi:PI X tg Mo wi) (ok:tU X.N X.env.scope scope own)
  (hg: ∀(s:FJ) (H:Hp) (C:FG) (cl:Fx (Gf×FG)) (fp:Fx FG),PG (X.SK s H scope (Lq scope cl C X.env) fp) tg g) (ht: ∀(s:FJ) (H:Hp) (C:FG) (cl:Fx (Gf×FG)) (fp:Fx FG),PTs (X.SK s H scope (Lq scope cl C X.env) fp) ifs tt)
  (he: ∀(s:FJ) (H:Hp) (C:FG) (cl:Fx (Gf×FG)) (fp:Fx FG),PE (X.SK s H scope (Lq scope cl C X.env) fp) elt te) (hs: ∀x,K7 Mo X.env x=pure x)
  (h:tLc wi g tt te (own.map (·.2)) σ H Q)
  (hRR: ∀D C s' m H',aE X pins σ H' s'->Q (.ref D) H'->s'.heap.Ns C m->pz X pins H' C->compPost (model X.prog X.w) X.A X.xe use Qf (.ref D) C (.ok .next) s'):
  Gk (model X.prog X.w) X.A (comprehension (.ListComp elt [#[tg,Mo,ifs,0]] scope pos) scope X.env NY (newList []) Gc (eval Mo X.env) use) Qf X.xe s:=by
 have Sd: ∀y∈scope.names,y.2= .free-> ∃c,X.env.cells.lookup y.1=FB c:=λy hy e=>by
  rcases ok.free y hy e with k|k
  .exact I.ok.has _ (.inl k)
  .exact I.ok.has _ (.inr k)
 refine wpAny_comprehension_free (use:=use) Go hs (vR Sd) ok.kind (λy hy e=>by rw[ok.uniq y hy,e])
  (cc (hi pins s σ H _ I h) λxv s1 hx=>cc hx λitv s2 h2=>?_)
 obtain⟨it,fp,tn,J,H2,e,I2,T,st2,f2,q⟩:=h2;subst e;refine wpAny_newObj_type (tG ?_) (by show 0<=GD;decide);generalize hD:s2.heap.objs.size=D;have hDn:H2 D=FM:=I2.IQ.fresh (KH hD);obtain⟨W,⟨m0,w0⟩,turn⟩:=q D hDn;generalize hs3:({ s2 with heap:=s2.heap.push { cls:= .type "list",data:= .seq ([]:Fx FE).toArray } } :FJ)=s3;have I3:aE X pins σ (aI H2 D (.lst [])) s3:=by
  rw[<-hs3];refine I2.laid (t':=s2.toks) (λb o e=>FY _ e) (KH hD) #[Gn _,[],0, .nil,?_];rw[<-hD];exact Hx _ Go
 have h3:s3.heap=s2.heap.push { cls:= .type "list",data:= .seq ([]:Fx FE).toArray } :=by rw[<-hs3]
 have sz: ∀b∈fp,b<s2.heap.objs.size:=λb hb=>by
  obtain⟨o,e,_⟩:=T.obj _ _ st2 b hb;exact Gq e
 have f3: ∀b∈fp,pz X pins (aI H2 D (.lst [])) b/\b<s3.heap.objs.size:=λb hb=>by
  have U8:=sz b hb;refine#[#[?_,(f2 b hb).2],by rw[h3,Iq];exact JH U8];rw[ac (by rw[<-hD];exact Hv U8)];exact(f2 b hb).1
 have st3:tn 0 s3.heap:=T.keep _ _ _ st2 λb _ o e=>by rw[h3];exact FY _ e
 have I4:=tq I3 ok hN f3
 have pg:=hg s3 (aI H2 D (.lst [])) s3.heap.objs.size (IJ (s3.heap.objs.size+1) scope.names (b3 X.env.cells scope.names [])) fp
 have pt:=ht s3 (aI H2 D (.lst [])) s3.heap.objs.size (IJ (s3.heap.objs.size+1) scope.names (b3 X.env.cells scope.names [])) fp
 have pe:=he s3 (aI H2 D (.lst [])) s3.heap.objs.size (IJ (s3.heap.objs.size+1) scope.names (b3 X.env.cells scope.names [])) fp
 show LX _ _ (.compStart (.ListComp elt [#[tg,Mo,ifs,0]] scope pos) 0 (.ref it) (.ref D) (Lq scope (IJ (s3.heap.objs.size+1) scope.names (b3 X.env.cells scope.names [])) s3.heap.objs.size X.env)) (compPost (model X.prog X.w) X.A X.xe use Qf (.ref D) s3.heap.objs.size) { s3 with heap:=N3 (s3.heap.push { cls:= .type "dict",data:= .dict [].toArray }) scope.names }
 have nfp: ∀b∈fp,(aI H2 D (.lst [])) b=FM:=λb hb=>(f3 b hb).1.1
 generalize hce:Lq scope (IJ (s3.heap.objs.size+1) scope.names (b3 X.env.cells scope.names [])) s3.heap.objs.size X.env=ce at I4 pg pt pe ⊢;have cL:ce.locals=s3.heap.objs.size:=by subst hce;rfl
 generalize hH3:aI H2 D (.lst [])=H3 at I3 I4 pg pt pe w0 nfp f3;generalize hs4:({ s3 with heap:=N3 (s3.heap.push { cls:= .type "dict",data:= .dict [].toArray }) scope.names } :FJ)=s4 at I4 ⊢;have st4:tn 0 s4.heap:=T.keep _ _ _ st3 λb _ o e=>by rw[<-hs4];exact Pz _ _ _ _ (FY _ e)
 have Uz: ∀ {σ':St}{H':Hp}{s':FJ},aE (X.SK s3 H3 scope ce fp) [] σ' H' s'->(∀b∈fp,H' b=FM)-> ∀b∈fp,pz (X.SK s3 H3 scope ce fp) [] H' b:=λ{σ' H' s'} I' hn b hb=>
  #[hn b hb,(I'.ok.exf b hb).1,I'.ok.Tw b hb, .inl hb,λx c e=>(I'.ok.exf b hb).2 x c e,λp hp=>F6 (show p∈([]:Fx (FG×Jp))++[] from hp) (by simp)]
 have loop:LX (model X.prog X.w) X.A (.compLoop (.ListComp elt [⟨tg,Mo,ifs,0⟩] scope pos) 0 (.ref it) (.ref D) ce) (compPost (model X.prog X.w) X.A X.xe use Qf (.ref D) s3.heap.objs.size) s4:=by
  refine qO (λn s'=> ∃i H',aE (X.SK s3 H3 scope ce fp) [] (g8 σ (own.map (·.2))) H' s'/\tn i s'.heap/\(∀b∈fp,H' b=FM)/\W i n H') ?_ m0 #[0,H3,I4,st4,nfp,w0];rintro n s5 ⟨i,H5,I5,st5,n5,w5⟩;rcases turn i n H5 w5 with⟨stop,qq⟩|⟨go,Nx,hNx,step⟩
  .have td:=T.done (X.SK s3 H3 scope ce fp) Go Go Go hc i [] s5 _ H5 (λ_ _=>False) I5 (Uz I5 n5) st5 stop
   refine zr td λr s6 ⟨hr,I6⟩=>?_;subst hr;have I7:aE X pins σ H5 s6:=I3.WJ (ch:=fp) I6.os I6.base I6.IQ I6.bare λb hb=>#[(f3 b hb).1.2.2.2.1,(f3 b hb).1.2.1,(f3 b hb).1.2.2.2.2.1,(f3 b hb).1.2.2.2.2.2]
   have nC:H5 s3.heap.objs.size=FM:=by
    have z:H5 ce.locals=FM:=I6.free;rw[cL] at z;exact z
   obtain⟨m,hn,_⟩:=I6.loc;have hn:s6.heap.Ns ce.locals m:=hn;rw[cL] at hn;exact hRR D s3.heap.objs.size s6 m H5 I7 qq hn (I3.aaU (F5 _) nC)
  .have ti:=T.item (X.SK s3 H3 scope ce fp) Go Go Go hc i [] s5 _ H5 (λ_ _=>False) I5 (Uz I5 n5) st5 go
   refine zr ti λr s6 ⟨u,hr,h6⟩=>?_;subst hr;refine zr h6 λ_ s7 ⟨x,H7,I7,r7,y7,st7,n7⟩=>?_;have I7':=I7.pinned (Uz I7 n7) (T.obj _ _ st7);refine zr (pg _ s7 _ H7 x u _ I7' r7 (step x H7 y7)) λ_ s8 ⟨σ8,H8,I8,hw8,q8⟩=>?_;refine zr (pt _ s8 σ8 H8 _ I8 q8) λb s9 ⟨H9,I9,q9⟩=>?_;have eS: ∀ {s':FJ}{H':Hp},aE (X.SK s3 H3 scope ce fp) ([]++m6 fp s7.heap) σ8 H' s'->Nx H'-> ∃m,m<n/\ ∃i H',aE (X.SK s3 H3 scope ce fp) [] (g8 σ (own.map (·.2))) H' s'/\tn i s'.heap/\(∀b∈fp,H' b=FM)/\W i m H':=λ{s' H'} I' nx=>by
    obtain⟨m',hm,w'⟩:=hNx H' nx;have agm: ∀b∈fp,∀o,s7.heap.get? b=FB o->s'.heap.get? b=FB o/\H' b=FM:=λb hb o e=>
     let z:=I'.pin (b,o) (HG _ (HG _ (jJ hb e)))
     #[z.1,z.2.1]
    have hl:(g8 σ (own.map (·.2))).length=σ8.length:=by rw[<-hw8,iN]
    refine#[m',hm,i+1,H',(I'.Qb (pins:=[])).weak hl (λj v e=>?_),T.keep _ _ _ st7 λb hb o e=>(agm b hb o e).1,λb hb=>?_,w']
    .rw[<-hw8] at e
     exact(lH e).1
    .obtain⟨o,e,_⟩:=T.obj _ _ st7 b hb
     exact(agm b hb o e).2
   cases b with
   |false=>
    simp only[Jt,M9] at q9 ⊢;exact eS I9 q9
   |true=>
    simp only[TY] at q9 ⊢;refine zr (pe _ s9 σ8 H9 _ I9 q9) λz s10 ⟨yv,H10,I10,r10,acc,alJ,alK,nx⟩=>?_;exact aa8 (X:=X.SK s3 H3 scope ce fp) I10 alJ alK r10 λs11 I11=>eS I11 nx
 exact codeAny_compStart_list loop (T.self X.A 0 _ _ _ st4 loop)
def tX {elt tg Mo:HX}{scope:Scope}{pos:Pos}{g:TG}{tt:TT}{te:TE}(hc:X.calm=FS) (hN:X.N.Nodup) (hi:PI X tg Mo wi) (ok:tU X.N X.env.scope scope own)
  (hg: ∀(s:FJ) (H:Hp) (C:FG) (cl:Fx (Gf×FG)) (fp:Fx FG),PG (X.SK s H scope (Lq scope cl C X.env) fp) tg g) (ht: ∀(s:FJ) (H:Hp) (C:FG) (cl:Fx (Gf×FG)) (fp:Fx FG),PTs (X.SK s H scope (Lq scope cl C X.env) fp) ifs tt)
  (he: ∀(s:FJ) (H:Hp) (C:FG) (cl:Fx (Gf×FG)) (fp:Fx FG),PE (X.SK s H scope (Lq scope cl C X.env) fp) elt te) (hs: ∀x,K7 Mo X.env x=pure x:=by intro _;rfl):
  PE X (.ListComp elt [#[tg,Mo,ifs,0]] scope pos) (tLc wi g tt te (own.map (·.2))):=by
 rw[01];rw[eval_ListComp];refine xa hc hN I hi ok hg ht he hs h λD C s' m H' I' q hn f=>#[m,hn,λh'' sb=>?_];obtain⟨f0,f1,f2,f3,f4,f5⟩:=f;exact#[.ref D,H',I'.turned (t':=s'.toks) (λb o hb e=>(sb.2 b hb).trans e) f0 f1 f3 f4 f5,Go,q]
def CW {i:FX}{y:Gf}{elt tg Mo:HX}{scope:Scope}{pos agn:Pos}{g:TG}{tt:TT}{te:TE}(hc:X.calm=FS) (hN:X.N.Nodup) (hy:X.N[i]?=FB y) (hyl:X.env.scope.names.lookup y=FB .local)
  (hsw:KG (.ListComp elt [#[tg,Mo,ifs,0]] scope pos) (FB (.Name y py)) agn.line X.env=pure FS) (hi:PI X tg Mo wi) (ok:tU X.N X.env.scope scope own)
  (hg: ∀(s:FJ) (H:Hp) (C:FG) (cl:Fx (Gf×FG)) (fp:Fx FG),PG (X.SK s H scope (Lq scope cl C X.env) fp) tg g) (ht: ∀(s:FJ) (H:Hp) (C:FG) (cl:Fx (Gf×FG)) (fp:Fx FG),PTs (X.SK s H scope (Lq scope cl C X.env) fp) ifs tt)
  (he: ∀(s:FJ) (H:Hp) (C:FG) (cl:Fx (Gf×FG)) (fp:Fx FG),PE (X.SK s H scope (Lq scope cl C X.env) fp) elt te) (hs: ∀x,K7 Mo X.env x=pure x:=by intro _;rfl):
  PS X (.Assign [.Name y py] (.ListComp elt [#[tg,Mo,ifs,0]] scope pos) agn) (af7 (tLc wi g tt te (own.map (·.2))) (xH i)):=by
 rw[04];rw[exec_Assign_Name_used _ _ _ _ hsw];refine FV (MZ (FV ?_));show Gk _ X.A (do let _<-comprehension (.ListComp elt [#[tg,Mo,ifs,0]] scope pos) scope X.env (firstIterPos [#[tg,Mo,ifs,0]] pos) (newList []) Gc (eval Mo X.env) (FB (assign (.Name y py) X.env))) _ _ s;have h:tLc wi g tt te (own.map (·.2)) σ H (λx H1=>xH i x σ H1 D.nx):=h
 refine FV (cc (xa (Qf:=λ_ s'=>SP X pins D .next s') hc hN I hi ok hg ht he hs h λL C s' m H' I' q hn f=>?_) λ_ s' hq=>Gu (Gu hq));show Gk _ _ (assign (.Name y py) X.env (.ref L)) _ _ _;refine wpAny_assign_Name (qg (v:=V.ref L) I' hN hy (.inl hyl) Go (λs2 I2 ⟨a,sb,ha⟩=>?_) (.inr hyl));obtain⟨f0,f1,f2,f3,f4,f5⟩:=f;have haC:C≠a:=by
  rcases ha with z|z
  .rw[z];exact f1
  .exact λe=>f4 y a z e.symm
 refine#[m,hn.sameBut sb haC,λh3 sb3=>?_];exact#[_,H',I2.turned (t':=s2.toks) (λb o hb e=>(sb3.2 b hb).trans e) f0 f1 f3 f4 f5,q]
def Ez {elt:HX}{scope:Scope}{pos py:Pos}{y:Gf}{l:FX}{env:Env}(hk:env.scope.kind= .function) (hy:env.scope.names.lookup y=FB .local) (hl:(py.line == pos.line)=FS)
  (ha:(scope.names.any λ(n,k)=>n == y&&(k == .local||k == .cell))=Gc):KG (.ListComp elt gs scope pos) (FB (.Name y py)) l env=pure FS:=by
 have ky:env.kindOf y=FB .local:=hy
 have hb:env.blockKind= .function:=by unfold Env.blockKind;rw[hk];rfl
 unfold KG;simp only[hb,ky,ha,HX.pos,hl]
 rfl
end
def i9 {K:FC}{a:FG}{xs:Fx V}{g:TG}{tt:TT}{te:TE}{σ:St}{H1:Hp}{Qd:Hp->Prop}(Pv:FX->Hp->Prop) (h0:Pv 0 (aI H1 D (.lst []))) (hl: ∀i H,i<=xs.length->Pv i H->cD K H a xs)
  (hs: ∀i x H,xs[i]?=FB x->Pv i H->g x (g8 σ vs) H λσ2 H2=>g8 σ2 vs=g8 σ vs/\tt σ2 H2 λb H3=>
   if b=FS then te σ2 H3 λy H4=> ∃acc,H4 D=FB (.lst acc)/\acc.length<GD/\Pv (i+1) (aI H4 D (.lst (acc++[y]))) else Pv (i+1) H3) (hd: ∀H,Pv xs.length H->Qd H):
  ∃W:FX->FX->Hp->Prop,(∃m,W 0 m (aI H1 D (.lst [])))/\ ∀i m H,W i m H->
   ((YG K a).stop i H/\Qd H)\/((YG K a).go i H/\ ∃Nx:Hp->Prop,(∀H',Nx H'-> ∃m',m'<m/\W (i+1) m' H')/\ ∀x H',(YG K a).yld i H x H'->g x (g8 σ vs) H' λσ2 H2=>g8 σ2 vs=g8 σ vs/\tt σ2 H2 λb H3=>
    if b=FS then te σ2 H3 λy H4=> ∃acc,H4 D=FB (.lst acc)/\acc.length<GD/\Nx (aI H4 D (.lst (acc++[y]))) else Nx H3):=by
 refine#[λi m H=>m=xs.length-i/\i<=xs.length/\Pv i H,#[xs.length,by simp,Gn _,h0],?_];rintro i m H ⟨rfl,hi,p⟩;have q:=hl i H hi p;by_cases U8:i<xs.length
 .refine .inr #[#[xs,xs[i],q,by simp [U8]],Pv (i+1),λH' p'=>#[xs.length-(i+1),by lia,Go,U8,p'],λx H' y=>?_]
  obtain⟨e,y⟩:=y;subst e;exact hs i x _ (y xs q) p
 .have e:i=xs.length:=by lia
  subst e;exact .inl #[#[xs,q,F5 _],hd H p]
def sE (N:Fx Gf) (sc scope:Scope) (own:Fx (Gf×FX)):GP:=
 (match scope.kind with| .function=>FS|_=>Gc)&&(scope.names.all λy=>decide (scope.names.lookup y.1=FB y.2))&&(own.all λp=>decide (N[p.2]?=FB p.1))&&
  (scope.names.all λy=>match y.2 with
   | .free=>(match sc.names.lookup y.1 with|some .cell=>FS|some .free=>FS|_=>Gc)
   | .local=>decide (y.1∈own.map (·.1))||decide (y.1∉N)
   | .cell=>decide (y.1∈own.map (·.1))||decide (y.1∉N)
   |_=>FS)
def gM {sc scope:Scope}(h:sE N sc scope own=FS):tU N sc scope own:=by
 unfold sE at h;simp only[GI,Mq,Ot] at h;obtain⟨⟨⟨h1,h2⟩,h3⟩,h4⟩:=h;refine#[?_,h2,h3,λy hy e=>?_,λy hy e=>?_]
 .split at h1
  .assumption
  .cases h1
 .have q:=h4 y hy
  simp only[e] at q;split at q<;>first|exact .inl (by assumption)|exact .inr (by assumption)|cases q
 .have q:=h4 y hy
  rcases e with e|e<;>(simp only[e,MP,Ot] at q;exact q)
section
variable {κ:Type} [DecidableEq κ]
def bQ (aD:Fx (κ×V)) (k:κ):FP V:=(aD.find? λkv=>decide (kv.1=k)).map (·.2)
def dB (aD:Fx (κ×V)) (k:κ) (v:V):Fx (κ×V):=
 if(aD.any λkv=>decide (kv.1=k))=FS then aD.map (λkv=>if kv.1=k then(kv.1,v) else kv) else aD++[(k,v)]
def fE (aD:Fx (κ×V)) (k:κ):Fx (κ×V):=aD.filter λkv=>decide (kv.1≠k)
def ci {p:κ×V}{r:Fx (κ×V)}{k:κ}(e:p.1=k):bQ (p::r) k=FB p.2:=by simp [bQ,HC,e]
def b7 {p:κ×V}{r:Fx (κ×V)}{k:κ}(e: ¬p.1=k):bQ (p::r) k=bQ r k:=by simp [bQ,HC,e]
theorem kJ (k:κ): ∀aD:Fx (κ×V),(aD.any λkv=>decide (kv.1=k))=(bQ aD k).isSome
 |[]=>rfl
 |p::r=>by
  rw[N5];by_cases e:p.1=k
  .simp only[ci e,GL e,T3,UQ]
  .rw[b7 e,Gp e,SR];exact kJ k r
theorem uG (k j:κ) (y:V): ∀aD:Fx (κ×V),bQ (aD.map λkv=>if kv.1=k then(kv.1,y) else kv) j=(bQ aD j).map λx=>if j=k then y else x
 |[]=>rfl
 |p::r=>by
  have ih:=uG k j y r;rw[Ge];by_cases h:p.1=k
  .rw[FI h]
   by_cases e:p.1=j
   .rw[ci (p:=(p.1,y)) e,ci e,MG,FI (e.symm.trans h)]
   .rw[b7 (p:=(p.1,y)) e,b7 e,ih]
  .rw[FF h]
   by_cases e:p.1=j
   .rw[ci (p:=p) e,ci e,MG,FF (λz=>h (e.trans z))]
   .rw[b7 (p:=p) e,b7 e,ih]
theorem qi (k j:κ) (y:V): ∀aD:Fx (κ×V),bQ aD k=FM->bQ (aD++[(k,y)]) j=if j=k then FB y else bQ aD j
 |[],_=>by
  by_cases e:k=j
  .rw[FI e.symm];exact ci (p:=(k,y)) e
  .rw[FF (λz=>e z.symm)];exact b7 (p:=(k,y)) e
 |p::r,hn=>by
  rw[WV];have hk: ¬p.1=k:=λz=>by rw[ci z] at hn;cases hn
  rw[b7 hk] at hn;have ih:=qi k j y r hn;by_cases e:p.1=j
  .rw[ci e,ci e,FF (λz=>hk (e.trans z))]
  .rw[b7 e,b7 e,ih]
def gX (aD:Fx (κ×V)) (k j:κ) (y:V):bQ (dB aD k y) j=if j=k then FB y else bQ aD j:=by
 unfold dB;by_cases a:(aD.any λkv=>decide (kv.1=k))=FS
 .rw[FI a,uG]
  rw[kJ] at a;by_cases e:j=k
  .obtain⟨x,hx⟩:=Lh.mp a
   rw[FI e,e,hx,MG,FI Go]
  .rw[FF e]
   cases bQ aD j with
   |none=>rfl
   |some x=>rw[MG,FF e]
 .rw[FF a]
  refine qi k j y aD ?_;rw[kJ] at a;cases q:bQ aD k with
  |none=>rfl
  |some x=>rw[q] at a;exact(a Go).elim
def cG (aD:Fx (κ×V)) (k:κ) (v:V):(dB aD k v).length<=aD.length+1:=by
 unfold dB;split
 .rw[FT];lia
 .rw[Gb,FW,KP];lia
def fX.MR {o:FP V}{u:FP FE}(r:fX o u):o.isSome=u.isSome:=by
 cases o with
 |none=>cases u with
  |none=>rfl
  |some _=>exact(show False from r).elim
 |some _=>cases u with
  |none=>exact(show False from r).elim
  |some _=>rfl
def KV.val {aD:Fx (κ×V)}(r:KV aD vs) (k:κ):fX (bQ aD k) (QL vs k):=by
 unfold KV at r
 induction r with
 |nil=>exact HD
 | @cons p q ps qs h t ih=>
  obtain⟨h1,h2⟩:=h;by_cases e:p.1=k
  .have e':q.1=k:=h1.symm.trans e
   have b:QL (q::qs) k=FB q.2:=by simp [QL,HC,e']
   rw[ci e,b];exact h2
  .have e': ¬q.1=k:=λz=>e (h1.trans z)
   have b:QL (q::qs) k=QL qs k:=by simp [QL,HC,e']
   rw[b7 e,b];exact ih
theorem KV.any {aD:Fx (κ×V)}(r:KV aD vs) (k:κ):(aD.any λkv=>decide (kv.1=k))=vs.any λkv=>decide (kv.1=k):=by
 unfold KV at r
 induction r with
 |nil=>rfl
 |cons h t ih=>rw[N5,N5,ih,h.1]
def KV.aa9 {aD:Fx (κ×V)}(r:KV aD vs) (k:κ) {y:V}{u:FE}(ry:bo y u):
  KV (aD.map λkv=>if kv.1=k then(kv.1,y) else kv) (vs.map λkv=>if kv.1=k then(kv.1,u) else kv):=by
 unfold KV at r ⊢
 induction r with
 |nil=>exact .nil
 | @cons p q ps qs h t ih=>
  rw[Ge,Ge];refine .cons ?_ ih;obtain⟨h1,h2⟩:=h;by_cases e:p.1=k
  .rw[FI e,FI (h1.symm.trans e)];exact#[h1,ry]
  .rw[FF e,FF (λz=>e (h1.trans z))];exact#[h1,h2]
def KV.put {aD:Fx (κ×V)}(r:KV aD vs) (k:κ) {y:V}{u:FE}(ry:bo y u):KV (dB aD k y) (stored vs k u):=by
 unfold dB stored;rw[r.any k];by_cases e:(vs.any λkv=>decide (kv.1=k))=FS
 .rw[FI e,FI e];exact r.aa9 k ry
 .rw[FF e,FF e];exact ZF r #[Go,ry]
def KV.drop {aD:Fx (κ×V)}(r:KV aD vs) (k:κ):KV (fE aD k) (without vs k):=by
 unfold KV at r ⊢;unfold fE without
 induction r with
 |nil=>exact .nil
 | @cons p q ps qs h t ih=>
  obtain⟨h1,h2⟩:=h;rw[Oe,Oe];by_cases e:p.1=k
  .have a: ¬decide (p.1≠k)=FS:=by simp [e]
   have b: ¬decide (q.1≠k)=FS:=by simp [h1.symm.trans e]
   rw[FF a,FF b];exact ih
  .have e': ¬q.1=k:=λz=>e (h1.trans z)
   have a:decide (p.1≠k)=FS:=by simp [e]
   have b:decide (q.1≠k)=FS:=by simp [e']
   rw[FI a,FI b];exact .cons #[h1,h2] ih
theorem KV.length {aD:Fx (κ×V)}(r:KV aD vs):aD.length=vs.length:=RV r
def CA (aD:Fx (κ×V)) (k:κ):(fE aD k).length<=aD.length:=HW _ _
end
def oU {P:Gy}{w:Hf}{k:be}{u:FE}(r:bo (kV k) u):(aX P w).is k u=FS:=by
 cases k with
 |inl i=>obtain⟨t,e⟩:=(show∃t,u=KQ i t from r);subst e;exact tZ P w i t
 |inr x=>obtain⟨t,e⟩:=(show∃t,u=O3 x t from r);subst e;exact ug P w x t
theorem qC {P:Gy}{w:Hf} : ∀ {ks:Fx be}{us:Fx FE},a8 (ks.map kV) us->ItemsAre (aX P w) ks us
 |[],_,r=>by rw[QK] at r;cases r;exact .nil
 |k::ks,_,r=>by
  rw[Ge] at r;cases r with
  |cons h t=>exact .cons (oU h) (qC t)
abbrev KT (H:Hp):Fx (Fx be×V)->Fx (Fx be×FG×FE)->Prop:=Paired λp q=>p.1=q.1/\H q.2.1=FB (.tup (p.1.map kV))/\bo p.2 q.2.2
def KT.val {H:Hp}{aD:Fx (Fx be×V)}{xs:Fx (Fx be×FG×FE)}(r:KT H aD xs) (k:Fx be):fX (bQ aD k) ((RK xs k).map (·.2)):=by
 induction r with
 |nil=>exact HD
 | @cons p q ps qs h t ih=>
  obtain⟨h1,_,h2⟩:=h;by_cases e:p.1=k
  .have e':q.1=k:=h1.symm.trans e
   have b:RK (q::qs) k=FB q.2:=by simp [RK,HC,e']
   rw[ci e,b];exact h2
  .have e': ¬q.1=k:=λz=>e (h1.trans z)
   have b:RK (q::qs) k=RK qs k:=by simp [RK,HC,e']
   rw[b7 e,b];exact ih
def KT.aa9 {H:Hp}{aD:Fx (Fx be×V)}{xs:Fx (Fx be×FG×FE)}(r:KT H aD xs) (k:Fx be) {y:V}{u:FE}(ry:bo y u):
  KT H (aD.map λkv=>if kv.1=k then(kv.1,y) else kv) (xs.map (putAt k u)):=by
 induction r with
 |nil=>exact .nil
 | @cons p q ps qs h t ih=>
  rw[Ge,Ge];refine .cons ?_ ih;obtain⟨h1,h2,h3⟩:=h;unfold putAt;by_cases e:p.1=k
  .rw[FI e,FI (h1.symm.trans e)];exact#[h1,h2,ry]
  .rw[FF e,FF (λz=>e (h1.trans z))];exact#[h1,h2,h3]
def KT.put {H:Hp}{aD:Fx (Fx be×V)}{xs:Fx (Fx be×FG×FE)}(r:KT H aD xs) (k:Fx be) {b:FG}{y:V}{u:FE}(hb:H b=FB (.tup (k.map kV))) (ry:bo y u):
  KT H (dB aD k y) (storedH xs k b u):=by
 have e:(aD.any λkv=>decide (kv.1=k))=(RK xs k).isSome:=by
  rw[kJ,(r.val k).MR,IG]
 unfold dB storedH;rw[e];by_cases q:(RK xs k).isSome=FS
 .rw[FI q,FI q];exact r.aa9 k ry
 .rw[FF q,FF q];exact ZF r #[Go,hb,ry]
def KT.keeps {H H':Hp}{aD:Fx (Fx be×V)}{xs:Fx (Fx be×FG×FE)}(r:KT H aD xs) (ht: ∀b ys,H b=FB (.tup ys)->H' b=FB (.tup ys)):KT H' aD xs:=
 Paired.NV r λ_ _ z=>#[z.1,ht _ _ z.2.1,z.2.2]
section
variable {P:Gy}{w:Hf}{H:Hp}{h:Ho}{a:FG}
def YL {u:HO}(ok:hJ P w H h) (e:Rd H a u):cx P w H h a u:=e.ok ok
def nE {aD:Fx (be×V)}(ok:hJ P w H h) (e:Rd H a (.dK aD)):aD.length<=GD/\(a == Jb)=Gc/\ ∃vs,KV aD vs/\h.DictOf (aX P w) a vs:=
 show cx P w H h a (.dK aD) from YL ok e
def YM {aD:Fx (be×V)}(ok:hJ P w H h) (e:H a=FB (.dK aD)):aD.length<=GD/\(a == Jb)=Gc/\ ∃vs,KV aD vs/\h.DictOf (aX P w) a vs:=nE ok (.inl e)
def jT {ks:Fx be}(ok:hJ P w H h) (e:H a=FB (.tup (ks.map kV))):(N0 (aX P w)).is h ks a:=by
 obtain⟨_,Il,r,o,h1,h2,n,h3⟩:=(show cx P w H h a (.tup (ks.map kV)) from ok a _ e);exact#[o,Il.toArray,n,h1,h2,h3,by simpa using qC r]
def pV {aD:Fx (Fx be×V)}(ok:hJ P w H h) (e:Rd H a (.dT aD)):aD.length<=GD/\(a == Jb)=Gc/\
  ∃xs,KT H aD xs/\h.DictOfH (N0 (aX P w)) a xs:=by
 obtain⟨z,y,xs,r,o,es,ep,h1,h2,h3,h4,h5⟩:=(show cx P w H h a (.dT aD) from YL ok e);refine#[z,y,xs,r,o,es,ep,h1,h2,h3,h4,λx hx=>?_,h5];have all: ∀ {l:Fx (Fx be×V)}{m:Fx (Fx be×FG×FE)},KT H l m-> ∀x∈m,(N0 (aX P w)).is h x.1 x.2.1:=by
  intro l m q
  induction q with
  |nil=>intro x hx;exact nomatch hx
  | @cons p q ps qs hq t ih=>
   intro x hx;rcases FU.mp hx with e|hx
   .subst e
    exact jT ok (by rw[<-hq.1];exact hq.2.1)
   .exact ih x hx
 exact all r x hx
def ago {aD:Fx (Fx be×V)}(ok:hJ P w H h) (e:H a=FB (.dT aD)):aD.length<=GD/\(a == Jb)=Gc/\
  ∃xs,KT H aD xs/\h.DictOfH (N0 (aX P w)) a xs:=pV ok (.inl e)
end
def gD (H:Hp) (a:FG) (y:V) (r:FP V):Prop:=
 (∃aD k,Rd H a (.dK aD)/\y=kV k/\r=bQ aD k)\/ ∃aD k b,Rd H a (.dT aD)/\y= .ref b/\H b=FB (.tup (k.map kV))/\r=bQ aD k
def uc (H:Hp) (a:FG) (y v:V) (H':Hp):Prop:=
 (∃aD k,H a=FB (.dK aD)/\y=kV k/\aD.length<GD/\H'=aI H a (.dK (dB aD k v)))\/
 ∃aD k b,H a=FB (.dT aD)/\y= .ref b/\H b=FB (.tup (k.map kV))/\aD.length<GD/\H'=aI H a (.dT (dB aD k v))
theorem gD.k {H:Hp}{a:FG}{aD:Fx (be×V)}{k:be}(e:H a=FB (.dK aD)):gD H a (kV k) (bQ aD k):= .inl #[aD,k, .inl e,Go,Go]
theorem uc.k {H:Hp}{a:FG}{aD:Fx (be×V)}{k:be}{v:V}(e:H a=FB (.dK aD)) (hl:aD.length<GD):uc H a (kV k) v (aI H a (.dK (dB aD k v))):= .inl #[aD,k,e,Go,hl,Go]
section
variable {X:Cx}{pins:Fx (FG×Jp)}{σ:St}{H:Hp}{s:FJ}{a:FG}{y v:V}{u r:FE}{o:FP V}{A:Hm}{E:FE->FJ->Prop}
def aE.big (I:aE X pins σ H s):Jb<s.heap.objs.size:=by
 have h:JI<s.heap.objs.size:=(I.mod.glob.keeps I.bk).lt;exact FX.lt_trans [01] h
def zG {Q:FE->FJ->Prop}(hu:A.units+1<Qt) (I:aE X pins σ H s) (g:gD H a y (FB v)) (ry:bo y u) (h: ∀w' s',aE X pins σ H s'->bo v w'->Q w' s'):
  Gk (model X.prog X.w) A (TX (.ref a) u) Q E s:=by
 rcases g with⟨aD,k,e,ey,l⟩|⟨aD,k,b,e,ey,eb,l⟩
 .subst ey
  obtain⟨z,hd,vs,rel,dd⟩:=nE I.IQ e;obtain⟨w',hw,UA⟩:=fX.some_of (v:=v) (o:=QL vs k) (by rw[l];exact rel.val k);exact wpAny_getItem_of (oU ry) dd.mapOf hw (h w' _ (I.tok _) UA)
 .subst ey
  cases (show u=Gs b from ry);obtain⟨z,hd,xs,rel,dd⟩:=pV I.IQ e;obtain⟨w',hw,UA⟩:=fX.some_of (v:=v) (o:=(RK xs k).map (·.2)) (by rw[l];exact rel.val k);obtain⟨p,hp,hp2⟩:=GH.mp hw;refine Zu (KS hu) (jT I.IQ eb) dd hp ?_;rw[hp2];exact h w' _ (I.tok _) UA
def alL {Q:FE->FJ->Prop}(hu:A.units+1<Qt) (I:aE X pins σ H s) (g:gD H a y o) (ry:bo y u) (h: ∀s',aE X pins σ H s'->Q (.bool o.isSome) s'):
  Gk (model X.prog X.w) A (IY .In u (.ref a)) Q E s:=by
 rcases g with⟨aD,k,e,ey,l⟩|⟨aD,k,b,e,ey,eb,l⟩
 .subst ey
  obtain⟨z,hd,vs,rel,dd⟩:=nE I.IQ e;refine wpAny_in_of (oU ry) hd dd.mapOf ?_;rw[<-(rel.val k).MR,<-l];exact h _ (I.tok _)
 .subst ey
  cases (show u=Gs b from ry);obtain⟨z,hd,xs,rel,dd⟩:=pV I.IQ e;refine wpAny_in_heap (KS hu) (jT I.IQ eb) hd dd ?_;have q:=(rel.val k).MR;rw[IG] at q;rw[<-q,<-l];exact h _ (I.tok _)
def Fb {Q:FE->FJ->Prop}(hu:A.units+1<Qt) (I:aE X pins σ H s) (g:gD H a y o) (ry:bo y u) (h: ∀s',aE X pins σ H s'->Q (.bool (!o.isSome)) s'):
  Gk (model X.prog X.w) A (IY .NotIn u (.ref a)) Q E s:=by
 rcases g with⟨aD,k,e,ey,l⟩|⟨aD,k,b,e,ey,eb,l⟩
 .subst ey
  obtain⟨z,hd,vs,rel,dd⟩:=nE I.IQ e;refine wpAny_notIn_of (oU ry) hd dd.mapOf ?_;rw[<-(rel.val k).MR,<-l];exact h _ (I.tok _)
 .subst ey
  cases (show u=Gs b from ry);obtain⟨z,hd,xs,rel,dd⟩:=pV I.IQ e;refine wpAny_notIn_heap (KS hu) (jT I.IQ eb) hd dd ?_;have q:=(rel.val k).MR;rw[IG] at q;rw[<-q,<-l];exact h _ (I.tok _)
def rc {h':Ho}(I:aE X pins σ H s) (mu:eV (H a)) (hs:M4 a s.heap h') (he: ∃q,h'.get? a=FB q) (new:cx X.prog X.w (aI H a ob) h' a ob):
  aE X pins σ (aI H a ob) { s with heap:=h',toks:=t' } :=
 I.write (x:=a) (e:=a) mu (.inl Go) (λb q hb z=>(hs.2 b hb).trans z) he new
def uS {P:Gy}{w:Hf}{H':Hp}{h':Ho}{aD:Fx (be×V)}(z:aD.length<=GD) (hd:(a == Jb)=Gc) (rel:KV aD vs) (dd:h'.DictOf (aX P w) a vs):
  cx P w H' h' a (.dK aD):=#[z,hd,vs,rel,dd]
def zB {H':Hp}{Q:Nc->FJ->Prop}(hu:A.units+1<Qt) (I:aE X pins σ H s) (g:uc H a y v H') (ry:bo y u) (rv:bo v r) (h: ∀s',aE X pins σ H' s'->Q () s'):
  Gk (model X.prog X.w) A (setItem (.ref a) u r) Q E s:=by
 rcases g with⟨aD,k,e,ey,l,eH⟩|⟨aD,k,b,e,ey,eb,l,eH⟩
 .subst ey eH
  obtain⟨z,hd,vs,rel,dd⟩:=YM I.IQ e;have hz:vs.length<=GD:=by rw[<-rel.length];exact z
  have hl:(dB aD k v).length<=GD:=by have:=cG aD k v;lia
  refine wpAny_setItem_pairs (hsz:=hz) (oU ry) dd λh' Xc hs=>h _ ?_;have he: ∃q,h'.get? a=FB q:=let ⟨q,_,_,hq,_⟩:=Xc;#[q,hq];exact rc I (by rw[e];exact HD) hs he (uS hl hd (rel.put k rv) Xc)
 .subst ey eH
  cases (show u=Gs b from ry);obtain⟨z,hd,xs,rel,dd⟩:=ago I.IQ e;have hz:xs.length<=GD:=by rw[<-RV rel];exact z
  have hl:(dB aD k v).length<=GD:=by have:=cG aD k v;lia
  refine wpAny_setItem_heap (hsz:=hz) (KS hu) (jT I.IQ eb) dd λh' Xc hs=>h _ ?_;obtain⟨q,es,ep,hq,h2,h3,h4,_,h5⟩:=Xc;refine rc I (by rw[e];exact HD) hs #[q,hq] #[hl,hd,_,(rel.put k eb rv).keeps λc ys ec=>?_,q,es,ep,hq,h2,h3,h4,h5];rw[ac (qp ec e (λz=>nomatch z))]
  exact ec
end
section
variable {X:Cx}{pins:Fx (FG×Jp)}{σ:St}{H:Hp}{s:FJ}{a:FG}{aD:Fx (be×V)}{k:be}{u:FE}{A:Hm}{E:FE->FJ->Prop}
def agp {v:V}{Q:FE->FJ->Prop}(I:aE X pins σ H s) (e:H a=FB (.dK aD)) (ry:bo (kV k) u) (l:bQ aD k=FB v) (hm:more=[]\/ ∃x,more=[x])
  (h: ∀w' s',aE X pins σ (aI H a (.dK (fE aD k))) s'->bo v w'->Q w' s'):Gk (model X.prog X.w) A (call (.builtin "dict.pop") (.ref a::u::more)) Q E s:=by
 obtain⟨z,hd,vs,rel,dd⟩:=YM I.IQ e;obtain⟨w',hw,UA⟩:=fX.some_of (v:=v) (o:=QL vs k) (by rw[<-l];exact rel.val k);have hp:(keyPart u).isSome=FS:=by
  cases k with
  |inl i=>obtain⟨t,q⟩:=(show∃t,u=KQ i t from ry);subst q;rfl
  |inr x=>obtain⟨t,q⟩:=(show∃t,u=O3 x t from ry);subst q;rfl
 have ha:argsOk "dict.pop" ⟨.ref a::u::more,[]⟩:=by
  rcases hm with q|⟨x,q⟩
  .subst q;exact PySem.F.args_dict_pop_2 _ _
  .subst q;exact PySem.F.args_dict_pop_3 _ _ _
 refine call_meetsIn SN dd.typeIs PySem.F.entry_dict_pop ha (meets_dict_pop_there (aX X.prog X.w) a (oU ry) more hm hp)
  #[vs,w',dd,by rw[<-rel.length];exact z,hw,λh' Xc hs=>h w' _ ?_ UA]
 have he: ∃q,h'.get? a=FB q:=let ⟨q,_,_,hq,_⟩:=Xc;#[q,hq];exact rc I (by rw[e];exact HD) hs he (uS (F7 (CA aD k) z) hd (rel.drop k) Xc)
def agq {Q:FE->FJ->Prop}(I:aE X pins σ H s) (e:Rd H a (.dK aD)) (h: ∀t s',aE X pins σ H s'->Q (.int aD.length t) s'):Gk (model X.prog X.w) A (call (.builtin "len") [.ref a]) Q E s:=by
 obtain⟨z,hd,vs,rel,dd⟩:=nE I.IQ e;refine call_len_dict hd dd (by rw[<-rel.length];rw[IE] at z;lia) ?_;rw[<-rel.length];exact h _ _ (I.tok _)
end
def Fn (i:HX):Prop:= ∀ov iv,subscripted i Gc ov iv=operate [ov,iv] (TX ov iv)
def xP {prog:Gy}{w:Hf}{A:Hm}{E:FE->FJ->Prop}{s:FJ}{env:Env}{KR slice:HX}{pos:Pos}{T id:String}{Q:FE->FJ->Prop}
  (hl:Ir (.type T) "__getitem__"=pure (FB (.builtin id))) (hs:Fn slice)
  (h:Gk (model prog w) A (eval KR env) (λo s₁=>Gk (model prog w) A (eval slice env) (λi s₂=>s₂.TypeIs o T/\Gk (model prog w) A (TX o i) Q E s₂) E s₁) E s):
  Gk (model prog w) A (eval (.Subscript KR slice pos) env) Q E s:=by
 refine Zz (Jc h (λo s₁ h₁=>Jc h₁ (λi s₂ h₂=>?_) λ_ _ x=>x) λ_ _ x=>x);obtain⟨hT,h₂⟩:=h₂;unfold Vk;refine FV ?_;rw[getitemInPython_of_ne hT.not_modules];refine FV (wpAny_specialOf hT hl ?_);have eS:Gk (model prog w) A (subscripted slice Gc o i) (λr s₃=>Gk (model prog w) A (letTemporaryGo KR o r>>=λ_=>pure r) Q E s₃) E s₂:=by
  rw[hs o i];exact wpAny_operating (Jc h₂ (λr s₃ h₃=>FV (wpAny_letTemporaryGo (Gu h₃))) λ_ _ x=>x)
 first
  |exact Gu (FV eS)
  |exact FV (Gu (FV eS))
  |exact FV eS
def tL {X:Cx}{pins:Fx (FG×Jp)}{σ:St}{H:Hp}{s:FJ}{a:FG}{y:V}{o:FP V}(I:aE X pins σ H s) (g:gD H a y o):s.TypeIs (.ref a) "dict":=by
 rcases g with⟨aD,k,e,_,_⟩|⟨aD,k,b,e,_,_,_⟩
 .obtain⟨_,_,vs,_,dd⟩:=nE I.IQ e
  exact dd.typeIs
 .obtain⟨_,_,xs,_,dd⟩:=pV I.IQ e
  exact dd.typeIs
def agr (td ty:TE):TE:=λσ H Q=>td σ H λx H1=>ty σ H1 λy H2=> ∃a v,x= .ref a/\gD H2 a y (FB v)/\Q v H2
inductive CM (y:V) (R:FP V->Hp->Prop) (x:V) (H2:Hp):Prop
 |mk (a:FG) (o:FP V) (_:x= .ref a) (_:gD H2 a y o) (_:R o H2):CM y R x H2
def alM (ty td:TE):TE:=λσ H Q=>ty σ H λy H1=>td σ H1 (CM y (λo H2=>Q (.bl o.isSome) H2))
def DV (ty td:TE):TE:=λσ H Q=>ty σ H λy H1=>td σ H1 (CM y (λo H2=>Q (.bl (!o.isSome)) H2))
def ags (td ty tv:TE):TS:=λD σ H=>tv σ H λv H1=>td σ H1 λx H2=>ty σ H2 λy H3=> ∃a H4,x= .ref a/\uc H3 a y v H4/\D.nx σ H4
section
variable {X:Cx}{o i e KR:HX}{pos NY agd:Pos}{td ty tv:TE}
def kX (hu:X.A.units+1<Qt) (ho:PE X o td) (hi:PE X i ty) (hs:Fn i):PE X (.Subscript o i pos) (agr td ty):=by
 rw[01];refine xP RC.lookup hs (cc (ho pins s σ H _ I h) λu s1 ⟨x,H1,I1,rx,q1⟩=>cc (hi pins s1 σ H1 _ I1 q1) λiv s2 ⟨y,H2,I2,ry,a,v,ex,g,q2⟩=>?_);subst ex;obtain rfl:u=Gs a:=rx;exact#[tL I2 g,zG hu I2 g ry λw' s3 I3 UA=>#[v,H2,I3,UA,q2]]
def n6 (hu:X.A.units+1<Qt) (hi:PE X i ty) (ho:PE X o td):PC X .In i o (alM ty td):=by
 rw[01];refine cc (hi pins s σ H _ I h) λiv s1 ⟨y,H1,I1,ry,q1⟩=>cc (ho pins s1 σ H1 _ I1 q1) λu s2 ⟨x,H2,I2,rx,a,ov,ex,g,q2⟩=>?_;subst ex;obtain rfl:u=Gs a:=rx;exact alL hu I2 g ry λs3 I3=>#[.bl ov.isSome,H2,I3,Go,q2]
def ja (hu:X.A.units+1<Qt) (hi:PE X i ty) (ho:PE X o td):PC X .NotIn i o (DV ty td):=by
 rw[01];refine cc (hi pins s σ H _ I h) λiv s1 ⟨y,H1,I1,ry,q1⟩=>cc (ho pins s1 σ H1 _ I1 q1) λu s2 ⟨x,H2,I2,rx,a,ov,ex,g,q2⟩=>?_;subst ex;obtain rfl:u=Gs a:=rx;exact Fb hu I2 g ry λs3 I3=>#[.bl (!ov.isSome),H2,I3,Go,q2]
def ie (hu:X.A.units+1<Qt) (ho:PE X o td) (hi:PE X i ty) (hv:PE X KR tv) (hs:KG KR (FB (.Subscript o i NY)) pos.line X.env=pure Gc):
  PS X (.Assign [.Subscript o i NY] KR pos) (ags td ty tv):=by
 rw[04];refine wpAny_Assign_Subscript (cc (hv pins s σ H _ I h) λr s1 ⟨v,H1,I1,rv,q1⟩=>cc (ho pins s1 σ H1 _ I1 q1) λu s2 ⟨x,H2,I2,rx,q2⟩=>cc (hi pins s2 σ H2 _ I2 q2) λiv s3 ⟨y,H3,I3,ry,a,H4,ex,g,q3⟩=>?_) hs;subst ex;obtain rfl:u=Gs a:=rx;exact zB hu I3 g ry rv λs4 I4=>#[σ,H4,I4,q3]
end
def Cv {P:Gy}{w:Hf}{H:Hp}(h:Ho) (hb:Jb<h.objs.size):cx P w H (h.push { cls:= .type "dict",data:= .dict [].toArray }) h.objs.size (.dK []):=
 #[Gn _,beq_eq_false_iff_ne.mpr (Jf (Hv hb)),[], .nil,T7 h]
def aba:TE:=λ_ H Q=> ∀p,H p=FM->Q (.ref p) (aI H p (.dK []))
section
variable {X:Cx}{pos:Pos}
def fh:PE X (.Dict [] [] pos) aba:=λpins s σ H Q I h=>
 wpAny_Dict_empty #[.ref s.heap.objs.size,_,I.laid (a:=s.heap.objs.size) (o:= .dK []) (t':=s.toks) (λ_ _ q=>FY _ q) (F5 _) (Cv s.heap I.big),Go,h _ (I.IQ.fresh (F5 _))]
end
def fQ (aD more:Fx (be×V)):Fx (be×V):=more.foldl (λacc kv=>dB acc kv.1 kv.2) aD
def KV.merge: ∀ {more:Fx (be×V)}{rs:Fx (be×FE)}{aD:Fx (be×V)}{vs:Fx (be×FE)},KV more rs->KV aD vs->KV (fQ aD more) (merged vs rs):=by
 intro more rs aD vs r;unfold KV at r
 induction r generalizing aD vs with
 |nil=>intro q;exact q
 | @cons p q ps qs h t ih=>
  intro r0;have e:KV (dB aD p.1 p.2) (stored vs q.1 q.2):=by
   have:=r0.put p.1 h.2;rw[<-h.1];exact this
  exact ih e
theorem gB: ∀(more aD:Fx (be×V)),(fQ aD more).length<=aD.length+more.length
 |[],aD=>by show aD.length<=aD.length+0;lia
 |p::r,aD=>by
  have h1:=gB r (dB aD p.1 p.2)
  have h2:=cG aD p.1 p.2
  show(fQ (dB aD p.1 p.2) r).length<=_
  rw[FW];lia
structure M1 (X:Cx) (o:HX) (m:Gf) (LJ:Pos) (e:HX) (Md:Pos):Prop where
 base:Ja o m X.env (eval o X.env)=eval o X.env
 few:((Jr Md (F9 [e] X.env)).all (λx=>!x.1)&&(Ln Md (JJ [] X.env)).all (λx=>x.1.isSome)
  &&decide (([e]:Fx HX).length+([]:Fx Keyword).length+(if([]:Fx Keyword).isEmpty then 0 else 1)<30))=FS
 line:(LJ.endLine == Md.line)=FS
 trees:Jr Md (F9 [e] X.env)=[[001]]
def IsD (H:Hp) (a:FG):Prop:=(∃aD,Rd H a (.dK aD))\/ ∃aD,Rd H a (.dT aD)
def abb {X:Cx}{pins:Fx (FG×Jp)}{σ:St}{H:Hp}{s:FJ}{a:FG}(I:aE X pins σ H s) (d:IsD H a):
  s.TypeIs (.ref a) "dict"/\(∀b,Gs a= .ref b-> ∃ob,s.heap.get? b=FB ob/\ob.dict=FM)/\(a == Jb)=Gc:=by
 rcases d with⟨aD,e⟩|⟨aD,e⟩
 .obtain⟨_,hd,vs,_,dd⟩:=nE I.IQ e
  refine#[dd.typeIs,λb q=>?_,hd];cases q;obtain⟨ob,_,_,h1,h2,_⟩:=dd;exact#[ob,h1,h2.2.1]
 .obtain⟨_,hd,xs,_,dd⟩:=pV I.IQ e
  refine#[dd.typeIs,λb q=>?_,hd];cases q;obtain⟨ob,_,_,h1,h2,_⟩:=dd;exact#[ob,h1,h2.2.1]
def abc (td ty:TE):TE:=λσ H Q=>td σ H λx H1=> ∃a,x= .ref a/\IsD H1 a/\ty σ H1 λy H2=> ∃aD k v,H2 a=FB (.dK aD)/\y=kV k/\bQ aD k=FB v/\Q v (aI H2 a (.dK (fE aD k)))
section
variable {X:Cx}{o e f:HX}{LJ Md:Pos}{td ty tx:TE}
def Di (ho:PE X o td) (he:PE X e ty) (m:M1 X o "pop" LJ e Md):PE X (.Call (.Attribute o "pop" LJ) [e] [] Md) (abc td ty):=by
 rw[01];refine wpAny_Call_method m.base m.few m.line PySem.F.plainAttrs_dict SN PySem.F.type_dict_pop (cc (ho pins s σ H _ I h) λu s1 ⟨x,H1,I1,rx,a,ex,d,q1⟩=>?_);subst ex;obtain rfl:u=Gs a:=rx;obtain⟨t1,t2,_⟩:=abb I1 d;refine#[t1,t2,?_];rw[m.trees];refine LS Go (OP (LD (cc (he pins s1 σ H1 _ I1 q1) λiv s2 ⟨y,H2,I2,ry,aD,k,v,ea,ey,l,q2⟩=>LU ?_)));subst ey;exact agp I2 ea ry l (.inl Go) λw' s3 I3 UA=>#[v,_,I3,UA,q2]
end
def tR:entryFor table "dict.update.loop"=FB Builtin.«dict.update.loop»:=entryFor_of_tree (by kernel_rfl)
def i6:plainId "dict.update.loop"=FS:=by decide+kernel
def yU:LC "zip"=FB (.type "zip"):=by decide+kernel
end L2
namespace TL
open PySem PySem.Builtin PySem.Builtin.Str PySem.StrLaws
abbrev tl (x:Gf):Fx FX:=x.cps.toList
def abd {x y:Gf}(h:tl x=tl y):x=y:=Gf.ext' (JN.toList_inj.mp h)
def pQ (x y:Gf):tl (x++y)=tl x++tl y:=by
 show(x++y).cps.toList=_
 rw[Gf.cps_append,JN.toList_append]
def TB (S:Fx FX):Fx (Fx FX)->Fx FX
 |[]=>[]
 |[p]=>p
 |p::q::r=>p++(S++TB S (q::r))
theorem Vb (y:Gf): ∀parts:Fx Gf,tl (ZG y parts)=TB (tl y) (parts.map tl)
 |[]=>rfl
 |[_]=>rfl
 |x::z::r=>by
  show tl (x++y++ZG y (z::r))=tl x++(tl y++TB (tl y) ((z::r).map tl))
  rw[pQ,pQ,Vb y (z::r),G9]
def join_eq (y:Gf) (parts:Fx Gf):Vp y parts=ZG y parts:=glued_eq_join y parts
end TL
namespace L2
open PySem PySem.Spec PyProof.Rows
theorem hX: ∀ {ys:Fx Gf}{us:Fx FE},a8 (ys.map V.str) us->StrsAre us ys
 |[],_, .nil=> .nil
 |y::ys,_, .cons r t=>by
  obtain⟨k,rfl⟩:=r;exact .cons y k (hX t)
section
variable {X:Cx}
def Fa:MtR X "str.join" (λx xs H Q=> ∃a p,∃ys:Fx Gf,x= .str a/\xs=[.ref p]/\(cD X.K H p (ys.map V.str)\/qQ X.K H p (ys.map V.str))/\
  (ys.map (·.length)).sum+ys.length*a.length<=16777216/\Q (.str (Vp a ys)) H):=by
 intro pins s σ H x xs v us Q I rx rs h;obtain⟨a,p,ys,rfl,rfl,hp,hz,h⟩:=h;obtain⟨t,rfl⟩:=rx;cases rs with
 |cons r1 rs=>
  cases rs;cases r1;rcases hp with hp|hp
  .obtain⟨Il,r,⟨o,n,ho,hc,_,hd⟩,_⟩:=I.list hp
   exact PyProof.Rows.join_list (items:=Il.toArray) #[o,ho,hc,n,hd] (by rw[Vh];exact hX r) hz λt' k=>#[.str _,H,I.tok k,#[t',Go],h]
  .obtain⟨Il,r,ht,_⟩:=I.tuple hp
   exact PyProof.Rows.join_tuple (items:=Il.toArray) ht (by rw[Vh];exact hX r) hz λt' k=>#[.str _,H,I.tok k,#[t',Go],h]
end
section
variable {X:Cx}{o e:HX}{to te:TE}
def tM1 (r:V->Fx V->Hp->VK->Prop) (to te:TE):TE:=λσ H Q=>to σ H λx H1=>(∃a,x= .str a)/\te σ H1 λy H2=>r x [y] H2 Q
def agt {id:String}{name:Gf}{LJ pos:Pos}{r:V->Fx V->Hp->VK->Prop}(slot:Slot "str" name id) (ty:typeOf (.builtin id)=pure (.type "method_descriptor")) (rule:MtR X id r) (ho:PE X o to) (he:PE X e te)
  (hs:F9 [e] X.env=[[001]]:=by rfl) (Rx:Ja o name X.env (eval o X.env)=eval o X.env:=by rfl) (Ry:(LJ.endLine == pos.line)=FS:=by rfl):
  PE X (.Call (.Attribute o name LJ) [e] [] pos) (tM1 r to te):=by
 rw[01];refine PySem.Call_method1 Rx hs Ry (cc (ho pins s σ H _ I h) λv s1 ⟨x,H1,I1,r1,q1⟩=>?_);obtain⟨⟨a,rfl⟩,q1⟩:=q1;obtain⟨t,rfl⟩:=_root_.id r1;refine#["str",_,F.plainAttrs_str,slot,ty,ZA _ _ _,(λ_ e=>nomatch e),LS Go (OP (LD ?_))]
 exact cc (he pins s1 σ H1 _ I1 q1) λu s2 ⟨y,H2,I2,r2,q2⟩=>LU (rule pins s2 σ H2 _ [y] _ [u] Q I2 r1 (.cons r2 .nil) q2)
def Er {LJ pos:Pos}(ho:PE X o to) (he:PE X e te) (hs:F9 [e] X.env=[[001]]:=by rfl) (Rx:Ja o "join" X.env (eval o X.env)=eval o X.env:=by rfl) (Ry:(LJ.endLine == pos.line)=FS:=by rfl):
  PE X (.Call (.Attribute o "join" LJ) [e] [] pos) (tM1 (λx xs H Q=> ∃a p,∃ys:Fx Gf,x= .str a/\xs=[.ref p]/\(cD X.K H p (ys.map V.str)\/qQ X.K H p (ys.map V.str))/\
   (ys.map (·.length)).sum+ys.length*a.length<=16777216/\Q (.str (Vp a ys)) H) to te):=
 agt F.slot_str_join F.type_str_join Fa ho he hs Rx Ry
end
abbrev E0:XK:=λ_ _ _=>False
def aR {X:Cx} :dn xR X E0:=λ_ _ _ _ _ _ _ h=>h.elim
section
variable {P:Gy}{w:Hf}{K:FC}{mg:Gf->FP FE}{base:Ho}
def o9.ok {x Hy:Gf}{st:Stmt}{f:FG}{fd:GQ}{N ps:Fx Gf}{k:FX}{sp:Sp}(F:o9 K x Hy st f fd) (S:ay N ps (af st)) (len: ∀vs H Q E,sp vs H Q E->vs.length=ps.length)
  (J3: ∀(Hn:FE) (A:Hm) (outer:Fx Env) (s:FJ) (H:Hp) (vs:Fx V) (Q:VK) (E:XK),bZ k (A.deeper [011])->sp vs H Q E->
   Bd (fg xR P w K mg base N Hy (af st) f Hn A outer s H E).nox (bh st) { nx:=λ_ H'=>Q .Jm H',rt:=Q } (start N vs) H):bW P w K mg base xR (k+1) f fd ps sp:=by
 obtain⟨oc,od,kV,doc,pm,an,Hn,ct,W8,rfl,lk,Td⟩:=F.ex;refine YJ lk Td S len λA outer s H vs Q E hr Uq=>?_;obtain⟨t,h,q⟩:=J3 Hn A outer s H vs Q E hr Uq;exact#[t,h.nox,q]
end
def dv {A:Hm}{k:FX}(hr:bZ k A):A.units+1<Qt:=GF (VG (by decide:1<=64) _) hr.units
section
variable {X:Cx}
def pv (i:FX) {x:Gf}{pos:Pos}(hN:X.N[i]?=FB x:=by rfl) (hv:o6 X.env.scope x:=by first|exact Hs rfl|exact Or.inr (Hs Go)|exact Or.inr (Or.inr Go)) (hd:(x == [003])=Gc:=by decide)
  (Td:(x == ("__classdict__":Gf))=Gc:=by decide):PE X (.Name x pos) (gc i):=dR hN hv hd Td
def zd:gY X (.builtin "len") (λxs H Q=> ∃a aD,xs=[V.ref a]/\H a=FB (.dK aD)/\Q (.int aD.length) H):=by
 intro pins s σ H xs us Q I r h;obtain⟨a,aD,rfl,ha,q⟩:=h;obtain⟨u,rfl,ru⟩:=nZ r;cases ru;exact agq I (.inl ha) λt s' I'=>#[.int aD.length,H,I',#[t,Go],q]
end
def bG {A B:Prop}(h:B):if Gc=FS then A else B:=by
 rw[FF FA];exact h
def b8 {A B:Prop}(h:A):if FS=FS then A else B:=by
 rw[FI Go];exact h
def aU (H H':Hp):Prop:= ∀b o,H b=FB o->H' b=FB o
def aU.refl (H:Hp):aU H H:=λ_ _ h=>h
def aU.trans {H H1 H2:Hp}(a:aU H H1) (b:aU H1 H2):aU H H2:=λc o h=>b c o (a c o h)
def aU.seq {K:FC}{H H':Hp}{a:FG}{xs:Fx V}(e:aU H H') (h:cD K H a xs):cD K H' a xs:=by
 rcases h with(h|⟨o,h⟩)|h
 .exact .inl (.inl (e _ _ h))
 .exact .inl (.inr #[o,e _ _ h])
 .exact .inr h
end L2
namespace OS
open PySem
structure uO (l:Fx FG) (ch:Fx FG) (a:FG) (oe:Jp) (h h':Ho):Prop where
 keep: ∀b o,b∉l->b∉ch->h.get? b=FB o->h'.get? b=FB o
 slot: ∀b o,b∈l->b∉ch->h.get? b=FB o-> ∃sl,h'.get? b=FB { o with slots:=sl }
 there: ∀b o,h.get? b=FB o-> ∃u,h'.get? b=FB u
 fly: ∃vs T oT ts,h'.get? a=FB #[oe.cls,oe.dict, .fields vs,oe.slots]/\vs[1]?=FB (.ref T)/\h.objs.size<=T/\T≠a/\h'.get? T=FB oT/\oT.data= .fields ts/\ts[3]?=FB .none
def qU {o:Jp}{vs:JN FE}(hd:o.data= .fields vs) (f:JN FE->JN FE):o.mapFields f=#[o.cls,o.dict, .fields (f vs),o.slots]:=by
 obtain⟨c,d,dt,sl⟩:=o;cases hd
 rfl
section
variable {E:FE->FJ->Prop}{base:Ho}{a:FG}{Q:Nc->FJ->Prop}
def jF {head:FE}{X2:GP}(RA:A.frames=FB (env::outer)) (hl:s.heap.FunFrames base (env::outer)) (hf:env.frame=FB L)
  (he:s.heap.get? a=FB oe) (hd:oe.data= .fields vs) (hsz:1<vs.size)
  (h: ∀h',uO ((env::outer).filterMap (·.frame)) [a] a oe s.heap h'->Q () { s with heap:=h' }):
  Gk M A (frameOf env>>=λx=>entryPlaceOf L X2>>=λpl=>Sj head x .none (Ox L) .none pl>>=λb=>setField (.ref a) 1 b) (λ_ s'=>Gk M A (QH (.ref a) FM) Q E s') E s:=by
 have na:a∉(env::outer).filterMap (·.frame):=λhm=>by
  obtain⟨_,o,ho,hn⟩:=hl.mem hm;rw[he] at ho;cases ho;exact hn vs hd
 refine FV (wpAny_frameOf_fun RA hl hf λh1 S=>FV (wpAny_entryPlaceOf λpl Ng=>?_));unfold Sj newFields;refine FV (wpAny_newObj_type ?_ (Ng.sizeOk5 _ _ _ _ _));have e1:h1.get? a=FB oe:=(S.2.1 a na).trans he;generalize ht:({ cls:= .type "traceback",dict:=FM,data:= .fields ([head, .ref L, .none,Ox L, .none]++(if pl.isEmpty then JE 6 IA else pl)).toArray } :Jp)=tb
 have td:tb.data= .fields ([head, .ref L, .none,Ox L, .none]++(if pl.isEmpty then JE 6 IA else pl)).toArray:=by rw[<-ht]
 have tf:tb.isFreed=Gc:=Mp td
 have e2:(h1.push tb).get? a=FB oe:=FY tb e1;refine Uh e2 hd hsz ?_
 have ne:h1.objs.size≠a:=L5 (Gq e1)
 have hd3:=Qq hd (·.setIfInBounds 1 (Gs h1.objs.size))
 have e3:=JU (IT (·.setIfInBounds 1 (Gs h1.objs.size))) e2 (Mp hd3)
 have t3:((h1.push tb).update a (IT (·.setIfInBounds 1 (Gs h1.objs.size)))).get? h1.objs.size=FB tb:=
  (Hz (h1.push tb) _ (Jf ne)).trans (Hx h1 tf)
 unfold QH;refine FV (wpAny_field e3 hd3 (x:= .ref h1.objs.size) (by simp [hsz]) ?_);rw[FI (show(Gs h1.objs.size !=IA)=FS from by simp)];have sz3:3<([head, .ref L, .none,Ox L, .none]++(if pl.isEmpty then JE 6 IA else pl)).toArray.size:=by
  simp only[Hd,Gb,FW,KP];lia
 refine Uh t3 td sz3 (h _ ?_);have other: ∀b,b≠a->b≠h1.objs.size-> ∀f,(((h1.push tb).update a (IT (·.setIfInBounds 1 (Gs h1.objs.size)))).update h1.objs.size f).get? b=(h1.push tb).get? b:=λb x y f=>by
  rw[Hz _ _ (Jf y),Hz _ _ (Jf x)]
 have old: ∀b o,s.heap.get? b=FB o->b≠h1.objs.size:=λb o q=>by
  rw[S.1];exact Hv (Gq q)
 have d4:=Qq td (·.setIfInBounds 3 ((FM:FP FG).elim IA λf=>Ox f))
 have t4:=JU (IT (·.setIfInBounds 3 ((FM:FP FG).elim IA λf=>Ox f))) t3 (Mp d4)
 have a4:(((h1.push tb).update a (IT (·.setIfInBounds 1 (Gs h1.objs.size)))).update h1.objs.size (IT (·.setIfInBounds 3 ((FM:FP FG).elim IA λf=>Ox f)))).get? a=FB #[oe.cls,oe.dict, .fields (vs.setIfInBounds 1 (Gs h1.objs.size)),oe.slots]:=by
  rw[Hz _ _ ne,e3,qU hd]
 refine#[λb o nl nc q=>?_,λb o hb nc q=>?_,λb o q=>?_,?_]
 .rw[other b (λz=>nc (by rw[z];exact FL)) (old b o q)]
  exact FY tb ((S.2.1 b nl).trans q)
 .obtain⟨sl,z⟩:=S.2.2 b o q
  exact#[sl,by rw[other b (λy=>nc (by rw[y];exact FL)) (old b o q)];exact FY tb z]
 .by_cases ba:b=a
  .rw[ba];exact#[_,a4]
  .obtain⟨sl,z⟩:=S.2.2 b o q
   exact#[_,by rw[other b ba (old b o q)];exact FY tb z]
 .refine#[_,h1.objs.size,_,_,a4,by simp [hsz],KH S.1.symm,ne,t4,d4,?_]
  simp
def yS (RA:A.frames=FB (env::outer)) (hl:s.heap.FunFrames base (env::outer)) (hf:env.frame=FB L)
  (he:s.heap.get? a=FB oe) (hd:oe.data= .fields vs) (h1:vs[1]?=FB .none)
  (h: ∀h',uO ((env::outer).filterMap (·.frame)) [a] a oe s.heap h'->Q () { s with heap:=h' }):Gk M A (leaving env (.ref a)) Q E s:=by
 unfold leaving MU;simp only[hf];refine FV (FV (wpAny_field he hd h1 ?_));rw[FF [01]];exact jF RA hl hf he hd (JR.mp h1).1 h
def wM (RA:A.frames=FB (env::outer)) (hl:s.heap.FunFrames base (env::outer)) (hf:env.frame=FB L)
  (he:s.heap.get? a=FB oe) (hd:oe.data= .fields vs) (h1:vs[1]?=FB (.ref T)) (ne:T≠a) (hT:s.heap.get? T=FB oT) (hdT:oT.data= .fields ts) (h3:ts[3]?=FB .none)
  (h: ∀h',uO ((env::outer).filterMap (·.frame)) [a,T] a oe s.heap h'->Q () { s with heap:=h' }):Gk M A (MU (.ref a) env) (λ_ s'=>Gk M A (QH (.ref a) FM) Q E s') E s:=by
 unfold MU;simp only[hf];refine FV (wpAny_field he hd h1 ?_);rw[FI (show(Gs T !=IA)=FS from by simp)];refine FV (wpAny_field hT hdT h3 ?_);rw[FF (show¬((IA == Ox L)=FS) from by simp [Ox])];refine FV (Uh hT hdT (JR.mp h3).1 ?_);have other: ∀b,b≠T->(s.heap.update T (IT (·.setIfInBounds 3 IA))).get? b=s.heap.get? b:=λb hb=>Hz _ _ (Jf hb)
 have nT:T∉(env::outer).filterMap (·.frame):=λhm=>by
  obtain⟨_,o,ho,hn⟩:=hl.mem hm;rw[hT] at ho;cases ho;exact hn ts hdT
 have sT:=JU (IT (·.setIfInBounds 3 IA)) hT (Mp (Qq hdT _));refine jF (s:= { s with heap:=s.heap.update T (IT (·.setIfInBounds 3 IA)) }) RA (hl.of_keeps λb o hb hn=>#[o,(other b λq=>by rw[q,hT] at hb;cases hb;exact hn ts hdT).trans hb,Go]) hf ((other a (Jf ne)).trans he) hd (JR.mp h1).1 λh' X=>h h' ?_
 have size:(s.heap.update T (IT (·.setIfInBounds 3 IA))).objs.size=s.heap.objs.size:=Ho.size_after_update ..;refine#[λb o nl nc q=>X.keep b o nl (λz=>nc (by rcases FU.mp z with z|z;rw[z];exact FL;cases z)) ((other b λz=>nc (by rw[z];simp)).trans q),
  λb o hb nc q=>X.slot b o hb (λz=>nc (by rcases FU.mp z with z|z;rw[z];exact FL;cases z)) ((other b λz=>nc (by rw[z];simp)).trans q),λb o q=>?_,?_]
 .by_cases bT:b=T
  .rw[bT];exact X.there T _ sT
  .exact X.there b o ((other b bT).trans q)
 .obtain⟨ws,T',oT',ts',x1,x2,x3,x4⟩:=X.fly
  exact#[ws,T',oT',ts',x1,x2,by rw[<-size];exact x3,x4]
def C7 (RA:A.frames=FB (env::outer)) (hl:s.heap.FunFrames base (env::outer)) (hf:env.frame=FB L)
  (he:s.heap.get? a=FB oe) (hd:oe.data= .fields vs) (h1:vs[1]?=FB (.ref T)) (ne:T≠a) (hT:s.heap.get? T=FB oT) (hdT:oT.data= .fields ts) (h3:ts[3]?=FB .none)
  (h: ∀h',uO ((env::outer).filterMap (·.frame)) [a,T] a oe s.heap h'->Q () { s with heap:=h' }):Gk M A (leaving env (.ref a)) Q E s:=by
 unfold leaving;exact FV (wM RA hl hf he hd h1 ne hT hdT h3 h)
end
end OS
namespace OS
open PySem
section
variable {prog:Gy}{w:Hf}{A:Hm}{E:FE->FJ->Prop}{h:Ho}{g:JN RJ}{d:Drawn}{t:FX}{os:OsState}
variable {nm q:Gf}{C N:FG}{bs bm bmB:Fx FE}{TC:GP}{sn:Fx Gf}{sub:Fx FE}{ab:GP}{col:FP GP}{dd:FP FG}{k0 k1 k2 k3 k5:FP FE}{B KA OL:String}
def LA (h:Ho) (l:Fx FE) (name:Gf) (y:FP FE):Prop:= ∀(M:Model) (A:Hm) (E:FE->FJ->Prop) (g:JN RJ) (d:Drawn) (t:FX) (os:OsState) (Q:FP FE->FJ->Prop),Q y #[h,g,d,t,os]->Gk M A (lookupAlong l name) Q E #[h,g,d,t,os]
def LA.of (m:mroOf (.type B)=pure l) (k:Ir (.type B) name=pure y):LA h l name y:=by
 rw[typeLookup_eq,m] at k;intro M A E g d t os Q q;rw[show lookupAlong l name=pure y from k];exact Gu q
def LA.own {a:FG}{mA:Gf->FP FE}(o:h.get? a=FB #[c0,da, .cls cd,sl]) (n:h.Ns cd.ns mA) (z:mA name=FM) (k:LA h l name y):LA h (.ref a::l) name y:=by
 intro M A E g d t os Q q;rw[lookupAlong_cons];refine FV (wpAny_classOwn_cls o n ?_);rw[z];exact k M A E g d t os Q q
def hZ {mN:Gf->FP FE}{Q:FP FE->FJ->Prop}(hC:h.get? C=FB (IU nm q C N bs bm TC sn sub ab col dd k0 k1 k2 k3 k5 KA)) (n:h.Ns N mN) (k:mN name=FM->LA h bm name y)
  (q:Q (match mN name with|some v=>FB v|none=>y) #[h,g,d,t,os]):Gk M A (Ir (.ref C) name) Q E #[h,g,d,t,os]:=by
 rw[typeLookup_eq];refine FV (wpAny_mroOf_exc hC ?_);rw[lookupAlong_cons];refine FV (wpAny_classOwn_exc hC n ?_);cases z:mN name with
 |some v=>rw[z] at q;exact Gu q
 |none=>rw[z] at q;exact k z M A E g d t os Q q
abbrev dj (C T:FG):Jp:= { cls:= .ref C,data:= .fields [.ref T, .none, .none, .none, .bool Gc, .none].toArray }
abbrev eP (l:Fx FE):Jp:= { cls:= .type "tuple",data:= .seq l.toArray }
def xG (x:FG) (Q:FE->FJ->Prop) (E:FE->FJ->Prop) (r:Result) (s':FJ):Prop:=match r with
 | .ok (.ret v)=>v= .none/\Q (.ref x) s'
 | .ok _=>False
 | .error e=>E e s'
structure Up (bm l:Fx FE) (B:String):Prop where
 b:l.contains (.type B)=FS
 a:l.contains (.type "AttributeError")=Gc
 n:l.contains (.type "NameError")=Gc
def Ck (F:NI B KA OL bmB) (U:Up bm (.ref C::bm) B) {Q:Nc->FJ->Prop}(hC:h.get? C=FB (IU nm q C N bs bm TC sn sub ab col dd k0 k1 k2 k3 k5 KA)) (z:Q () #[h,g,d,t,os]):Gk M A (JY KA #[.ref C::rest,[]]) Q E #[h,g,d,t,os]:=by
 have u:=U.b
 have st:=F.noStar;simp only[F.newRow,F.newSplit,F.newKind,JY]
 repeat (first|(refine wpAny_isSubtype_exc hC ?_;rw[u])|refine GW hC ?_|refine wpAny_madeBy_exc hC ?_|refine wpAny_staticBase_exc hC ?_|simp only[bne_self_eq_false,Jt,M9]|wp_step)
 exact z
def Be (F:NI B KA OL bmB) (U:Up bm (.ref C::bm) B) {R:Result->FJ->Prop}(hC:h.get? C=FB (IU nm q C N bs bm TC sn sub ab col dd k0 k1 k2 k3 k5 KA)) (z:R (.ok (.ret (.ref (h.objs.size+1)))) #[(h.push (eP rest)).push (dj C h.objs.size),g,d,t,os]) (Vc:rest.length<=GD):
  LX (model prog w) A (.builtin KA #[.ref C::rest,[]]) R #[h,g,d,t,os]:=by
 have ang:=F.ends
 have u1:=U.b
 have u2:=U.a
 have u3:=U.n;refine codeAny_builtinAt F.entry ?_;unfold Builtin.«BaseException.__new__»;refine wpAt_bind ?_
 show wpAt _ _ _ (stack>>=_) _ _ _
 refine wpAt_bind (wpAt_stack λ_ _=>wpAt_of_wpAny ?_)
 wp_walk
 refine wpAt_of_wpAny ?_;rw[F.owner]
 repeat (first|(with_reducible refine wpAny_isSubtype_exc hC ?_;first|rw[u1]|rw[u2]|rw[u3])|with_reducible refine wpAny_madeHere_exc F.canon hC ?_|with_reducible refine GW hC ?_|wp_step)
 show R _ _
 rw[Iq];exact z
def zK (F:NI B KA OL bmB) (U:Up bm (.ref C::bm) B) {Q:Nc->FJ->Prop}
  (hC:h.get? C=FB (IU nm q C N bs bm TC sn sub ab col dd k0 k1 k2 k3 k5 KA)) (he:h.get? e=FB oe) (aaP:oe.cls= .ref C) (z:Q () #[h,g,d,t,os]):Gk M A (JY OL #[.ref e::rest,[]]) Q E #[h,g,d,t,os]:=by
 have u:=U.b
 have st:=F.noStar;simp only[F.initRow,F.initSplit,F.initKind,JY]
 repeat (first|(with_reducible refine wpAny_isSubtype_exc hC ?_;rw[u])|(with_reducible refine GW he ?_;rw[aaP])|with_reducible refine GW hC ?_|wp_step)
 refine wpAny_onRaise ?_;rw[show∀(a b:String) (n:FX),Bind.check #[.positional,"*",B, .self,[#["args", .varPos,Gc]]] a b n (Fx.map (λx=>x.1) ({ pos:=Gs e::rest } :Args).kw)=pure () from λ_ _ _=>check_star_args _ _ _ _ _ _];exact Gu z
def pH (F:NI B KA OL bmB) (U:Up bm (.ref C::bm) B) {mN:Gf->FP FE}{Q:Fin->FJ->Prop}
  (hC:h.get? C=FB (IU nm q C N bs bm TC sn sub ab col dd k0 k1 k2 k3 k5 KA)) (hn:h.Ns N mN) (X3:mN "__init__"=FB (.ref fI)) (hI:h.get? fI=FB oI) (hIc:oI.cls= .type "function")
  (hq:LX (model prog w) A (.call (.ref fI) #[.ref (h.objs.size+1)::rest,[]]) (xG (h.objs.size+1) (λv s'=>Q (.done (.ret v)) s') E) #[(h.push (eP rest)).push (dj C h.objs.size),g,d,t,os])
  (Vc:rest.length<=GD):
  Gk (model prog w) A (Builtin.«type.__call__» #[.ref C::rest,[]]) Q E #[h,g,d,t,os]:=by
 repeat (first|with_reducible refine GW hC ?_|with_reducible refine wpAny_madeBy_exc hC ?_|wp_step)
 refine codeAny_call_builtin_code (VI _ F.quiet) (Ck F U hC ?_);refine Be F U hC ?_ Vc;show Gk _ _ _ _ _ _;have c1:((h.push (eP rest)).push (dj C h.objs.size)).get? C=FB (IU nm q C N bs bm TC sn sub ab col dd k0 k1 k2 k3 k5 KA):=FY _ (FY _ hC);have n1:((h.push (eP rest)).push (dj C h.objs.size)).Ns N mN:=
  let ⟨o,es,ep,e,r⟩:=hn;#[o,es,ep,FY _ (FY _ e),r]
 have i1:((h.push (eP rest)).push (dj C h.objs.size)).get? fI=FB oI:=FY _ (FY _ hI)
 have e1:((h.push (eP rest)).push (dj C h.objs.size)).get? (h.objs.size+1)=FB (dj C h.objs.size):=by heap_get
 have hcC:(Gs C::bm).contains (.ref C)=FS:=by simp
 unfold ZC
 repeat (first|with_reducible refine GW e1 ?_|(with_reducible refine wpAny_isSubtype_exc c1 ?_;rw[hcC])|wp_step)
 show Gk _ _ (Ir (.ref C) _) _ _ _
 refine hZ (y:=FM) c1 n1 (λz=>by rw[X3] at z;cases z) ?_;rw[X3];refine Ov ?_;unfold bindSpecial;refine FV (FV ?_);have hT:(⟨(h.push (eP rest)).push (dj C h.objs.size),g,d,t,os⟩:FJ).TypeIs (.ref fI) "function":=#[_,i1,hIc];refine V8 hT (Gu (FV (Rg (NH hq λr s' z=>?_))));rcases r with e|(v|_|_|_)
 .exact z
 .exact z.elim
 .exact z.elim
 .exact z.elim
 .obtain⟨rfl,z⟩:=z
  exact Gu (Gu z)
def Cp (F:NI B KA OL bmB) (U:Up bm (.ref C::bm) B) {mN:Gf->FP FE}{R:Result->FJ->Prop}
  (hC:h.get? C=FB (IU nm q C N bs bm TC sn sub ab col dd k0 k1 k2 k3 k5 KA)) (hn:h.Ns N mN) (X3:mN "__init__"=FB (.ref fI)) (hI:h.get? fI=FB oI) (hIc:oI.cls= .type "function")
  (hq:LX (model prog w) (A.under (.builtin "type.__call__" #[.ref C::rest,[]])) (.call (.ref fI) #[.ref (h.objs.size+1)::rest,[]]) (xG (h.objs.size+1) (λv s'=>R (.ok (.ret v)) s') (λe s'=>R (.error e) s')) #[(h.push (eP rest)).push (dj C h.objs.size),g,d,t,os])
  (Vc:rest.length<=GD):
  LX (model prog w) A (.call (.ref C) #[rest,[]]) R #[h,g,d,t,os]:=by
 have f1:=tc_lookup
 have f2:=tc_bind (.ref C)
 have hT:(⟨h,g,d,t,os⟩:FJ).TypeIs (.ref C) "type":=#[_,hC,Go];refine codeAny_of_tree ?_
 show Gk _ _ (callAny (.ref C) _) _ _ _
 repeat (any_goals (first|assumption|with_reducible refine GW hC ?_|wp_step))
 refine#[Go,?_];refine codeAny_call_builtin_at (VI _ [00]) entry_typeCall (wpAny_check_type_call_sub hC (pH F U hC hn X3 hI hIc ?_ Vc));exact hq
def Aa (F:NI B KA OL bmB) (U:Up bm (.ref C::bm) B) {R:Result->FJ->Prop}
  (hC:h.get? C=FB (IU nm q C N bs bm TC sn sub ab col dd k0 k1 k2 k3 k5 KA)) (he:h.get? e=FB (dj C T))
  (hq:R (.ok (.ret .none)) #[(h.push (eP [])).update e (IT (·.setIfInBounds 0 (.ref h.objs.size))),g,d,t,os]):
  LX (model prog w) A (.call (.builtin OL) #[[.ref e],[]]) R #[h,g,d,t,os]:=by
 refine Qp F.init.plain F.initEntry (zK F U hC he Go ?_);unfold Builtin.«BaseException.__init__»
 wp_walk
 exact hq
end
def agu:Ir (.type "Exception") "__getattribute__"=pure (FB (.builtin "BaseException.__getattribute__")):=by rw[K0,JC];kernel_rfl
def agv:Ir (.type "Exception") "__getattr__"=pure FM:=by rw[K0,JC];kernel_rfl
def xE:Slot "Exception" "__getattribute__" "BaseException.__getattribute__":=
 .of (owner:="BaseException") (n:="__getattribute__") (by rw[K0,JC];kernel_rfl) [00] [00] [00]
  (by first|exact .inl [00]|exact .inr [00]) (by rw[isSubtype_type];kernel_rfl)
section
open Builtin Builtin.ObjectAttr
variable {prog:Gy}{w:Hf}{A:Hm}{E:FE->FJ->Prop}{h:Ho}{g:JN RJ}{d:Drawn}{t:FX}{os:OsState}
variable {nm q:Gf}{C N x:FG}{bs bm:Fx FE}{sn:Fx Gf}{sub:Fx FE}{ab:GP}{col:FP GP}{dd:FP FG}{k0 k1 k2 k3 k5:FP FE}{KA:String}
 {mN mA:Gf->FP FE}{name:Gf}{v:FE}
def yG {Q:Wm->FJ->Prop}
  (hC:h.get? C=FB (IU nm q C N bs bm FS sn sub ab col dd k0 k1 k2 k3 k5 KA)) (hn:h.Ns N mN) (hna:mN name=FM)
  (hB:LA h bm name FM) (I:h.Inst x C mA) (hv:mA name=FB v) (hq:Q (.done (.ret v)) #[h,g,d,t,os]):
  Gk (model prog w) A (Builtin.«object.__getattribute__» #[[.ref x, .str name tk],[]]) Q E #[h,g,d,t,os]:=by
 obtain⟨o,hx,hc,hnc,hd⟩:=I;rcases hd with⟨_,hmA⟩|⟨dx,VA,hne,hns⟩
 .rw[hmA name] at hv;cases hv
 unfold Builtin.«object.__getattribute__»
 repeat (first|(with_reducible refine GW hx ?_;rw[hc])|(with_reducible refine hZ hC hn (λ_=>hB) ?_;rw[hna])|wp_step)
 split
 .rename_i c Td
  exact F6 Td (hnc c)
 unfold instanceDict
 repeat (first|(with_reducible refine GW hx ?_;rw[hc])|with_reducible refine GW hC ?_|wp_step)
 rw[VA]
 repeat (first|(with_reducible refine wpAny_nsGet hns.ns ?_;rw[hv])|wp_step)
 exact hq
def Ai (hcB:(Gs C::bm).contains (.type "BaseException")=FS) {Q:Nc->FJ->Prop}(hC:h.get? C=FB (IU nm q C N bs bm FS sn sub ab col dd k0 k1 k2 k3 k5 KA))
  (hx:h.get? x=FB o) (hc:o.cls= .ref C) (hq:Q () #[h,g,d,t,os]):Gk M A (JY "BaseException.__getattribute__" #[[.ref x,ij],[]]) Q E #[h,g,d,t,os]:=by
 have hk:builtinKind "BaseException.__getattribute__"=FB .slot:=by decide+kernel
 have abe:splitId "BaseException.__getattribute__"=FB ("BaseException","__getattribute__"):=by decide+kernel
 have ha:=PySem.F.args_bexc_ga (.ref x) ij;simp only[JY,hk,abe];refine FV ?_;unfold ZC
 repeat (first|(with_reducible refine GW hx ?_;rw[hc])|(with_reducible refine wpAny_isSubtype_exc hC ?_;rw[hcB])|wp_step)
 exact hq
def Ff (hcB:(Gs C::bm).contains (.type "BaseException")=FS) (l1:LA h bm "__getattribute__" (FB (.builtin "BaseException.__getattribute__"))) (l2:LA h bm "__getattr__" FM) {Q:FE->FJ->Prop}
  (hC:h.get? C=FB (IU nm q C N bs bm FS sn sub ab col dd k0 k1 k2 k3 k5 KA)) (hn:h.Ns N mN) (hng:mN "__getattribute__"=FM) (hnh:mN "__getattr__"=FM) (hna:mN name=FM)
  (hB:LA h bm name FM) (I:h.Inst x C mA) (hv:mA name=FB v) (hh:handedOut v=pure v) (hq:Q v #[h,g,d,t+1,os]):
  Gk (model prog w) A (TR (.ref x) name expr) Q E #[h,g,d,t,os]:=by
 obtain⟨o,hx,hc,_⟩:=id I;have f3:=xE.bind (.ref x);have hx0:(expr&&onTheHeap (Mt "BaseException.__getattribute__"))=Gc:=by cases expr<;>rfl
 have hx2:(Mt "BaseException.__getattribute__" == Mt "object.__getattribute__")=Gc:=by decide+kernel
 have hx1:(onTheHeap (Gs C)&&Mt "BaseException.__getattribute__" == Mt "object.__getattribute__")=Gc:=by rw[hx2];rfl
 have hx3:onTheHeap (Gs C)=FS:=rfl;unfold TR getAttrBy
 repeat (any_goals (first|assumption|(with_reducible refine GW hx ?_;rw[hc])|(with_reducible refine hZ hC hn (λ_=>l1) ?_;rw[hng])|(with_reducible refine hZ hC hn (λ_=>l2) ?_;rw[hnh])|wp_step))
 exact Qp xE.plain PySem.F.entry_bexc_ga (Ai hcB hC hx hc (yG hC hn hna hB I hv (by show Gk _ _ (handedOut v) _ _ _;rw[hh];exact Gu hq)))
end
end OS
namespace OS
open PySem
section
open Builtin Builtin.ObjectAttr
variable {prog:Gy}{w:Hf}{A:Hm}{E:FE->FJ->Prop}{h:Ho}{g:JN RJ}{d:Drawn}{t:FX}{os:OsState}
variable {nm q:Gf}{C N x R:FG}{bs bm:Fx FE}{sn:Fx Gf}{sub:Fx FE}{ab:GP}{col:FP GP}{dd:FP FG}{k0 k1 k2 k3 k5:FP FE}{KA:String}
 {mN mA:Gf->FP FE}{name:Gf}{v:FE}{o:Jp}{vs:JN FE}{sa owner B:String}
def Fi {Q:Nc->FJ->Prop}(SF:MT B bm sa owner) (hC:h.get? C=FB (IU nm q C N bs (.ref R::bm) FS sn sub ab col dd k0 k1 k2 k3 k5 KA)) (hx:h.get? x=FB o) (hc:o.cls= .ref C) (z:Q () #[h,g,d,t,os]):
  Gk M A (JY sa #[[.ref x,y,v],[]]) Q E #[h,g,d,t,os]:=by
 have u:(Gs C:: .ref R::bm).contains (.type owner)=FS:=by rw[GZ,GZ,SF.hasOwner,QM,QM]
 have ha:=SF.args (.ref x) y v;simp only[SF.split,SF.kind,JY];refine FV ?_;unfold ZC
 repeat (first|(with_reducible refine wpAny_isSubtype_exc hC ?_;rw[u])|(with_reducible refine GW hx ?_;rw[hc])|wp_step)
 cases hs:Manifest.signature? sa with
 |none=>exact Gu z
 |some r=>
  simp only[argsOk,hs] at ha;show Gk M A (Ye sa r #[[.ref x,y,v],[]]) Q E _;rw[show Ye sa r #[[.ref x,y,v],[]]=pure () from ha];exact Gu z
def Dq {Q:Wm->FJ->Prop}(SF:MT B bm sa owner) (hC:h.get? C=FB (IU nm q C N bs (.ref R::bm) FS sn sub ab col dd k0 k1 k2 k3 k5 KA)) (hn:h.Ns N mN) (hna:mN name=FM)
  (hB:LA h (.ref R::bm) name FM) (hx:h.get? x=FB o) (hc:o.cls= .ref C) (hdn:o.dict=FM) (hfd:o.data= .fields vs)
  (hq: ∀h' UC,(∀b ob,b≠x->h.get? b=FB ob->h'.get? b=FB ob)->h'.get? x=FB #[o.cls,FB h.objs.size,o.data,o.slots]->h'.Ns1 h.objs.size (λy=>if y=name then FB v else FM)->
   Q (.done (.ret .none)) #[h',g,d,UC,os]):
  Gk (model prog w) A (Builtin.«object.__setattr__» #[[.ref x, .str name tk,v],[]]) Q E #[h,g,d,t,os]:=by
 have WM:=SF.passes (.ref x);unfold Builtin.«object.__setattr__»
 repeat (first|rw[refuse_eq]|(rw[refuseLoop_ref,refuseLoop_ref,WM])|(with_reducible refine GW hx ?_;rw[hc])|with_reducible refine wpAny_mroOf_exc hC ?_|(with_reducible refine hZ hC hn (λ_=>hB) ?_;rw[hna])|wp_step)
 rw[hdn,FF (by simp [typeHasDict])];split
 .rename_i z
  cases z
 split
 .rename_i c z
  rw[hfd] at z;cases z
 .have x1:(h.push { cls:= .type "dict",data:= .dict [].toArray }).get? x=FB o:=FY _ hx
  have ne:x≠h.objs.size:=Hv (Gq hx);refine FV (wpAny_alloc' ?_);refine FV (wpAny_update' x1 ?_);refine Gu ?_
  have hgd:((h.push { cls:= .type "dict",data:= .dict [].toArray }).update x λo=> { cls:=o.cls,dict:=FB h.objs.size,data:=o.data,slots:=o.slots }).get? h.objs.size
    =FB { cls:= .type "dict",data:= .dict [].toArray } :=
   (Vi _ _ _ _ ne.symm).trans (Ho.get?_push_at Go Go)
  have DR:((h.push { cls:= .type "dict",data:= .dict [].toArray }).update x λo=> { cls:=o.cls,dict:=FB h.objs.size,data:=o.data,slots:=o.slots }).Ns h.objs.size (λ_=>FM):=
   #[_, [].toArray,_,hgd,Go,λe he=>F6 he (by simp),λ_=>rfl]
  show Gk _ _ (storeInDict h.objs.size (.str name tk) name v) _ _ _
  unfold storeInDict newKeyGuard;refine FV (Gu (FV (V7 (PB DR) λh' YE hs=>?_)));obtain⟨oD,esD,epD,hoD,hdD,hcD⟩:=YE.count (ZH name v Within.nil);refine FV (Sg hoD (by rw[hdD];exact Sh (F7 hcD (by rw[FW,KP,IE];lia))) ?_)
  wp_walk
  refine hq h' _ (λb ob hb e=>?_) ?_ YE
  .exact(hs.2 b (Hv (Gq e))).trans ((Vi _ _ _ _ hb).trans (FY _ e))
  .refine(hs.2 x ne).trans (JU _ x1 ?_)
   have RA:=(Ho.get?_some_iff.mp hx).2;obtain⟨oc,od,odt,W8⟩:=o;cases odt<;>first|rfl|exact RA
def BV {Q:Wm->FJ->Prop}(SF:MT B bm sa owner) (hC:h.get? C=FB (IU nm q C N bs (.ref R::bm) FS sn sub ab col dd k0 k1 k2 k3 k5 KA)) (hn:h.Ns N mN) (hna:mN name=FM)
  (hB:LA h (.ref R::bm) name FM) (hx:h.get? x=FB o) (hc:o.cls= .ref C) (VA:o.dict=FB dx) (hd:h.Ns1 dx mA) (hw:Within mA ns) (hsz:ns.length<=1000)
  (hq: ∀h' UC,(∀b ob,b≠dx->h.get? b=FB ob->h'.get? b=FB ob)->h'.Ns1 dx (λy=>if y=name then FB v else mA y)->Q (.done (.ret .none)) #[h',g,d,UC,os]):
  Gk (model prog w) A (Builtin.«object.__setattr__» #[[.ref x, .str name tk,v],[]]) Q E #[h,g,d,t,os]:=by
 have WM:=SF.passes (.ref x);unfold Builtin.«object.__setattr__»
 repeat (first|rw[refuse_eq]|(rw[refuseLoop_ref,refuseLoop_ref,WM])|(with_reducible refine GW hx ?_;rw[hc])|with_reducible refine wpAny_mroOf_exc hC ?_|(with_reducible refine hZ hC hn (λ_=>hB) ?_;rw[hna])|wp_step)
 rw[VA];refine Gu ?_;show Gk _ _ (storeInDict dx (.str name tk) name v) _ _ _;unfold storeInDict newKeyGuard;refine FV (Gu (FV (V7 hd λh' n' hs=>?_)));obtain⟨o1,es1,ep1,h1,d1,c1⟩:=n'.count (ZH name v hw);refine FV (Sg h1 (by rw[d1];exact Sh (F7 c1 (by rw[FW,IE];lia))) ?_)
 wp_walk
 exact hq h' _ (λb ob hb e=>(hs.2 b hb).trans e) n'
def wJ {Q:Nc->FJ->Prop}(SF:MT B bm sa owner) (hC:h.get? C=FB (IU nm q C N bs (.ref R::bm) FS sn sub ab col dd k0 k1 k2 k3 k5 KA)) (hn:h.Ns N mN) (hns:mN "__setattr__"=FM) (l:LA h (.ref R::bm) "__setattr__" (FB (.builtin sa))) (hx:h.get? x=FB o) (hc:o.cls= .ref C)
  (hq: ∀tk t,Gk (model prog w) A.in1 (Builtin.«object.__setattr__» #[[.ref x, .str name tk,v],[]]) (λf s'=>f= .done (.ret .none)/\Q () s') (λ_ _=>False) #[h,g,d,t,os]):
  Gk (model prog w) A (TU (.ref x) name v) Q E #[h,g,d,t,os]:=by
 have f3:=SF.slot.bind (.ref x);unfold TU callSpecial? specialOf
 repeat (any_goals (first|assumption|(with_reducible refine GW hx ?_;rw[hc])|(with_reducible refine hZ hC hn (λ_=>l) ?_;rw[hns])|wp_step))
 refine Qp SF.slot.plain SF.entry (Fi SF hC hx hc (Jc (hq _ _) (λf s' z=>?_) λ_ _ z=>z.elim));obtain⟨rfl,z⟩:=z
 repeat (any_goals (first|assumption|wp_step))
end
end OS
namespace OS
open PySem PySem.Spec L2
open PyProof.Rows hiding St
def qK (H:Hp) (ch:Fx FG):Hp:=λb=>if b∈ch then FM else H b
def eA {H:Hp}(h:b∉ch):qK H ch b=H b:=FF h
def jI {H:Hp}(h:b∈ch):qK H ch b=FM:=FI h
def DJ {H:Hp}(h: ∀b∈ch,H b=FM):qK H ch=H:=by
 funext b
 by_cases hb:b∈ch
 .rw[jI hb,h b hb]
 .exact eA hb
def DS {H:Hp}{a:FG}(I:aE X pins σ H s) (hex:X.ex=[])
  (L:uO (rq X.stack) ch a oe s.heap h') (Uy: ∀b∈ch,X.Ql.heap.objs.size<=b) (htr: ∀b∈ch,H b=FM\/ ∃φ,H b=FB (.ext φ)):
  Un X.fs [] X.H_0 (qK H ch) X.Ql.heap h'/\hJ X.prog X.w (qK H ch) h':=by
 have old: ∀b o,X.Ql.heap.get? b=FB o->b∉ch:=λb o e hb=>F6 (Gv (Gq e) (Uy b hb)) (IB _)
 have nex: ∀b,b∉X.ex:=λb hb=>by rw[hex] at hb;exact nomatch hb
 have nst: ∀b o,X.Ql.heap.get? b=FB o->b∉X.fs->b∉rq X.stack:=λb o e hb hs=>by
  rcases FU.mp (I.SI b hs) with z|z
  .rw[z] at e
   exact F6 (Gv (Gq e) I.ok.above) (IB _)
  .exact hb z
 have C8: ∀b u,H b=FB u->(∀φ,u≠ .ext φ)->b∉ch:=λb u e ne hb=>by
  rcases htr b hb with z|⟨φ,z⟩
  .rw[e] at z;cases z
  .rw[e] at z;exact ne φ (F4 z)
 have eS: ∀b,b∈X.fs->b∈rq X.stack:=λb hb=>by
  rcases I.ok.YC with e|⟨e,hf⟩
  .rw[e];exact hb
  .rw[e];unfold rq;rw[Li,hf];exact FK _ hb
 refine#[#[λb o e n hb _=>?_,λb o e n hb _=>?_,λb o e n _=>?_,λb o e _=>?_,λb xs e=>?_,λb o u e=>?_,λb ps e=>?_],λx u q=>?_]
 .exact L.keep b o (nst b o e hb) (old b o e) (I.base.keep b o e n hb (nex b))
 .obtain⟨sl,z⟩:=I.base.slot b o e n hb (nex b)
  obtain⟨sl',z'⟩:=L.slot b _ (eS b hb) (old b o e) z;exact#[sl',z']
 .rw[eA (old b o e)]
  exact I.base.free b o e n (nex b)
 .obtain⟨o',z⟩:=I.base.there b o e (nex b)
  exact L.there b o' z
 .have z:=I.base.Rj b xs e
  rw[eA (C8 b _ z λφ y=>nomatch y)]
  exact z
 .have z:=I.base.Q5 b o u e
  rw[eA (C8 b _ z λφ y=>nomatch y)]
  exact z
 .obtain⟨more,z⟩:=I.base.Rk b ps e
  exact#[more,by rw[eA (C8 b _ z λφ y=>nomatch y)];exact z]
 .have hx:x∉ch:=λz=>by rw[jI z] at q;cases q
  rw[eA hx] at q;refine(I.IQ x u q).Rw (λb v hb e=>?_) (λb e=>?_) λb xs e=>?_
  .refine L.keep b v (λz=>?_) (λz=>?_) e
   .have y:=I.Qa b z
    rcases hb with rfl|hb
    .rw[q] at y;cases y
    .rw[hb] at y;cases y
   .rcases hb with rfl|hb
    .exact hx z
    .exact C8 b _ hb (λφ y=>nomatch y) z
  .rw[eA (C8 b _ e λφ y=>nomatch y)];exact e
  .rw[eA (C8 b _ e λφ y=>nomatch y)];exact e
def agw (C d a:FG) (n:FX) (H:Hp) (h:Ho):Prop:= ∃oe vs T oT ts,h.get? a=FB oe/\oe.cls= .ref C/\oe.dict=FB d/\oe.data= .fields vs/\vs[1]?=FB (.ref T)/\n<=T/\T≠a/\H T=FM/\
 h.get? T=FB oT/\oT.data= .fields ts/\ts[3]?=FB .none
def gb (P:Gy) (w:Hf):qG:=λouter H s E e s'=> ∃(C a d:FG) (H':Hp),e= .ref a/\s'.os=s.os/\QJ s'.gens/\Un (rq outer) [] H H' s.heap s'.heap/\hJ P w H' s'.heap/\
 s.heap.objs.size<=a/\H' a=FM/\agw C d a s.heap.objs.size H' s'.heap/\E (.ref C) (FB d) H'
section
variable {P:Gy}{w:Hf}{K:FC}{mg:Gf->FP FE}{base:Ho}{H0:Hp}{E:XK}{CX:qG}
def sM {H:Hp}{a d:FG}(I:aE (fg CX P w K mg base N Hy scope f cd A outer s0 H0 E) pins σ H s)
  (L:uO (rq (J6 Hy scope s0.heap.objs.size f cd::outer)) ch a oe s.heap h') (Uy: ∀b∈ch,s0.heap.objs.size<=b) (htr: ∀b∈ch,H b=FM\/ ∃φ,H b=FB (.ext φ)) (ha:a∈ch)
  (hc:oe.cls= .ref C) (hd:oe.dict=FB d) (hE:E (.ref C) (FB d) (qK H ch)):gb P w outer H0 s0 E (.ref a) { s with heap:=h' } :=by
 obtain⟨u,k⟩:=DS I Go L Uy htr;obtain⟨vs,T,oT,ts,x1,x2,x3,x4,x5,x6,x7⟩:=L.fly;refine#[C,a,d,qK H ch,Go,I.os,I.bare,u,k,Uy a ha,jI ha,#[_,vs,T,oT,ts,x1,hc,hd,Go,x2,F7 I.sz x3,x4,?_,x5,x6,x7],hE];have z:=I.IQ.fresh x3;by_cases hT:T∈ch
 .exact jI hT
 .rw[eA hT];exact z
def aA:dn (gb P w) (fg (gb P w) P w K mg base N Hy scope f cd A outer s0 H0 E) E:=by
 intro pins σ H s e s' I h;obtain⟨C,a,d,H',rfl,os,bare,un,IQ,za,ha,⟨oe,vs,T,oT,ts,x1,x2,x3,x4,x5,x6,x7,x8,x9,x10,x11⟩,hE⟩:=h;have J:=I.WJ (ch:=[]) os un IQ bare (λb z=>nomatch z)
 have sz:=I.sz
 have ck: ∀b∈[a,T],H' b=FM:=λb hb=>by
  rcases FU.mp hb with z|z
  .rw[z];exact ha
  .rw[Ga.mp z];exact x8
 refine C7 (base:=base) J.ok.frames J.stack Go x1 x4 x5 x7 x9 x10 x11 λh' L=>?_;refine sM J L (λb hb=>?_) (λb hb=> .inl (ck b hb)) FL x2 x3 (by rw[DJ ck];exact hE);rcases FU.mp hb with z|z
 .rw[z];exact F7 sz za
 .rw[Ga.mp z];exact F7 sz x6
end
def fW {P:Gy}{w:Hf}{K:FC}{mg:Gf->FP FE}{base:Ho}{x Hy:Gf}{st:Stmt}{f:FG}{fd:GQ}{N ps:Fx Gf}{k:FX}{sp:Sp}(F:o9 K x Hy st f fd)
  (S:ay N ps (af st)) (len: ∀vs H Q E,sp vs H Q E->vs.length=ps.length)
  (J3: ∀(Hn:FE) (A:Hm) (outer:Fx Env) (s:FJ) (H:Hp) (vs:Fx V) (Q:VK) (E:XK),bZ k (A.deeper [011])->sp vs H Q E->
   Bd (fg (gb P w) P w K mg base N Hy (af st) f Hn A outer s H E) (bh st) { nx:=λ_ H'=>Q .Jm H',rt:=Q } (start N vs) H):bW P w K mg base (gb P w) (k+1) f fd ps sp:=by
 obtain⟨oc,od,kV,doc,pm,an,Hn,ct,W8,rfl,lk,Td⟩:=F.ex;exact YJ lk Td S len λA outer s H vs Q E hr Uq=>J3 Hn A outer s H vs Q E hr Uq
def agx {R C:FG} :Up (.ref R::db) (.ref C:: .ref R::db) "Exception":=
 #[by rw[GZ,GZ];rfl,by rw[GZ,GZ];rfl,by rw[GZ,GZ];rfl]
def Bc {R C:FG} :(Gs C:: .ref R::db).contains (.type "BaseException")=FS:=by rw[GZ,GZ];rfl
def qj {E:FE->FJ->Prop}{Q:Flow->FJ->Prop}(hh:A.handled=FM)
  (H:Gk M A y (λv s1=> ∃e oe vs R C fI,v= .ref e/\XAt s1.heap R C fI/\s1.heap.get? e=FB oe/\oe.cls= .ref C/\oe.data= .fields vs/\vs[1]?=FB .none/\E (.ref e) s1) E s):
  Gk M A (raiseStmt env (FB y) FM) Q E s:=by
 unfold raiseStmt;refine FV (Jc H (λv s1 h1=>?_) λ_ _ x=>x);obtain⟨e,oe,vs,R,C,fI,rfl,⟨Nn,mN,oI,NR,mR,⟨nm,q,bs,sn,sub,ab,col,dd,k0,k1,k2,k3,k5,hC⟩,_⟩,he,hc,hd,h1,hE⟩:=h1;have hcB:=Bc (R:=R) (C:=C);obtain⟨hp,g,d,tk,os⟩:=s1
 repeat (first|(with_reducible refine GW he ?_;rw[hc])|with_reducible refine GW hC ?_|(with_reducible refine wpAny_isSubtype_exc hC ?_;rw[hcB])|with_reducible refine wpAny_field he hd h1 ?_|wp_step)
 exact wpAny_raiseNew_none hh hE
def qT (C p:FG):HO:= .ext λh=> ∃T,h.get? p=FB (dj C T)
def jZ (C d p:FG):HO:= .ext λh=> ∃o vs,h.get? p=FB o/\o.cls= .ref C/\o.dict=FB d/\o.data= .fields vs/\vs[1]?=FB .none
def cn (d:FG) (fs:Fx (Gf×V)):HO:= .ext λh=> ∃mA,h.Ns1 d mA/\(∀f,fX (fs.lookup f) (mA f))/\Om mA (fs.map (·.1))
def dM (C:FG) (g:Fx V->Fx (Gf×V)->Prop):Sp:=λvs H Q _=> ∃(p:FG) (us:Fx V) (fs:Fx (Gf×V)),vs= .ref p::us/\g us fs/\H p=FB (qT C p)/\
 ∀d,H d=FM->Q .Jm (aI (aI H d (cn d fs)) p (jZ C d p))
def BK (C:FG) (g:Fx V->Fx (Gf×V)->Prop) (E:XK) (t:TA):TS:=λ_ σ H=>t σ H λvs H1=>vs.length<=9/\ ∃fs,g vs fs/\ ∀d,H1 d=FM->E (.ref C) (FB d) (aI H1 d (cn d fs))
def lj (X:Cx) (E:XK):Prop:= ∀(pins:Fx (FG×Jp)) (σ:St) (H:Hp) (s:FJ) (C d a:FG),aE X pins σ H s->H a=FB (jZ C d a)->X.Ql.heap.objs.size<=a->E (.ref C) (FB d) (qK H [a])->X.xe (.ref a) s
def eM {P:Gy}{w:Hf}{K:FC}{mg:Gf->FP FE}{base:Ho}{H0:Hp}{E:XK} :lj (fg (gb P w) P w K mg base N Hy scope f cd A outer s0 H0 E) E:=by
 intro pins σ H s C d a I h z hE;obtain⟨⟨o,ws,x1,x2,x3,x4,x5⟩,_⟩:=I.IQ _ _ h;refine yS (base:=base) I.ok.frames I.stack Go x1 x4 x5 λh' L=>?_;refine sM I L (λb hb=>?_) (λb hb=>?_) FL x2 x3 hE
 .rw[Ga.mp hb]
  exact z
 .rw[Ga.mp hb]
  exact .inr #[_,h]
section
variable {E:XK}{g:Fx V->Fx (Gf×V)->Prop}
def mY {H1:Hp}(XR:lj X E) (XC:dq X.K R C fI) (F:bW X.prog X.w X.K X.mg X.base xR k fI fdI ps (dM C g)) (hr:bZ (k+1) X.A) (hb:gm X.K fdI ps [])
  (I1:aE X pins σ H1 s1) (r:a8 vs us) (lv:vs.length<=9) (hg:g vs fs) (qE: ∀d,H1 d=FM->E (.ref C) (FB d) (aI H1 d (cn d fs))):
  Gk (model X.prog X.w) X.A (call (.ref C) us) (λv s1=> ∃e oe vs R C fI,v= .ref e/\XAt s1.heap R C fI/\s1.heap.get? e=FB oe/\oe.cls= .ref C/\oe.data= .fields vs/\vs[1]?=FB .none/\X.xe (.ref e) s1) X.xe s1:=by
 obtain⟨h1,g1,d1,t1,WN⟩:=s1;obtain⟨Nn,mN,oI,NR,mR,⟨nm,q,bs,sn,sub,ab,col,dd,k0,k1,k2,k3,k5,hC⟩,hn,X3,Xd,hI,hIc,_⟩:=XC.at_ h1 I1.NW;have lu:us.length<=9:=by rw[<-r.length];exact lv
 have fr:H1 (h1.objs.size+1)=FM:=I1.IQ.fresh (LQ _)
 have ge:((h1.push (eP us)).push (dj C h1.objs.size)).get? (h1.objs.size+1)=FB (dj C h1.objs.size):=by heap_get
 have I2:aE X pins σ (aI H1 (h1.objs.size+1) (qT C (h1.objs.size+1))) ⟨(h1.push (eP us)).push (dj C h1.objs.size),g1,d1,t1,WN⟩:=
  I1.laid (t':=t1) (λb u z=>FY _ (FY _ z)) (LQ _) #[#[_,ge],#[_,ge],λ_ _ ⟨T,z⟩ y=>#[T,y _ z]]
 have r2:a8 (V.ref (h1.objs.size+1)::vs) (Gs (h1.objs.size+1)::us):= .cons Go r
 have Uq:dM C g (V.ref (h1.objs.size+1)::vs) (aI H1 (h1.objs.size+1) (qT C (h1.objs.size+1)))
   (λv H'=>v= .Jm/\ ∃d,(aI H1 (h1.objs.size+1) (qT C (h1.objs.size+1))) d=FM/\H'=aI (aI (aI H1 (h1.objs.size+1) (qT C (h1.objs.size+1))) d (cn d fs)) (h1.objs.size+1) (jZ C d (h1.objs.size+1))) E0:=
  #[_,vs,fs,Go,hg,ae,λd hd=>#[Go,d,hd,Go]]
 have hl:(Gs (h1.objs.size+1)::us++[]).length=ps.length:=by
  have z:=r2.length;rw[F.len _ _ _ _ Uq] at z;rw[Hj];exact z.symm
 have bb:=hb #[(h1.push (eP us)).push (dj C h1.objs.size),g1,d1,t1,WN] (Gs (h1.objs.size+1)::us) I2.NW hl;rw[Hj] at bb;refine Rg (Cp RD agx hC hn X3 hI hIc (NH (F.run _ X.stack _ _ #[Gs (h1.objs.size+1)::us,[]] (Gs (h1.objs.size+1)::us) _ _ E0 (hr.make C us []) (I2.aaZ.make C us []) bb r2 Uq) λr s' U9=>?_) (by rw[IE];lia))
 cases r with
 |error e=>exact U9.elim
 |ok fl=>
  cases fl with
  |next=>exact U9.elim
  |brk=>exact U9.elim
  |cont=>exact U9.elim
  |ret u=>
   obtain⟨v,H',I3,rv,ev,d,hd,eH⟩:=I2.after U9;subst ev;have np:d≠h1.objs.size+1:=λz=>by rw[z,ae] at hd;cases hd
   rw[ac np] at hd;have at3:H' (h1.objs.size+1)=FB (jZ C d (h1.objs.size+1)):=by rw[eH];exact ae
   obtain⟨⟨o,ws,x1,x2,x3,x4,x5⟩,_⟩:=I3.IQ _ _ at3;refine#[rv,_,o,ws,R,C,fI,Go,XC.at_ _ I3.NW,x1,x2,x4,x5,XR pins σ H' _ C d _ I3 at3 (F7 I1.sz (LQ _)) ?_];have z:qK H' [h1.objs.size+1]=aI H1 d (cn d fs):=by
    funext b
    by_cases hb:b=h1.objs.size+1
    .rw[jI (by rw[hb];exact FL),hb,ac np.symm,fr]
    .rw[eA (by simpa using hb),eH,ac hb]
     by_cases hbd:b=d
     .rw[hbd,ae,ae]
     .rw[ac hbd,ac hbd,ac hb]
   rw[z];exact qE d hd
def tQ (XR:lj X E) (XC:dq X.K R C fI) (F:bW X.prog X.w X.K X.mg X.base xR k fI fdI ps (dM C g)) (hr:bZ (k+1) X.A) (hg:Gl X x) (hm:X.mg x=FB (.ref C)) (hb:gm X.K fdI ps []) (ha:PA X (e::es) t)
  (SJ:(x == [003])=Gc:=by decide) (he:F9 (e::es) X.env=[001]::F9 es X.env:=by rfl) (Ng:(Jr Md (F9 es X.env)).any (·.1)=Gc:=by rfl):
  PS X (.Raise (FB (.Call (.Name x np) (e::es) [] Md)) FM pos) (BK C g E t):=by
 rw[04];rw[arm_exec_Raise];refine FV (MZ (qj hr.hd (FV (cc ?_ λv s1 hv=>FV (MZ (Gu hv))))));refine J5 (gv I hg hm ?_ SJ);refine Lm (h₀:=X.base) I.ok.mod.VW XC.kp (cc (ha Md pins s σ H _ I h) λus s1 z=>?_) he Ng;obtain⟨vs,H1,I1,r,lv,fs,hgv,qE⟩:=z;exact#[I1.NW,mY XR XC F hr hb I1 r lv hgv qE]
def dZ (XR:lj X E) (XC:dq X.K R C fI) (F:bW X.prog X.w X.K X.mg X.base xR k fI fdI ps (dM C g)) (hr:bZ (k+1) X.A) (hg:Gl X x) (hm:X.mg x=FB (.ref C)) (hb:gm X.K fdI ps [])
  (SJ:(x == [003])=Gc:=by decide):PS X (.Raise (FB (.Call (.Name x np) [] [] Md)) FM pos) (BK C g E Ah):=by
 rw[04];obtain⟨lv,fs,hgv,qE⟩:=h;rw[arm_exec_Raise];refine FV (MZ (qj hr.hd (FV (cc ?_ λv s1 hv=>FV (MZ (Gu hv))))));refine J5 (gv I hg hm ?_ SJ);exact OR (I.NW) XC.kp (mY XR XC F hr hb I .nil lv hgv qE)
end
end OS
namespace OS
open Vbemac
def bU (c:Jx):GP:=letter c||digit c
def eT (c:Jx):GP:=c !=10
def a7 (p:Jx->GP) (bs:GK) (i:FX):FX:=i+((bs.drop i).takeWhile p).length
def e6 {bs:GK}{i:FX}{c:Jx}(h:bs[i]?=FB c):bs.drop i=c::bs.drop (i+1):=by
 obtain⟨hi,e⟩:=GG.mp h;rw[HL hi,e]
def kL {p:Jx->GP}{bs:GK}{i:FX}{c:Jx}(h:bs[i]?=FB c) (hp:p c=FS):a7 p bs i=a7 p bs (i+1):=by
 unfold a7;rw[e6 h,Kk,FI hp,FW];lia
def oK {p:Jx->GP}{bs:GK}{i:FX}{c:Jx}(h:bs[i]?=FB c) (hp:p c=Gc):a7 p bs i=i:=by
 unfold a7;rw[e6 h,Kk,FF (by rw[hp];exact FA)]
 rfl
def lr {p:Jx->GP}{bs:GK}{i:FX}(h:bs.length<=i):a7 p bs i=i:=by
 unfold a7;rw[TH h]
 rfl
def oM {p:Jx->GP}{bs:GK}{i:FX}(h:i<=bs.length):a7 p bs i<=bs.length:=by
 unfold a7;have:=(Fx.takeWhile_sublist p (l:=bs.drop i)).length_le;rw[Mr] at this;lia
def part (bs:GK) (i j:FX):GK:=(bs.drop i).take (j-i)
theorem wV {p:Jx->GP} : ∀l:GK,l.takeWhile p=l.take (l.takeWhile p).length
 |[]=>rfl
 |a::l=>by
  rw[Kk];split
  .rw[FW,Fx.take_succ_cons,<-wV l]
  .rfl
def ka (p:Jx->GP) (bs:GK) (i:FX):(bs.drop i).takeWhile p=part bs i (a7 p bs i):=by
 unfold part a7;rw[Iw];exact wV _
def og (p:Jx->GP) (bs:GK) (i:FX):(bs.drop i).drop ((bs.drop i).takeWhile p).length=bs.drop (a7 p bs i):=by
 rw[O0]
 rfl
theorem i5: ∀(w:GK) (p:Pos),(∀c∈w,c≠10)->moved p w=(p.1,p.2+w.length)
 |[],p,_=>rfl
 |c::w,p,h=>by
  show moved (advance p c) w=_
  rw[i5 w _ λd hd=>h d (FK _ hd)];unfold advance;rw[FF (h c FL),FW];show(p.1,p.2+1+w.length)=_;rw[Ta,Lc 1]
theorem rp {p:Jx->GP} : ∀(l:GK),∀c∈l.takeWhile p,p c=FS
 |[],c,h=>nomatch h
 |a::l,c,h=>by
  rw[Kk] at h;split at h
  .rename_i q
   rcases FU.mp h with e|h
   .rw[e];exact q
   .exact rp l c h
  .exact nomatch h
def nD {p:Jx->GP}(hp:p 10=Gc) (bs:GK) (i:FX) (q:Pos):moved q ((bs.drop i).takeWhile p)=(q.1,q.2+(a7 p bs i-i)):=by
 rw[i5 _ _ λc hc e=>by
  have:=rp _ c hc;rw[e,hp] at this;cases this]
 unfold a7;rw[Iw]
section
variable {bs:GK}{i k:FX}{c:Jx}{q:Pos}
def lQ (h:bs[i]?=FB c) (hb:blank c=FS):lex (k+1) q (bs.drop i)=lex k (advance q c) (bs.drop (i+1)):=by
 rw[e6 h,lex,FI hb]
def iD (h:bs[i]?=FB c) (hb:blank c=Gc) (Qm:c=35):
  lex (k+1) q (bs.drop i)=lex k (q.1,q.2+(a7 eT bs i-i)) (bs.drop (a7 eT bs i)):=by
 have e:=e6 h
 have m:=nD (p:=eT) Go bs i q
 have d:=og eT bs i;rw[e] at m d;rw[e,lex,FF (by rw[hb];exact FA),FI Qm]
 show lex k (moved q ((c::bs.drop (i+1)).takeWhile eT)) ((c::bs.drop (i+1)).drop ((c::bs.drop (i+1)).takeWhile eT).length)=_
 rw[m,d]
def kE (h:bs[i]?=FB c) (hb:blank c=Gc) (Qm: ¬c=35) (hl:letter c=FS):
  lex (k+1) q (bs.drop i)=if 24<a7 bU bs i-i then [(.bad,q)] else(.word (part bs i (a7 bU bs i)),q)::lex k (q.1,q.2+(a7 bU bs i-i)) (bs.drop (a7 bU bs i)):=by
 have e:=e6 h
 have m:=nD (p:=bU) [01] bs i q
 have d:=og bU bs i
 have t:=ka bU bs i
 have n:((bs.drop i).takeWhile bU).length=a7 bU bs i-i:=by unfold a7;rw[Iw]
 rw[e] at m d t n;rw[e,lex,FF (by rw[hb];exact FA),FF Qm,FI hl];show(if 24<((c::bs.drop (i+1)).takeWhile bU).length then _ else(Tok.word ((c::bs.drop (i+1)).takeWhile bU),q)::lex k (moved q ((c::bs.drop (i+1)).takeWhile bU)) ((c::bs.drop (i+1)).drop ((c::bs.drop (i+1)).takeWhile bU).length))=_
 rw[m,d,n,t]
def pX (bs:GK) (j:FX):GP:=(bs[j]?).any letter
def yJ (bs:GK) (j:FX):(bs.drop j).head?=bs[j]?:=Fx.head?_drop
def mG (h:bs[i]?=FB c) (hb:blank c=Gc) (Qm: ¬c=35) (hl:letter c=Gc) (hd:digit c=FS):
  lex (k+1) q (bs.drop i)=if 18<a7 digit bs i-i\/pX bs (a7 digit bs i)=FS then [(.bad,q)] else(.num (valueOf (part bs i (a7 digit bs i))),q)::lex k (q.1,q.2+(a7 digit bs i-i)) (bs.drop (a7 digit bs i)):=by
 have e:=e6 h
 have m:=nD (p:=digit) [01] bs i q
 have d:=og digit bs i
 have t:=ka digit bs i
 have n:((bs.drop i).takeWhile digit).length=a7 digit bs i-i:=by unfold a7;rw[Iw]
 rw[e] at m d t n;rw[e,lex,FF (by rw[hb];exact FA),FF Qm,FF (by rw[hl];exact FA),FI hd];show(if 18<((c::bs.drop (i+1)).takeWhile digit).length\/((((c::bs.drop (i+1)).drop ((c::bs.drop (i+1)).takeWhile digit).length).head?).any letter)=FS then _
  else(Tok.num (valueOf ((c::bs.drop (i+1)).takeWhile digit)),q)::lex k (moved q ((c::bs.drop (i+1)).takeWhile digit)) ((c::bs.drop (i+1)).drop ((c::bs.drop (i+1)).takeWhile digit).length))=_
 rw[m,d,n,t,yJ]
 rfl
theorem oo {n:FX}{x:GK} : ∀(L:Fx GK),(∀s∈L,s.length=n)->L.find? (λs=>x.take s.length == s)=if x.take n∈L then FB (x.take n) else FM
 |[],_=>by simp
 |a::L,h=>by
  have ha:=h a FL
  have ih:=oo (n:=n) (x:=x) L λs hs=>h s (FK _ hs)
  rw[HC,ha];by_cases e:x.take n=a
  .rw[show(x.take n == a)=FS from by rw[e];exact Ht a,FI (by rw[e];exact FL),e]
  .rw[show(x.take n == a)=Gc from beq_eq_false_iff_ne.mpr e]
   show L.find? _=_
   rw[ih];by_cases m:x.take n∈L
   .rw[FI m,FI (FK _ m)]
   .rw[FF m,FF (λz=>(FU.mp z).elim e m)]
def yT:Fx GK:=SIGNS.take 7
def AZ:Fx GK:=SIGNS.drop 7
def gw:SIGNS=yT++AZ:=(Ua 7 SIGNS).symm
def iT: ∀s∈yT,s.length=2:=by decide
def nH: ∀s∈AZ,s.length=1:=by decide
def vL: ∀s∈SIGNS,∀d∈s,d≠10:=by decide
def bw (bs:GK) (i:FX):FX:=if part bs i (i+2)∈SIGNS then i+(part bs i (i+2)).length else i+1
def gG (x:GK):x∈SIGNS ↔ x∈yT\/x∈AZ:=by rw[gw];exact Gr
def zj (h:bs[i]?=FB c):(SIGNS.find? λs=>(bs.drop i).take s.length == s)=if part bs i (bw bs i)∈SIGNS then FB (part bs i (bw bs i)) else FM:=by
 have e2:(bs.drop i).take 2=part bs i (i+2):=by unfold part;rw[Iw]
 have e1:(bs.drop i).take 1=part bs i (i+1):=by unfold part;rw[Iw]
 have l1:(part bs i (i+1)).length=1:=by rw[<-e1,e6 h];rfl
 rw[gw,V9,oo yT iT,oo AZ nH,e2,e1];by_cases m2:part bs i (i+2)∈yT
 .have n2:=iT _ m2
  have s2:part bs i (i+2)∈SIGNS:=(gG _).mpr (.inl m2)
  have se:bw bs i=i+2:=by unfold bw;rw[FI s2,n2]
  rw[FI m2,se,<-gw,FI s2]
  rfl
 .have se:bw bs i=i+1:=by
   unfold bw;by_cases s2:part bs i (i+2)∈SIGNS
   .rw[FI s2,nH _ (((gG _).mp s2).resolve_left m2)]
   .rw[FF s2]
  have n1: ¬part bs i (i+1)∈yT:=λz=>by
   have:=iT _ z;lia
  rw[FF m2,se,<-gw,FP.none_or];by_cases m1:part bs i (i+1)∈AZ
  .rw[FI m1,FI ((gG _).mpr (.inr m1))]
  .rw[FF m1,FF λz=>((gG _).mp z).elim n1 m1]
def pb (h:bs[i]?=FB c) (m:part bs i (bw bs i)∈SIGNS):(part bs i (bw bs i)).length=bw bs i-i:=by
 have e1:(part bs i (i+1)).length=1:=by unfold part;rw[Iw,e6 h];rfl
 unfold bw at m ⊢;split
 .rename_i s2
  rw[FI s2] at m;rcases(gG _).mp s2 with z|z
  .rw[iT _ z,iT _ z];lia
  .rw[nH _ z,e1];lia
 .rw[e1];lia
def kO (h:bs[i]?=FB c) (hb:blank c=Gc) (Qm: ¬c=35) (hl:letter c=Gc) (hd:digit c=Gc):
  lex (k+1) q (bs.drop i)=if part bs i (bw bs i)∈SIGNS then(.sign (part bs i (bw bs i)),q)::lex k (q.1,q.2+(bw bs i-i)) (bs.drop (bw bs i)) else [(.bad,q)]:=by
 have f:=zj h
 have e:=e6 h
 have hle:i<=bw bs i:=by unfold bw;split<;>lia
 have dd: ∀n,(bs.drop i).drop n=bs.drop (i+n):=λn=>O0
 rw[e] at f;rw[e,lex,FF (by rw[hb];exact FA),FF Qm,FF (by rw[hl];exact FA),FF (by rw[hd];exact FA),f];by_cases m:part bs i (bw bs i)∈SIGNS
 .rw[FI m,FI m]
  show _::lex k (moved q (part bs i (bw bs i))) ((c::bs.drop (i+1)).drop (part bs i (bw bs i)).length)=_
  rw[i5 _ _ (vL _ m),pb h m,<-e,dd,show i+(bw bs i-i)=bw bs i by lia]
 .rw[FF m,FF m]
def EC (h:bs.length<=i):lex (k+1) q (bs.drop i)=[(.eof,q)]:=by
 rw[TH h,lex]
end
end OS
namespace OS
open Vbemac
open PySem (Str)
def gk:Tok->Prop
 | .word w=>w≠[]/\ ∀c∈w,bU c=FS
 | .sign s=>s∈SIGNS
 |_=>True
def Mid (x:Tok×Pos):Prop:=x.1≠ .eof/\x.1≠ .bad/\gk x.1
def jG (x:Tok×Pos):Prop:=x.1= .eof\/x.1= .bad
def f7 (t:Nf):Prop:= ∃X4 x,t=X4++[x]/\jG x/\ ∀y∈X4,Mid y
def f7.one (h:jG x):f7 [x]:=#[[],x,Go,h,λ_ z=>nomatch z]
def f7.cons (h:Mid x) (w:f7 t):f7 (x::t):=by
 obtain⟨X4,y,rfl,f,a⟩:=w;refine#[x::X4,y,Go,f,λz hz=>?_];rcases FU.mp hz with e|hz
 .rw[e];exact h
 .exact a z hz
def f7.tail (w:f7 (x::t)) (h: ¬jG x):Mid x/\f7 t:=by
 obtain⟨X4,y,e,f,a⟩:=w;cases X4 with
 |nil=>
  injection e with e1 e2;exact F6 (e1▸f) h
 |cons z X4=>
  injection e with e1 e2;exact#[e1▸a z FL,X4,y,e2,f,λv hv=>a v (FK _ hv)]
def f7.ne (w:f7 t):t≠[]:=by
 obtain⟨X4,y,rfl,_⟩:=w;simp
theorem fM: ∀(k:FX) (q:Pos) (b:GK),f7 (lex k q b)
 |0,q,b=>by rw[lex];exact .one (.inl Go)
 |k+1,q,[]=>by rw[lex];exact .one (.inl Go)
 |k+1,q,c::r=>by
  have z:(c::r)[0]?=FB c:=rfl
  have d0:(c::r).drop 0=c::r:=rfl;rw[<-d0];by_cases hb:blank c=FS
  .rw[lQ z hb];exact fM k _ _
  .have hb:blank c=Gc:=by simpa using hb
   by_cases Qm:c=35
   .rw[iD z hb Qm];exact fM k _ _
   .by_cases hl:letter c=FS
    .rw[kE z hb Qm hl]
     split
     .exact .one (.inr Go)
     .refine .cons #[by simp,by simp,?_,?_] (fM k _ _)
      .rw[<-ka,d0,Kk,FI (by unfold bU;rw[hl];rfl)]
       simp
      .rw[<-ka];exact rp _
    .have hl:letter c=Gc:=by simpa using hl
     by_cases hd:digit c=FS
     .rw[mG z hb Qm hl hd]
      split
      .exact .one (.inr Go)
      .exact .cons #[by simp,by simp,HD] (fM k _ _)
     .have hd:digit c=Gc:=by simpa using hd
      rw[kO z hb Qm hl hd];split
      .rename_i m
       exact .cons #[by simp,by simp,m] (fM k _ _)
      .exact .one (.inr Go)
theorem dU: ∀(k:FX) (q:Pos) (b:GK),(lex k q b).length<=k+1
 |0,q,b=>by rw[lex];simp
 |k+1,q,[]=>by rw[lex];simp
 |k+1,q,c::r=>by
  have z:(c::r)[0]?=FB c:=rfl
  have d0:(c::r).drop 0=c::r:=rfl;rw[<-d0];by_cases hb:blank c=FS
  .rw[lQ z hb];exact F7 (dU k _ _) (by lia)
  .have hb:blank c=Gc:=by simpa using hb
   by_cases Qm:c=35
   .rw[iD z hb Qm];exact F7 (dU k _ _) (by lia)
   .by_cases hl:letter c=FS
    .rw[kE z hb Qm hl]
     split
     .simp
     .rw[FW];exact Ic (dU k _ _)
    .have hl:letter c=Gc:=by simpa using hl
     by_cases hd:digit c=FS
     .rw[mG z hb Qm hl hd]
      split
      .simp
      .rw[FW];exact Ic (dU k _ _)
     .have hd:digit c=Gc:=by simpa using hd
      rw[kO z hb Qm hl hd];split
      .rw[FW];exact Ic (dU k _ _)
      .simp
def eD {a b:GK}(h:sb a=sb b):a=b:=by
 have e:(a.map NG).toArray=(b.map NG).toArray:=GO Gf.cps h
 have e:a.map NG=b.map NG:=by simpa using e
 exact VJ (λx y q=>Rh.mp q) |>.mp e
def wT: ∀a∈SIGNS,∀b∈SIGNS,dJ a=dJ b->a=b:=by decide+kernel
def zc: ∀a∈SIGNS,∀c,(dJ a).cps[0]?=FB c-> ∀d:FX,d<256->d=c->bU (OV d)=Gc:=by
 have h: ∀a∈SIGNS,∀d:FX,d<256->(dJ a).cps[0]?=FB d->bU (OV d)=Gc:=by decide+kernel
 intro a ha c hc d hd e;subst e;exact h a ha d hd hc
def r8 {w s:GK}(h0:w≠[]) (hw: ∀c∈w,bU c=FS) (hs:s∈SIGNS):sb w≠dJ s:=λe=>by
 obtain⟨c,r,rfl⟩: ∃c r,w=c::r:=by cases w with|nil=>exact F6 Go h0|cons c r=>exact#[c,r,Go]
 have f:=zc s hs c.toNat (by rw[<-e];rfl) c.toNat (Xl c) Go;rw[VL,hw c FL] at f;cases f
def uP:Tok->FP Gf
 | .word w=>FB (sb w)
 | .sign s=>FB (dJ s)
 | .num _=>FM
 | .eof=>FB (sb [])
 | .bad=>FB (sb [])
def c7 (x:Gf) (w:GK):Prop:=x=sb w/\w≠[]/\ ∀c∈w,bU c=FS
def ee (x:Gf) (s:GK):Prop:=x=dJ s/\s∈SIGNS
def CG: ∀s∈SIGNS,dJ s≠sb []:=by decide+kernel
def Du (ok:gk k) {w:GK}(h:c7 x w):uP k=FB x ↔ k= .word w:=by
 obtain⟨rfl,h0,h1⟩:=h;constructor
 .intro e
  cases k with
  |word v=>exact GO Tok.word (eD (F4 e))
  |sign s=>exact F6 (F4 e).symm (r8 h0 h1 ok)
  |num n=>cases e
  |eof=>exact F6 (eD (F4 e)).symm h0
  |bad=>exact F6 (eD (F4 e)).symm h0
 .intro e;subst e;rfl
def tV (ok:gk k) (h:ee x s):uP k=FB x ↔ k= .sign s:=by
 obtain⟨rfl,hs⟩:=h;constructor
 .intro e
  cases k with
  |word v=>exact F6 (F4 e) (r8 ok.1 ok.2 hs)
  |sign r=>exact GO Tok.sign (wT r ok s hs (F4 e))
  |num n=>cases e
  |eof=>exact F6 (F4 e).symm (CG s hs)
  |bad=>exact F6 (F4 e).symm (CG s hs)
 .intro e;subst e;rfl
end OS
namespace OS
abbrev iB (p q:PySem.Pos):Prop:=(p.endLine == q.line)=FS
open PySem PySem.Spec L2
open PyProof.Rows hiding St
def aS {X:Cx}{i:Int}{pos:Pos}(hg:Gl X x) (hm: ∃t,X.mg x=FB (.int i t)) (hd:(x == [003])=Gc:=by decide):PE X (.Name x pos) (tC (.int i)):=by
 obtain⟨t,hm⟩:=hm;exact qM hg hm #[t,Go] hd
def agy {X:Cx}{i:Gf}{pos:Pos}(hg:Gl X x) (hm: ∃t,X.mg x=FB (.str i t)) (hd:(x == [003])=Gc:=by decide):PE X (.Name x pos) (tC (.str i)):=by
 obtain⟨t,hm⟩:=hm;exact qM hg hm #[t,Go] hd
def pF.sq {K:FC}{a:FG}{H:Hp}(h:pF K a xs):qQ K H a xs:= .inr h
def w8 (r:Paired (λ(p:Fx be×V) (q:Fx be×FG×FE)=>p.1=q.1/\bo p.2 q.2.2) aD xs) (k:Fx be):fX (bQ aD k) ((RK xs k).map (·.2)):=by
 induction r with
 |nil=>exact HD
 | @cons p q ps qs hq t ih=>
  unfold bQ RK at*;rw[HC,HC];by_cases e:q.1=k
  .rw[show decide (p.1=k)=FS from GL (hq.1.trans e),show decide (q.1=k)=FS from GL e]
   exact hq.2
  .rw[show decide (p.1=k)=Gc from Gp (λz=>e (hq.1.symm.trans z)),show decide (q.1=k)=Gc from Gp e]
   exact ih
section
variable {td ty:TE}
def agz (P:Gy) (w:Hf) (K:FC) (ty td:TE):TE:=λσ H Q=>ty σ H λy H1=>td σ H1 λx H2=> ∃a b k aD,x= .ref a/\Ao P w K a aD/\y= .ref b/\H2 b=FB (.tup (k.map kV))/\Q (.bl (bQ aD k).isSome) H2
def abf (P:Gy) (w:Hf) (K:FC) (td ty:TE):TE:=λσ H Q=>td σ H λx H1=>ty σ H1 λy H2=> ∃a b k aD v,x= .ref a/\Ao P w K a aD/\y= .ref b/\H2 b=FB (.tup (k.map kV))/\bQ aD k=FB v/\Q v H2
def xr (hu:X.A.units+1<Qt) (hi:PE X i ty) (ho:PE X o td):PC X .In i o (agz X.prog X.w X.K ty td):=by
 rw[01];refine bin hi ho I h λv u s2 x y H2 I2 rx ry q=>?_;obtain⟨a,b,k,aD,ey,kd,ex,eb,q⟩:=q;subst ex;subst ey;cases rx;cases ry;obtain⟨xs,dd,rel⟩:=kd.at_;refine wpAny_in_heap (KS hu) (jT I2.IQ eb) kd.no (dd _ I2.NW) ?_;have z:=(w8 rel k).MR;rw[IG] at z;rw[<-z];exact#[.bl _,H2,I2.tok _,Go,q]
def CU (hu:X.A.units+1<Qt) (ho:PE X o td) (hi:PE X i ty) (hs:Fn i):PE X (.Subscript o i pos) (abf X.prog X.w X.K td ty):=by
 rw[01];refine xP RC.lookup hs (cc (ho pins s σ H _ I h) λu s1 ⟨x,H1,I1,rx,q1⟩=>cc (hi pins s1 σ H1 _ I1 q1) λiv s2 ⟨y,H2,I2,ry,a,b,k,aD,v',ex,kd,ey,eb,l,q⟩=>?_);subst ex;subst ey;obtain rfl:u=Gs a:=rx;obtain rfl:iv=Gs b:=ry;obtain⟨xs,dd,rel⟩:=kd.at_;have z:=w8 rel k;rw[l] at z;obtain⟨w',hw,UA⟩:=fX.some_of z;obtain⟨p,hp,hp2⟩:=GH.mp hw;have D:=dd _ I2.NW;refine#[D.typeIs,Zu (KS hu) (jT I2.IQ eb) D hp ?_];rw[hp2];exact#[v',H2,I2.tok _,UA,q]
end
section
variable {X:Cx}{st:Stmt}{t:TS}
def agA (t:TS):TS:=λD σ H=> ∃J:L2.St->Hp->Prop,t { D with nx:=J } σ H/\ ∀σ' H',J σ' H'->D.nx σ' H'
def Ed (h:PS X st t):PS X st (agA t):=by
 intro pins s σ H D I h0;obtain⟨J,h1,h2⟩:=h0;refine cc (h pins s σ H { D with nx:=J } I h1) λf s1 q=>?_;cases f with
 |next=>
  obtain⟨σ',H',I',q⟩:=q;exact#[σ',H',I',h2 _ _ q]
 |brk=>exact q
 |cont=>exact q
 |ret u=>exact q
end
def li:gY X (.builtin "isinstance") (λxs H Q=> ∃(x:V) (C:FG) (t:FE) (b:GP),xs=[x, .ref C]/\iS X.K H x t/\HM X.K t (.ref C)=FB b/\Q (.bl b) H):=by
 intro pins s σ H xs us Q I r h;obtain⟨x,C,t,b,rfl,ty,e,q⟩:=h;obtain⟨u1,u2,rfl,r1,r2⟩:=vals2 r;cases r2;exact yY I r1 ty e λtk=>#[.bl b,H,I.tok _,Go,q]
def zP.of {K:FC}{H:Hp}(t:zP K C) (e:H p=FB (.ins C dx fs)):iS K H (.ref p) (.ref C):= .ins e t.cl t.ha t.hn t.htk t.hm
theorem aZ {α β:Type}{F:α->β->Prop} : ∀ {l:Fx α}{m:Fx β},Paired F l m->l.length=m.length
 |_,_, .nil=>rfl
 |_,_, .cons r t=>GO (· +1) (aZ t)
def abg (N P:Fx Gf) (sc:Scope):Prop:=sc.kind= .function/\sc.isCoroutine=Gc/\sc.isGenerator=Gc/\N.Nodup/\N.take P.length=P/\(∀x∈P,sc.names.lookup x=FB .local\/sc.names.lookup x=FB .cell)/\ ∀y∈sc.names,y.2≠ .free
instance (N P:Fx Gf) (sc:Scope):Decidable (abg N P sc):=by unfold abg;infer_instance
def aw {N P:Fx Gf}(h:abg N P sc):ay N P sc:=#[h.1,h.2.1,h.2.2.1,h.2.2.2.1,h.2.2.2.2.1,h.2.2.2.2.2.1,h.2.2.2.2.2.2]
end OS
namespace OS
open PySem PySem.Spec L2
open PyProof.Rows hiding St
def _root_.L2.eI.to (D:eI) (X:Cx) (ss:Fx Stmt):eI:= { D with nx:=λσ H=>Bd X ss D σ H }
def eN {x m:Gf}{p1 p2 p4:Pos}(hp:iB p2 p4) (hf:methodCallForm (args.length+0) (Jr p4 (F9 args env)) (Ln p4 (JJ [] env))=FS):
  eval (.Call (.Attribute (.Name x p1) m p2) args [] p4) env=(do
   let ov<-eval (.Name x p1) env
   standAt p2.atName
   let (f,first)<-holding [ov] (LG ov m (do return (<-Qr (.Name x p1) env).getD FS))
   N7 p4 f first (Jr p4 (F9 args env)) (Ln p4 (JJ [] env))):=by
 show(do
   let ov<-eval (.Name x p1) env
   standAt p2.atName
   methodCall (.Name x p1) m p2 p4 env ov (args.length+0) (Jr p4 (F9 args env)) (Ln p4 (JJ [] env)))=_
 unfold methodCall calleeOf methodCallPos;rw[hf,hp]
 rfl
section
variable {H:Hp}{t:TS}
def iE:uJ X ss (λD σ H=>Bd X ss D σ H):=λpins s σ H D I h=>by
 obtain⟨t,h,q⟩:=h;exact h pins s σ H D I q
def aT (h:PS X s t) (q:t (D.to X ss) σ H):Bd X (s::ss) D σ H:=#[_,ao h iE,q]
def eE (h:PS X s t) (q:t D σ H):Bd X [s] D σ H:=#[_,ah h,q]
def cg (q:D.nx σ H):Bd X [] D σ H:=#[_,aY,q]
end
inductive Pe (X:Cx) (e:HX) (σ:L2.St) (H:Hp) (Q:VK):Prop
 |mk (t:TE) (_:PE X e t) (_:t σ H Q):Pe X e σ H Q
inductive Pt (X:Cx) (e:HX) (σ:L2.St) (H:Hp) (Q:GP->Hp->Prop):Prop
 |mk (t:TT) (_:PT X e t) (_:t σ H Q):Pt X e σ H Q
inductive Pa (X:Cx) (e:Fx HX) (σ:L2.St) (H:Hp) (Q:Fx V->Hp->Prop):Prop
 |mk (t:TA) (_:PA X e t) (_:t σ H Q):Pa X e σ H Q
section
variable {H:Hp}{t:TS}{Q:VK}{R:GP->Hp->Prop}
def dA:PE X e (λσ H Q=>Pe X e σ H Q):=λpins s σ H Q I h=>by
 obtain⟨t,h,q⟩:=h;exact h pins s σ H Q I q
def jA:PT X e (λσ H Q=>Pt X e σ H Q):=λpins s σ H Q I h=>by
 obtain⟨t,h,q⟩:=h;exact h pins s σ H Q I q
def uB:PA X es (λσ H Q=>Pa X es σ H Q):=λpos pins s σ H Q I h=>by
 obtain⟨t,h,q⟩:=h;exact h pos pins s σ H Q I q
structure Sl (X:Cx) (i:FX) (y:Gf):Prop where
 hi:X.N[i]?=FB y
 hx:Loc X.env.scope y
 hf:X.fn y=FS
def aO (i:FX) (nd:X.N.Nodup) (q:Pe X e σ H λv H'=>Bd X ss D (σ.set i (FB v)) H') (h:Sl X i y:=by exact#[Go,Hs Go,Go]) (hs:KG e (FB (.Name y p0)) p5.line X.env=pure Gc:=by rfl):Bd X (.Assign [.Name y p0] e p5::ss) D σ H:=
 aT (cN nd h.hi h.hx dA hs (.inl h.hf)) q
def bB (q:Pe X e σ H λ_ H'=>Bd X ss D σ H') (hs:KG e FM p5.line X.env=pure Gc:=by rfl):Bd X (.Expr e p5::ss) D σ H:=aT (bf dA hs) q
def aN (q:Pe X e σ H D.rt):Bd X (.Return (FB e) p5::ss) D σ H:=aT (aH dA) q
def bI (q:Pt X e σ H λb H'=>if b=FS then Bd X A (D.to X ss) σ H' else Bd X ss D σ H'):Bd X (.If e A [] p5::ss) D σ H:=aT (b4 jA iE aY) q
def gi (N:L2.St->Hp->Prop) (rest: ∀σ H,N σ H->Bd X ss D σ H) (q:Pt X e σ H λb H'=>if b=FS then Bd X A { D with nx:=N } σ H' else N σ H'):Bd X (.If e A [] p5::ss) D σ H:=aT (Ed (b4 jA iE aY)) #[N,q,rest]
def vh (q:Bd X ss D σ H):Bd X [] (D.to X ss) σ H:=cg q
def du (q:Pe X e σ H (vC R)) (he: ∀whole,isTrue e X.env whole=(do let v<-whole;standAt e.pos;holding [v] (truthy v)):=by intro _;rfl):Pt X e σ H R:=#[_,de dA he,q]
def jw (q:Pt X e σ H λb H'=>R (!b) H'):Pt X (.UnaryOp .Not e p1) σ H R:=#[_,k6 jA,q]
def DF {f:HX}(q:Pt X e σ H λb H'=>if b=FS then Pt X f σ H' R else R Gc H'):Pt X (.BoolOp .And [e,f] p1) σ H R:=#[_,(lP jA (kh jA)).pt,q]
def agB {f:HX}(q:Pt X e σ H λb H'=>if b=FS then R FS H' else Pt X f σ H' R):Pt X (.BoolOp .Or [e,f] p1) σ H R:=#[_,(tK jA (ou jA)).pt,q]
def YN {x:Gf}(q:Q (.str x) H):Pe X (.Constant (.str x) j p1) σ H Q:=#[_,dI,q]
def cP {x:Int}(q:Q (.int x) H):Pe X (.Constant (.int x) j p1) σ H Q:=#[_,ak,q]
def oX (q:Q .Jm H):Pe X (.Constant .none j p1) σ H Q:=#[_,aaQ,q]
def cH {Q:Fx V->Hp->Prop}(q:Q [] H):Pa X [] σ H Q:=#[_,ag,q]
def aP {Q:Fx V->Hp->Prop}(q:Pe X e σ H λv H1=>Pa X es σ H1 λvs H2=>Q (v::vs) H2) (hs:F9 (e::es) X.env=[001]::F9 es X.env:=by rfl):Pa X (e::es) σ H Q:=#[_,aa dA uB hs,q]
def bA (i:FX) {x:Gf}(q:gc i σ H Q) (hN:X.N[i]?=FB x:=by rfl) (hv:o6 X.env.scope x:=by exact Hs Go) (hd:(x == [003])=Gc:=by decide) (Td:(x == ("__classdict__":Gf))=Gc:=by decide):Pe X (.Name x p1) σ H Q:=#[_,dR hN hv hd Td,q]
end
def Pt.mono {X:Cx}{e:HX}{σ:L2.St}{H:Hp}{Q Q':GP->Hp->Prop}(h:Pt X e σ H Q) (im: ∀b H,Q b H->Q' b H):Pt X e σ H Q':=by
 obtain⟨t,ht,q⟩:=h;refine#[λσ H Q'=> ∃Q:GP->Hp->Prop,(∀b H,Q b H->Q' b H)/\t σ H Q,λpins s σ H Q' I h=>?_,Q,im,q];obtain⟨Q,im,q⟩:=h;exact cc (ht pins s σ H Q I q) λc s' ⟨H',I',q⟩=>#[H',I',im _ _ q]
def Pe.mono {X:Cx}{e:HX}{σ:L2.St}{H:Hp}{Q Q':VK}(h:Pe X e σ H Q) (im: ∀b H,Q b H->Q' b H):Pe X e σ H Q':=by
 obtain⟨t,ht,q⟩:=h;refine#[λσ H Q'=> ∃Q:VK,(∀b H,Q b H->Q' b H)/\t σ H Q,λpins s σ H Q' I h=>?_,Q,im,q];obtain⟨Q,im,q⟩:=h;exact cc (ht pins s σ H Q I q) λc s' ⟨v,H',I',r,q⟩=>#[v,H',I',r,im _ _ q]
inductive abh (I:FX->L2.St->Hp->Prop) (m:FX) (σ:L2.St) (H:Hp):Prop
 |mk (k:FX) (_:k<m) (_:I k σ H):abh I m σ H
def _root_.L2.eI.lp (D:eI) (X:Cx) (ss:Fx Stmt) (N:L2.St->Hp->Prop):eI:= { D.to X ss with nx:=N,ct:=N,bk:=(D.to X ss).nx }
inductive isApp (L:FG) (R:Hp->Prop) (v:V) (H:Hp):Prop
 |mk (xs:Fx V) (_:H L=FB (.lst xs)) (_:xs.length<GD) (_:R (aI H L (.lst (xs++[v])))):isApp L R v H
section
variable {X:Cx}{ss A:Fx Stmt}{D:eI}{σ:L2.St}{H:Hp}{e f c:HX}{es:Fx HX}{Q:VK}{R:GP->Hp->Prop}{N:L2.St->Hp->Prop}{x y:Gf}{p0 p1 p2 p3 p4 p5:Pos}{i:FX}{L:FG}{xs:Fx V}{te:TE}
def fZ (hp:QG (model X.prog X.w) X.A X.env X.xe) (I:FX->L2.St->Hp->Prop) (m:FX) (h0:I m σ H) (hs: ∀m σ H,I m σ H->Pt X c σ H λb H1=>if b=FS then Bd X A (D.lp X ss (abh I m)) σ H1 else Bd X ss D σ H1):Bd X (.While c A [] p5::ss) D σ H:=by
 refine aT (iV hp jA iE) #[I,#[m,h0],λm σ H h=>(hs m σ H h).mono λb H1 z=>?_];cases b with
 |true=>exact#[abh I m,λσ' H' ⟨k,h1,h2⟩=>#[k,h1,h2],z]
 |false=>exact z
def gh (q:N σ H):Bd X [] (D.lp X ss N) σ H:=cg q
def Bi (q:D.bk σ H):Bd X (.Break p5::A) D σ H:=aT AY q
def ki (i:FX) (hp:QG (model X.prog X.w) X.A X.env X.xe) (nd:X.N.Nodup) (he:PE X e te) (hv: ∀R:VK,R (.ref L) H->te σ H R) (I:FX->L2.St->Hp->Prop) (h0:I 0 σ H) (hL: ∀j σ H,j<=xs.length->I j σ H->H L=FB (.lst xs))
  (hs: ∀j x σ H,xs[j]?=FB x->I j σ H->Bd X A (D.lp X ss (I (j+1))) (σ.set i (FB x)) H) (hd: ∀σ H,I xs.length σ H->Bd X ss D σ H) (hc:X.calm=FS:=by rfl) (h:Sl X i y:=by exact#[Go,Hs Go,Go]) (hf: ∀x,K7 e X.env x=pure x:=by intro _;rfl):Bd X (.For (.Name y p0) e A [] p5::ss) D σ H:=
 aT (ww hp hc (gt he) (fL nd h.hi h.hx (.inl h.hf)) iE hf) (hv _ #[L,Go,#[_,cD.of (hL 0 σ H (Gn _) h0)],sZ I h0 (λj σ H hj h=>cD.of (hL j σ H hj h)) hs hd])
def vU (q:Pa X es σ H (BS Q)):Pe X (.List es p1) σ H Q:=#[_,iQ uB,q]
def mE (q: ∀L,H L=FM->Q (.ref L) (aI H L (.lst []))):Pe X (.List [] p1) σ H Q:=vU (cH #[Gn _,q])
def iJ (hl:X.mg "len"=FM) (hL:H L=FB (.lst xs)) (he:PE X e te) (hv: ∀Q:VK,Q (.ref L) H->te σ H Q) (q:Q (.int xs.length) H) (hg:Gl X "len":=by rfl) (KN:F9 [e] X.env=[[001]]:=by rfl):Pe X (.Call (.Name "len" p1) [e] [] p2) σ H Q:=
 #[_,br bP hg hl Iy (aa he ag KN) [01] [01] KN Go,hv _ #[L,xs,Go, .inl (cD.of hL),q]]
def cS {r:R2}(ho:kZ X (IY op) r) (q:Pe X e σ H λx H1=>Pe X f σ H1 λy H2=>r x y H2 (vC R)) (hm:behindInMarks op f=Gc:=by exact aG _):Pt X (.Compare e [op] [f] p1) σ H R:=#[_,aL ho dA dA hm,q]
def A9 {r:R2}(ho:kZ X (Qs op) r) (q:Pe X e σ H λx H1=>Pe X f σ H1 λy H2=>r x y H2 Q):Pe X (.BinOp e op f p1) σ H Q:=#[_,bM ho dA dA,q]
def iH (he:PE X e te) (hv: ∀R:VK,R (.ref L) H->te σ H R) (hL:H L=FB (.lst xs)) (q:Pe X f σ H (isApp L λH'=>Bd X ss D σ H')) (hb:Ja e "append" X.env (eval e X.env)=eval e X.env:=by rfl) (KN:F9 [f] X.env=[(Gc,eval f X.env)]:=by rfl) (hp:iB p2 p4:=by rfl):
  Bd X (.Expr (.Call (.Attribute e "append" p2) [f] [] p4) p5::ss) D σ H:=by
 refine bB #[_,xX JD K9 La i8 he (aa dA ag KN) hb (by rw[KN];rfl) hp KN Go,hv _ #[.inl #[Go,_,cD.of hL],q.mono λv H1 z=>?_]];obtain⟨xs',h1,h2,h3⟩:=z;exact#[L,xs',v,Go,Go,h1,h2,h3]
end
def okL {P:Gy}{w:Hf}{K:FC}{mg:Gf->FP FE}{base:Ho}{x Hy:Gf}{st:Stmt}{f:FG}{fd:GQ}{N ps:Fx Gf}{k:FX}{sp:Sp}(F:o9 K x Hy st f fd)
  (S:ay N ps (af st)) (len: ∀vs H Q E,sp vs H Q E->vs.length=ps.length)
  (J3: ∀(Hn:FE) (A:Hm) (outer:Fx Env) (s:FJ) (H:Hp) (vs:Fx V) (Q:VK) (E:XK),bZ k (A.deeper [011])->sp vs H Q E->
   let X:=fg (gb P w) P w K mg base N Hy (af st) f Hn A outer s H E
   let D:eI:= { nx:=λ_ H'=>Q .Jm H',rt:=Q }
   Bd X (bh st) D (start N vs) H):bW P w K mg base (gb P w) (k+1) f fd ps sp:=fW F S len J3
section
variable {H:Hp}{Q:VK}{R:GP->Hp->Prop}{sp:Sp}{CX:qG}{E:XK}
def cw (q:Pt X e σ H λb H'=>if b=FS then Bd X A D σ H' else Bd X B D σ H'):Bd X [.If e A B p5] D σ H:=eE (b4 jA iE iE) q
def abi {Z:Prop}(UD:Z->Bd X B D σ H) (q:(Z->Bd X B D σ H)->Pt X e σ H λb H'=>if b=FS then Bd X A D σ H' else Bd X B D σ H'):Bd X [.If e A B p5] D σ H:=cw (q UD)
def fm (q:Pe X e σ H λ_ H'=>D.nx σ H') (hs:KG e FM p5.line X.env=pure Gc):Bd X [.Expr e p5] D σ H:=eE (bf dA hs) q
def cr (q:Pe X e σ H (cQ X.K y Q)) (hb:Ja e y X.env (eval e X.env)=eval e X.env):Pe X (.Attribute e y p1) σ H Q:=#[_,ai dA hb,q]
def lA (q:Pe X e σ H λv H1=>Pe X f σ H1 λu H2=>Bq X.K v u H2 Q) (hs:rb f):Pe X (.Subscript e f p1) σ H Q:=#[_,cO bC dA dA hs,q]
def bN (q:Pa X (e::es) σ H λvs H1=>sp (vs++[]) H1 Q E) (G:bW X.prog X.w X.K X.mg X.base CX k fa fd ps sp) (hr:bZ k X.A) (d:CD X.K X.mg x fa fd ps) (up:dn CX X E) (hg:Gl X x:=by rfl) (hx:(x == [003])=Gc:=by decide) (he:F9 (e::es) X.env=[001]::F9 es X.env:=by rfl) (Ng:(Jr p4 (F9 es X.env)).any (·.1)=Gc:=by rfl):
  Pe X (.Call (.Name x p1) (e::es) [] p4) σ H Q:=#[_,aF G hr hg d up uB hx he Ng,q]
def jz (q:Pe X e σ H λv H1=>Pe X f σ H1 λu H2=> ∃i j,v= .int i/\u= .int j/\R (decide (i=j)) H2):Pt X (.Compare e [.Eq] [f] p1) σ H R:=cS bS (q.mono λv H1 q=>q.mono λu H2 ⟨i,j,h1,h2,q'⟩=>by
 subst h1 h2;exact#[Go,_,Go,by rw[show decide (V.int i=V.int j)=decide (i=j) from decide_eq_decide.mpr #[λy=>V.int.inj y,λy=>by rw[y]]];exact q']) (aG _)
end
def cq {c:Prop} [Decidable c] {A B:Prop}(h1:c->A) (h2: ¬c->B):if decide c=FS then A else B:=by
 by_cases h:c
 .rw[FI (GL h)];exact h1 h
 .rw[FF (by rw[Gp h];exact FA)];exact h2 h
abbrev lU:=FG×HO
structure Ow (B:Hp) (L:Fx lU) (H:Hp):Prop where
 same:aU B H
 at_: ∀x∈L,H x.1=FB x.2/\B x.1=FM
 nd:(L.map λx:lU=>x.1).Nodup
section
variable {B H H':Hp}
def Ow.get (O:Ow B L H) (i:FX) {x:lU}(h:L[i]?=FB x):H x.1=FB x.2:=(O.at_ x (G8 h)).1
def Ow.grow (O:Ow B L H) (k:aU H H'):Ow B L H':=#[λb o e=>k b o (O.same b o e),λx h=>#[k _ _ (O.at_ x h).1,(O.at_ x h).2],O.nd]
def Ow.sub (O:Ow B L H) (h:L'.Sublist L):Ow B L' H:=#[O.same,λx z=>O.at_ x (h.subset z),O.nd.sublist (h.map _)]
def Ow.perm (O:Ow B L H) (h:L.Perm L'):Ow B L' H:=#[O.same,λx z=>O.at_ x (h.mem_iff.mpr z),(h.map _).nodup_iff.mp O.nd]
def Ow.set (O:Ow B (L1++(p,o)::L2) H) (e:H' p=FB o') (k: ∀b u,H b=FB u->b≠p->H' b=FB u):Ow B (L1++(p,o')::L2) H':=by
 have nd:=O.nd;rw[Hk,Ge] at nd
 have z:=LW.mp nd
 have bp:=(O.at_ (p,o) (HG _ FL)).2;refine#[λb u h=>k b u (O.same b u h) λz=>(by rw[z,bp] at h;cases h),λx h=>?_,by rw[Hk,Ge];exact nd]
 rcases Gr.mp h with h|h
 .have h1:=O.at_ x (MC _ h)
  exact#[k _ _ h1.1 λy=>z.2.2 x.1 (Lj h) p FL y,h1.2]
 .rcases FU.mp h with h|h
  .rw[h];exact#[e,bp]
  .have h1:=O.at_ x (HG _ (FK _ h))
   exact#[k _ _ h1.1 λy=>(GJ.mp z.2.1).1 (by have h3:=Lj (f:=λx:lU=>x.1) h;rw[y] at h3;exact h3),h1.2]
def nG: ∀b u,H b=FB u->b≠p->aI H p o b=FB u:=λb u e n=>by rw[ac n];exact e
def Ow.put (O:Ow B (L1++(p,o)::L2) H):Ow B (L1++(p,o')::L2) (aI H p o'):=O.set ae nG
def Ow.adds (O:Ow B L H) (k:aU H H') (h: ∀x∈N,H x.1=FM/\H' x.1=FB x.2) (nd:(N.map λx:lU=>x.1).Nodup):Ow B (N++L) H':=by
 have hB: ∀ {b:FG},H b=FM->B b=FM:=λ{b} e=>by
  cases z:B b with
  |none=>rfl
  |some o=>rw[O.same b o z] at e;cases e
 refine#[λb o e=>k b o (O.same b o e),λx z=>?_,?_]
 .rcases Gr.mp z with z|z
  .exact#[(h x z).2,hB (h x z).1]
  .exact#[k _ _ (O.at_ x z).1,(O.at_ x z).2]
 .rw[Hk]
  refine LW.mpr #[nd,O.nd,λa ha b hb z=>?_];obtain⟨x,hx,rfl⟩:=LY.mp ha;obtain⟨y,hy,rfl⟩:=LY.mp hb;have:=(O.at_ y hy).1;rw[<-z,(h x hx).1] at this;cases this
end
abbrev cF.O {K:FC}{mg:Gf->FP FE}{n:Gf}{st:Stmt}{ps:Fx Gf}{f:FG}{fd:GQ}(_:cF K mg n st ps f fd) (P:Gy) (w:Hf) (base:Ho) (k:FX) (sp:Sp):Prop:=bW P w K mg base (gb P w) k f fd ps sp
abbrev cF.U {K:FC}{mg:Gf->FP FE}{n:Gf}{st:Stmt}{ps:Fx Gf}{f:FG}{fd:GQ}(_:cF K mg n st ps f fd) (P:Gy) (w:Hf) (base:Ho) (k:FX) (sp:Sp):Prop:=bW P w K mg base xR k f fd ps sp
abbrev eu.O {K:FC}{C:FG}{n q:Gf}{st:Stmt}{ps:Fx Gf}{f:FG}{fd:GQ}(_:eu K C n q st ps f fd) (P:Gy) (w:Hf) (mg:Gf->FP FE) (base:Ho) (k:FX) (sp:Sp):Prop:=bW P w K mg base (gb P w) k f fd ps sp
abbrev eu.U {K:FC}{C:FG}{n q:Gf}{st:Stmt}{ps:Fx Gf}{f:FG}{fd:GQ}(_:eu K C n q st ps f fd) (P:Gy) (w:Hf) (mg:Gf->FP FE) (base:Ho) (k:FX) (sp:Sp):Prop:=bW P w K mg base xR k f fd ps sp
abbrev cC (s:Stmt) (l:Fx Gf):Prop:=ay l l (af s)
def agC:cC acm ["self","worth"]:=aw [00]
def agD:cC acn ["self","name"]:=aw [00]
def agE:cC aco ["self","name","arguments"]:=aw [00]
def agF:cC acp ["self","sign","operand"]:=aw [00]
def agG:cC acq ["self","strength","operands","signs"]:=aw [00]
def agH:cC acr ["self","condition","chosen","otherwise"]:=aw [00]
def agI:cC acs ["self","name","first","last","body"]:=aw [00]
def agJ:cC acu ["self","name","exp"]:=aw [00]
def agK:cC acv ["self","name","first","last","statements"]:=aw [00]
def agL:cC acw ["self","condition","statements","else_statements"]:=aw [00]
def agM:cC acx ["self","side","zone","quarter","price","to_price","amount"]:=aw [00]
def agN:cC acy ["self","name","exp"]:=aw [00]
def agO:cC acz ["self","name","side","zone","price","amounts","under","group"]:=aw [00]
def agP:cC acA ["self","name","exp"]:=aw [00]
def agQ:cC acB ["self","name","parameters","exp"]:=aw [00]
def agR:cC acC ["self","name","statements"]:=aw [00]
def agS:cC acD ["self","desk","zone","quarter","side","low","high","amount"]:=aw [00]
def agT:cC acE ["self","desk","zone","side","price","group","parent","amounts"]:=aw [00]
def alN:cC s_O ["word"]:=aw [00]
def Cr:ay ["orders","zone","quarter","side","steps","order","step"] ["orders","zone","quarter","side"] (af s_h):=aw [00]
def abj:ay ["orders","zone","quarter","price","step"] ["orders","zone","quarter","price"] (af s_D):=aw [00]
def abk:ay ["orders","zone","quarter","price","step"] ["orders","zone","quarter","price"] (af s_E):=aw [00]
def alO:cC s_P ["step","price"]:=aw [00]
def alP:cC s_Q ["step","price"]:=aw [00]
def alQ:cC s_l ["self","number"]:=aw [00]
def agU:cC acF ["self"]:=aw [00]
def alR:cC s_6 ["self","kind","line","column"]:=aw [00]
def agV:cC acG ["self"]:=aw [00]
def alS:cC s_R ["self"]:=aw [00]
def alT:cC s_S ["self"]:=aw [00]
def agW:cC acH ["self"]:=aw [00]
def agX:cC acI ["self"]:=aw [00]
def agY:cC acJ ["self"]:=aw [00]
def agZ:cC acK ["self"]:=aw [00]
def alU:cC s_T ["sign","right"]:=aw [00]
def alV:cC s_U ["sign","left","right"]:=aw [00]
def alW:cC s_V ["sign","left","right"]:=aw [00]
def ag0:cC acL ["sign","number"]:=aw [00]
def ag1:cC acM ["name","numbers"]:=aw [00]
def ag2:cC acN ["strength","number"]:=aw [00]
def alX:cC s_W ["strength"]:=aw [00]
def ag3:cC acO ["self","exp"]:=aw [00]
def ag4:cC acP ["self"]:=aw [00]
def ag5:cC acQ ["self"]:=aw [00]
def ag6:cC acR ["self","name","value"]:=aw [00]
def ag7:cC acS ["self","name"]:=aw [00]
def ag8:cC acT ["self","exp"]:=aw [00]
def ag9:cC acU ["self","value"]:=aw [00]
def aha:cC acV ["self","exp"]:=aw [00]
def alY:cC s_7 ["worker","exp","parts"]:=aw [00]
def alZ:ay ["worker","call","parts","wanted","function"] ["worker","call","parts"] (af s_8):=aw [00]
def al0:cC s_9 ["worker","unary","parts"]:=aw [00]
def ahb:cC acW ["worker","chain","parts"]:=aw [00]
def ahc:cC acX ["worker","chain","parts"]:=aw [00]
def ahd:ay ["worker","chain","parts","right"] ["worker","chain","parts"] (af acY):=aw [00]
def ahe:cC acZ ["sign","left","right"]:=aw [00]
def al1:cC s_x ["value"]:=aw [00]
def ahf:cC ac0 ["worker","choice","parts"]:=aw [00]
def ahg:cC ac1 ["worker","summed","parts"]:=aw [00]
def ahh:ay ["worker","summed","parts","turns","added"] ["worker","summed","parts"] (af ac2):=aw [00]
def ahi:cC ac3 ["self","zones","quarters","low","high"]:=aw [00]
def ahj:cC ac4 ["self","market"]:=aw [00]
def abl:ay ["market","tops","expansion","top"] ["market","tops"] (af s_X):=aw [00]
def ahk:cC ac5 ["expansion","top"]:=aw [00]
def al2:cC s_y ["worker","given"]:=aw [00]
def ahl:ay ["expansion","statements","statement"] ["expansion","statements"] (af s_m):=aw [00]
def al3:cC s_Y ["expansion","statement"]:=aw [00]
def abm:ay ["expansion","loop","worker","turn","last"] ["expansion","loop"] (af s_z):=aw [00]
def ahm:cC s_F ["expansion","condition"]:=aw [00]
def ahn:cC ac6 ["number","least","most"]:=aw [00]
def YO:ay ["expansion","step","worker","zone","quarter","low","high","amount","market","side"] ["expansion","step"] (af ac7):=aw [00]
def al4:cC s_Z ["expansion","order"]:=aw [00]
def YQ:ay ["expansion","block","worker","zone","price","amounts","group","amount","parent","side"] ["expansion","block"] (af ac8):=aw [00]
def aho:ay ["expansion","amounts","found","quarter"] ["expansion","amounts"] (af s_G):=aw [00]
def ahp:cC ac9 ["expansion","block"]:=aw [00]
def ahq:cC ada ["expansion","name","order"]:=aw [00]
def al5:cC s_H ["self","kind","value","line","column"]:=aw [00]
def al6:cC s_f ["byte"]:=aw [00]
def al7:cC s_i ["byte"]:=aw [00]
def ahr:cC s_I ["text","at"]:=aw [00]
def ahs:cC s_J ["text","at"]:=aw [00]
def aht:cC s_K ["text","at"]:=aw [00]
def ahu:ay ["text","at","pair"] ["text","at"] (af s_L):=aw [00]
def ahv:ay ["text","at","end","glued"] ["text","at","end"] (af s_M):=aw [00]
def Eu:ay ["part","worth","byte"] ["part"] (af s_s):=aw [00]
def abn:ay ["kind","part","byte"] ["kind","part"] (af s_t):=aw [00]
def mw:ay ["text","found","line","line_start","at","end","kind"] ["text"] (af s_j):=aw [00]
def ahw:cC adb ["self","tokens"]:=aw [00]
def ahx:ay ["self","token"] ["self"] (af s_a):=aw [00]
def ahy:ay ["self","kind","token"] ["self","kind"] (af s_b):=aw [00]
def al8:cC s_q ["self","value"]:=aw [00]
def ahz:cC ade ["self"]:=aw [00]
def ahA:cC adf ["self"]:=aw [00]
def ahB:ay ["self","token"] ["self"] (af s_1):=aw [00]
def ahC:cC adg ["self"]:=aw [00]
def ahD:ay ["self","token"] ["self"] (af s_u):=aw [00]
def ahE:cC adh ["self","value"]:=aw [00]
def ahF:cC adi ["self","value"]:=aw [00]
def al9:cC s_A ["self"]:=aw [00]
def YR:ay ["self","name"] ["self"] (af adj):=aw [00]
def ahG:cC adk ["self","given"]:=aw [00]
def ahH:cC adl ["self","name"]:=aw [00]
def ahI:cC adm ["self","name"]:=aw [00]
def ama:cC s_g ["reader","depth"]:=aw [00]
def ahJ:cC s_c ["reader","depth"]:=aw [00]
def ahK:ay ["reader","depth","inner","condition","chosen"] ["reader","depth"] (af adn):=aw [00]
def ahL:ay ["reader","depth","strength","operands","signs"] ["reader","depth","strength"] (af s_w):=aw [00]
def abo:ay ["reader","depth","inner","sign"] ["reader","depth"] (af s_n):=aw [00]
def ahM:ay ["reader","depth","name"] ["reader","depth"] (af ado):=aw [00]
def ahN:ay ["reader","depth","inner","exp"] ["reader","depth"] (af adp):=aw [00]
def ahO:ay ["reader","depth","inner","name","first","last","body"] ["reader","depth"] (af adq):=aw [00]
def amb:ay ["reader","depth","inner","name","wanted","arguments"] ["reader","depth"] (af s_2):=aw [00]
def ahP:cC ads ["reader","sign"]:=aw [00]
def abp:ay ["text","reader","tops"] ["text"] (af s_k):=aw [00]
def ahQ:cC adt ["reader"]:=aw [00]
def ahR:ay ["reader","name","exp"] ["reader"] (af adu):=aw [00]
def amc:ay ["reader","exp"] ["reader"] (af s_r):=aw [00]
def ahS:ay ["reader","name","parameters","exp","parameter"] ["reader"] (af adv):=aw [00]
def ahT:ay ["reader","function","parameters"] ["reader","function"] (af adw):=aw [00]
def ahU:ay ["reader","function","name"] ["reader","function"] (af adx):=aw [00]
def ahV:ay ["reader","name"] ["reader"] (af ady):=aw [00]
def ahW:ay ["reader","depth","statements","statement"] ["reader","depth"] (af s_o):=aw [00]
def ahX:cC adz ["reader","depth"]:=aw [00]
def amd:ay ["reader","name","exp"] ["reader"] (af s_3):=aw [00]
def ahY:cC adA ["reader","depth"]:=aw [00]
def ahZ:ay ["reader","depth","inner","name","first","last","statements"] ["reader","depth"] (af adB):=aw [00]
def ah0:ay ["reader","depth","inner","condition","statements","else_statements"] ["reader","depth"] (af adC):=aw [00]
def ah1:cC adD ["reader"]:=aw [00]
def ame:cC s_p ["reader","word"]:=aw [00]
def amf:cC s_B ["reader","word"]:=aw [00]
def amg:ay ["reader","side","zone","quarter","price","to_price","amount"] ["reader"] (af s_4):=aw [00]
def amh:ay ["reader","name","side","zone","price","amounts","under","group"] ["reader"] (af s_5):=aw [00]
def ah2:ay ["reader","name","exp"] ["reader"] (af adE):=aw [00]
def ah3:cC adF ["reader"]:=aw [00]
def abq:ay ["text","byte"] ["text"] (af s_N):=aw [00]
def ami:cC s_C ["price"]:=aw [00]
def YS:ay ["zones","quarters","low","high","counts"] ["zones","quarters","low","high"] (af adG):=aw [00]
def amj:cC s_e ["as_told"]:=aw [00]
def ah4:cC adH ["zones","quarters","low","high","text"]:=aw [00]
def abr:ay ["zones","quarters","low","high","zone","quarter","price","text","orders","refusal"] ["zones","quarters","low","high","zone","quarter","price","text"] (af s_d):=aw [00]
variable {P:Gy}{w:Hf}{K:FC}{mg:Gf->FP FE}{base:Ho}{a:bi}
def jX (bs:Fy):Fx V:=bs.map λc=>V.int (nb c)
def fK (bs:Fy):(jX bs).length=bs.length:=by unfold jX;rw[FT]
def fA {bs:Fy}{i:FX}{c:Jx}(h:bs[i]?=FB c):(jX bs)[i]?=FB (V.int (nb c)):=by unfold jX;rw[GR,h];rfl
def oZ {p:Jx->Prop}(h: ∀n:FX,n<256->p (OV n)) (c:Jx):p c:=by
 have:=h c.toNat (Xl c)
 rwa [VL] at this
def sy (c:Jx):Ii c=(decide ((48:Int)<=nb c)&&decide (nb c<=57)):=oZ (p:=λc=>Ii c=(decide ((48:Int)<=nb c)&&decide (nb c<=57))) [00] c
def zY (c:Jx):KI c=((decide ((65:Int)<=nb c)&&decide (nb c<=90))||((decide ((97:Int)<=nb c)&&decide (nb c<=122))||decide (nb c=95))):=
 oZ (p:=λc=>KI c=((decide ((65:Int)<=nb c)&&decide (nb c<=90))||((decide ((97:Int)<=nb c)&&decide (nb c<=122))||decide (nb c=95)))) [00] c
inductive vT (p:Jx->GP) (vs:Fx V) (H:Hp) (Q:VK) (_E:XK):Prop
 |mk (c:Jx) (_:vs=[.int (nb c)]) (_:Q (.bl (p c)) H):vT p vs H Q _E
inductive xh (K:FC) (p:Jx->GP) (vs:Fx V) (H:Hp) (Q:VK) (_E:XK):Prop
 |mk (l:FG) (bs:Fy) (i:FX) (_:vs=[.ref l, .int i]) (_:cD K H l (jX bs)) (_:i<=bs.length) (_:Q (.int (a7 p bs i:FX)) H):xh K p vs H Q _E
def Ar (c:Jx):eT c=!decide (V.int (nb c)=V.int 10):=oZ (p:=λc=>eT c=!decide (V.int (nb c)=V.int 10)) [00] c
def jQ {i:FX}{lo hi n:Int}{σ:St}{H:Hp}{Q:VK}(hv:σ[i]?=FB (FB (.int n))) (q:Q (.bl (decide (lo<=n)&&decide (n<=hi))) H):
  rf (vX λi j=> .bl (decide (i<=j))) (vX λi j=> .bl (decide (i<=j))) (tC (.int lo)) (gc i) (tC (.int hi)) σ H Q:=by
 refine nj #[_,_,Go,Go,_,Go,?_] hv;by_cases h1:lo<=n
 .rw[FI (GL h1)]
  rw[GL h1,Jj] at q;exact#[_,_,Go,Go,q]
 .rw[FF (by rw[Gp h1];exact FA)]
  rw[Gp h1,Ip] at q;exact q
def cj:decide (V.int i=V.int j)=decide (i=j):=decide_eq_decide.mpr #[λy=>V.int.inj y,λy=>by rw[y]]
def aQ {A B:Prop}(h1:b=FS->A) (h2:b=Gc->B):if b=FS then A else B:=by
 cases b with
 |true=>exact b8 (h1 Go)
 |false=>exact bG (h2 Go)
def E5 (T:aV K mg a):T.d_f.U P w base 1 (vT Ii):=by
 refine T.d_f.F.ok al6 [03] [02];obtain⟨c,rfl,q⟩:=h;refine#[_,(ah (aH (fV dN dN ak (pv 0) ak))),?_];rw[sy] at q;exact jQ Go q
def abt (T:aV K mg a):T.d_i.U P w base 1 (vT KI):=by
 refine T.d_i.F.ok al7 [03] [02];obtain⟨c,rfl,q⟩:=h;refine#[_,(ah (aH (Dc (fV dN dN ak (pv 0) ak) (Dc (fV dN dN ak (pv 0) ak) (iK (cf bS (pv 0) ak (aG _))))))),?_];rw[zY] at q;refine jQ Go #[_,Go,aQ [015] λe=>?_]
 .rw[e,T3] at q
  exact q
 .rw[e,SR] at q
  refine jQ Go #[_,Go,aQ [015] λe=>?_]
  .rw[e,T3] at q
   exact q
  .rw[e,SR] at q
   refine#[Go,?_];rw[cj];exact q
def amk (T:aV K mg a):T.d_I.U P w base 1 (xh K eT):=by
 refine T.d_I.F.ok ahr [03] [02];obtain⟨l,bs,i,rfl,hS,hi,q⟩:=h;refine#[_,(ao (iV Mi (lP (aL io (pv 1) (br bP (by rfl) T.KW Iy (aa (pv 0) ag)) (aG _)) (kh (aL qf (cO bC (pv 0) (pv 1) [002]) (aS (by rfl) T.QX) (aG _)))).pt (ah (lF (i:=1) ahr.nd Go (Hs Go) ak lM)))
   (ah (aH (pv 1)))),?_]
 refine#[λm σ H'=> ∃j:FX,m=bs.length-j/\σ=[FB (.ref l),FB (.int (j:FX))]/\H'=H/\j<=bs.length/\a7 eT bs j=a7 eT bs i,#[_,i,Go,Go,Go,hi,Go],?_];rintro m σ H' ⟨j,rfl,rfl,rfl,hj,ej⟩;refine#[_,_,Go, .inl hS,_,_,Go,Go,_,Go,?_];rw[fK];rw[05]
 .have lt:j<bs.length:=by have:=Gj e;lia
  obtain⟨c,hc⟩: ∃c,bs[j]?=FB c:=#[_,HS lt];refine#[_,_,_,_,Go,Go,hS,bv (fA hc),Go,_,Go,?_];have st:eT c=!decide (V.int (nb c)=V.int 10):=Ar c;refine aQ (λe2=>?_) λe2=>?_
  .refine#[λσ' SY=>σ'=[FB (.ref l),FB (.int ((j+1:FX)))]/\SY=H',?_,_,Go,_,_,Go,Go,Go,Go]
   rintro σ' SY ⟨rfl,rfl⟩;exact#[_,by lia,j+1,Go,Go,Go,lt,by rw[<-ej,kL hc (st.trans e2)]]
  .refine ?_
   rw[<-ej,oK hc (st.trans e2)] at q;exact q
 .have ge:bs.length<=j:=by have:=Gw e;lia
  refine bG ?_;rw[<-ej,lr ge] at q;exact q
def aml (T:aV K mg a):T.d_J.U P w base 2 (xh K bU):=by
 have G_i:=abt (P:=P) (w:=w) (base:=base) T
 have G_f:=E5 (P:=P) (w:=w) (base:=base) T;refine T.d_J.F.ok ahs [03] [02];obtain⟨l,bs,i,rfl,hS,hi,q⟩:=h;refine#[_,(ao (iV Mi (lP (aL io (pv 1) (br bP (by rfl) T.KW Iy (aa (pv 0) ag)) (aG _)) (kh (tK (de (aF G_i hr (by rfl) T.d_i.c aR (aa (cO bC (pv 0) (pv 1) [002]) ag))) (ou (de (aF G_f hr (by rfl) T.d_f.c aR (aa (cO bC (pv 0) (pv 1) [002]) ag))))).pt)).pt (ah (lF (i:=1) ahs.nd Go (Hs Go) ak lM)))
   (ah (aH (pv 1)))),?_]
 refine#[λm σ H'=> ∃j:FX,m=bs.length-j/\σ=[FB (.ref l),FB (.int (j:FX))]/\H'=H/\j<=bs.length/\a7 bU bs j=a7 bU bs i,#[_,i,Go,Go,Go,hi,Go],?_];rintro m σ H' ⟨j,rfl,rfl,rfl,hj,ej⟩;refine#[_,_,Go, .inl hS,_,_,Go,Go,_,Go,?_];rw[fK];rw[05]
 .have lt:j<bs.length:=by have:=Gj e;lia
  obtain⟨c,hc⟩: ∃c,bs[j]?=FB c:=#[_,HS lt];have go:bU c=FS-> ∃N:St->Hp->Prop,(∀σ' SY,N σ' SY-> ∃m',m'<bs.length-j/\ ∃j1:FX,m'=bs.length-j1/\σ'=[FB (.ref l),FB (.int (j1:FX))]/\SY=H'/\j1<=bs.length/\a7 bU bs j1=a7 bU bs i)/\
    N [FB (.ref l),FB (.int ((j+1:FX)))] H':=λy=>by
   refine#[λσ' SY=>σ'=[FB (.ref l),FB (.int ((j+1:FX)))]/\SY=H',?_,Go,Go];rintro σ' SY ⟨rfl,rfl⟩;exact#[_,by lia,j+1,Go,Go,Go,lt,by rw[<-ej,kL hc y]]
  refine#[_,_,_,_,Go,Go,hS,bv (fA hc),c,Go,_,Go,aQ (λe2=>?_) λe2=>?_]
  .obtain⟨N,n1,n2⟩:=go (by unfold bU;rw[e2];rfl)
   exact b8 #[N,n1,_,Go,_,_,Go,Go,n2]
  .refine#[_,_,_,_,Go,Go,hS,bv (fA hc),c,Go,_,Go,aQ (λe3=>?_) λe3=>?_]
   .obtain⟨N,n1,n2⟩:=go (by unfold bU;rw[e3,QM])
    exact#[N,n1,_,Go,_,_,Go,Go,n2]
   .refine ?_
    rw[<-ej,oK hc (by unfold bU;rw[e2,e3];rfl)] at q;exact q
 .have ge:bs.length<=j:=by have:=Gw e;lia
  refine bG ?_;rw[<-ej,lr ge] at q;exact q
def amm (T:aV K mg a):T.d_K.U P w base 2 (xh K Ii):=by
 have G_f:=E5 (P:=P) (w:=w) (base:=base) T;refine T.d_K.F.ok aht [03] [02];obtain⟨l,bs,i,rfl,hS,hi,q⟩:=h;refine#[_,(ao (iV Mi (lP (aL io (pv 1) (br bP (by rfl) T.KW Iy (aa (pv 0) ag)) (aG _)) (kh (de (aF G_f hr (by rfl) T.d_f.c aR (aa (cO bC (pv 0) (pv 1) [002]) ag))))).pt (ah (lF (i:=1) aht.nd Go (Hs Go) ak lM)))
   (ah (aH (pv 1)))),?_]
 refine#[λm σ H'=> ∃j:FX,m=bs.length-j/\σ=[FB (.ref l),FB (.int (j:FX))]/\H'=H/\j<=bs.length/\a7 Ii bs j=a7 Ii bs i,#[_,i,Go,Go,Go,hi,Go],?_];rintro m σ H' ⟨j,rfl,rfl,rfl,hj,ej⟩;refine#[_,_,Go, .inl hS,_,_,Go,Go,_,Go,?_];rw[fK];rw[05]
 .have lt:j<bs.length:=by have:=Gj e;lia
  obtain⟨c,hc⟩: ∃c,bs[j]?=FB c:=#[_,HS lt];refine#[_,_,_,_,Go,Go,hS,bv (fA hc),c,Go,_,Go,aQ (λe2=>?_) λe2=>?_]
  .refine#[λσ' SY=>σ'=[FB (.ref l),FB (.int ((j+1:FX)))]/\SY=H',?_,_,Go,_,_,Go,Go,Go,Go]
   rintro σ' SY ⟨rfl,rfl⟩;exact#[_,by lia,j+1,Go,Go,Go,lt,by rw[<-ej,kL hc e2]]
  .refine ?_
   rw[<-ej,oK hc e2] at q;exact q
 .have ge:bs.length<=j:=by have:=Gw e;lia
  refine bG ?_;rw[<-ej,lr ge] at q;exact q
def ip (hg:Gl X x) (hm:X.mg x=FB (.ref p)) (hd:(x == [003])=Gc:=by decide):PE X (.Name x pos) (tC (.ref p)):=qM hg hm Go hd
def ot {bs:Fy}{i j:FX} :wd (jX bs) (FB (i:Int)) (FB (j:Int))=jX (part bs i j):=by
 unfold wd part;rw[HT.Va,HT.Va,fK];unfold jX;rw[<-Fx.map_drop,<-Fx.map_take]
 congr 1
 by_cases hi:i<=bs.length
 .rw[Yd hi]
  by_cases hj:j<=bs.length
  .rw[Yd hj]
  .rw[Xg (show bs.length<=j by lia),JL (by rw[Mr];lia),JL (by rw[Mr];lia)]
 .rw[Xg (show bs.length<=i by lia),KC (F5 _),KC (show bs.length<=i by lia)]
  simp
def abu (h:kb x=kb y):x=y:=Rh.mp (LZ (Yn h))
def Ep {x y:Fy}(h:x.map kb=y.map kb):x=y:=(VJ λ_ _ z=>abu z).mp h
def abv (w:Fy):(w.map kb).map kV=jX w:=by unfold jX;rw[J9];rfl
theorem xQ (w:Fy): ∀L:Fx Fy,bQ (L.map λs=>(s.map kb,V.str (dJ s))) (w.map kb)=if w∈L then FB (V.str (dJ w)) else FM
 |[]=>by simp [bQ]
 |s::L=>by
  rw[Ge];by_cases e:s=w
  .subst e
   rw[ci Go,FI FL]
  .rw[b7 (λz=>e (Ep z)),xQ w L]
   by_cases m:w∈L
   .rw[FI m,FI (FK _ m)]
   .rw[FF m,FF λz=>(FU.mp z).elim (λy=>e y.symm) m]
def sA (w:Fy):bQ dY (w.map kb)=if w∈Hb then FB (V.str (dJ w)) else FM:=xQ w Hb
def jn (w:Fy):(bQ dY (w.map kb)).isSome=decide (w∈Hb):=by
 rw[sA];by_cases m:w∈Hb
 .rw[FI m,GL m];rfl
 .rw[FF m,Gp m];rfl
def eU (bs:Fy) (i:FX) (c:Jx):FX:=if KI c=FS then a7 bU bs i else if Ii c=FS then a7 Ii bs i else bw bs i
inductive tu (K:FC) (vs:Fx V) (H:Hp) (Q:VK) (_E:XK):Prop
 |mk (l:FG) (bs:Fy) (i:FX) (c:Jx) (_:vs=[.ref l, .int i]) (_:cD K H l (jX bs)) (_:bs[i]?=FB c) (_: ∀H',aU H H'->Q (.int (eU bs i c:FX)) H'):tu K vs H Q _E
def bH {H:Hp}(h:H p=T5):aU H (aI H p o):=λb u e=>by rw[ac (aj e h)];exact e
def amn (T:aV K mg a) (kS:Ao P w K a.Kv dY):T.d_L.U P w base 3 (tu K):=by
 have G_i:=abt (P:=P) (w:=w) (base:=base) T
 have G_f:=E5 (P:=P) (w:=w) (base:=base) T
 have G_J:=aml (P:=P) (w:=w) (base:=base) T
 have G_K:=amm (P:=P) (w:=w) (base:=base) T;refine T.d_L.F.ok ahu [03] [02];obtain⟨l,bs,i,c,rfl,hS,hc,q⟩:=h
 have hi:i<=bs.length:=Lb (GG.mp hc).1;refine#[_,(ao (b4 (de (aF G_i [06] (by rfl) T.d_i.c aR (aa (cO bC (pv 0) (pv 1) [002]) ag))) (ah (aH (aF G_J [06] (by rfl) T.d_J.c aR (aa (pv 0) (aa (pv 1) ag))))) aY)
   (ao (b4 (de (aF G_f [06] (by rfl) T.d_f.c aR (aa (cO bC (pv 0) (pv 1) [002]) ag))) (ah (aH (aF G_K [06] (by rfl) T.d_K.c aR (aa (pv 0) (aa (pv 1) ag))))) aY)
   (ao (cN (i:=2) ahu.nd Go (Hs Go) (jm gA (by rfl) T.SH M3 (aa (mU rN (pv 0) (jh (pv 1)) (jh (bM dW (pv 1) ak))) ag)))
   (ah (aH (dD (fD (xr (dv hr) (pv 2) (ip (by rfl) T.SG))) (bM dW (pv 1) (br bP (by rfl) T.KW Iy (aa (pv 2) ag))) (bM dW (pv 1) ak))))))),?_]
 refine#[_,_,_,_,Go,Go,hS,bv (fA hc),c,Go,_,Go,aQ [015] λe=>?_]
 .refine#[l,bs,i,Go,hS,hi,?_]
  have z:=q H (aU.refl H);unfold eU at z;rw[FI e] at z;exact z
 .refine#[_,_,_,_,Go,Go,hS,bv (fA hc),c,Go,_,Go,aQ (λe2=>?_) λe2=>?_]
  .refine#[l,bs,i,Go,hS,hi,?_]
   have z:=q H (aU.refl H);unfold eU at z;rw[FF (by rw[e];exact FA),FI e2] at z;exact z
  .refine#[_,Go,_,_,Go,Go,_,Go,_,_,Go,hS,λp hp=>?_]
   refine#[p,_,Go, .inl #[cD.of ae,λt ht=>?_]];have cut:wd (jX bs) (FB (i:Int)) (FB ((i:Int)+2))=jX (part bs i (i+2)):=ot (j:=i+2);rw[cut] at ht ⊢;have sm:aU H (aI (aI H p (.lst (jX (part bs i (i+2))))) t (.tup (jX (part bs i (i+2))))):=(bH hp).trans (bH ht);have z:=q _ sm;unfold eU at z;rw[FF (by rw[e];exact FA),FF (by rw[e2];exact FA)] at z;unfold bw at z;refine#[a.Kv,t,(part bs i (i+2)).map kb,dY,Go,kS,Go,by rw[ae,abv],_,Go,aQ (λe3=>?_) λe3=>?_]
   .rw[jn] at e3
    rw[FI (Gj e3)] at z;refine#[_,_,Go, .inr (qQ.of ae),_,_,Go,Go,?_];rw[fK];exact z
   .rw[jn] at e3
    rw[FF (Gw e3)] at z;exact#[_,_,Go,Go,z]
def jg (bs:Fy) (i e:FX) (c:Jx):Int:=if KI c=FS then(if e-i<=24 then 0 else 4) else if Ii c=FS then(if 18<e-i\/pX bs e=FS then 4 else 1) else if part bs i e∈Hb then 2 else 4
inductive qx (K:FC) (vs:Fx V) (H:Hp) (Q:VK) (_E:XK):Prop
 |mk (l:FG) (bs:Fy) (i e:FX) (c:Jx) (_:vs=[.ref l, .int i, .int e]) (_:cD K H l (jX bs)) (_:bs[i]?=FB c) (_:i<=e) (_:e<=bs.length) (_: ∀H',aU H H'->Q (.int (jg bs i e c)) H'):qx K vs H Q _E
def amo (T:aV K mg a) (kS:Ao P w K a.Kv dY):T.d_M.U P w base 2 (qx K):=by
 have G_i:=abt (P:=P) (w:=w) (base:=base) T
 have G_f:=E5 (P:=P) (w:=w) (base:=base) T;refine T.d_M.F.ok ahv [03] [02];obtain⟨l,bs,i,e,c,rfl,hS,hc,hie,he,q⟩:=h;refine#[_,(ao (b4 (de (aF G_i [06] (by rfl) T.d_i.c aR (aa (cO bC (pv 0) (pv 1) [002]) ag))) (ah (aH (dD (aL dN (bM cv (pv 2) (pv 1)) (aS (by rfl) T.Rr) (aG _)) (aS (by rfl) T.Uw) (aS (by rfl) T.P6)))) aY)
   (ao (b4 (de (aF G_f [06] (by rfl) T.d_f.c aR (aa (cO bC (pv 0) (pv 1) [002]) ag))) (ao (cN (i:=3) ahv.nd Go (Hs Go) (jO (cf io (pv 2) (br bP (by rfl) T.KW Iy (aa (pv 0) ag)) (aG _)) (iK (aF G_i [06] (by rfl) T.d_i.c aR (aa (cO bC (pv 0) (pv 2) [002]) ag)))))
   (ah (aH (dD (tK (de (pv 3)) (ou (aL fS (bM cv (pv 2) (pv 1)) (aS (by rfl) T.Qz) (aG _)))).pt (aS (by rfl) T.P6) (aS (by rfl) T.P5))))) aY)
   (ah (aH (dD (fD (xr (dv hr) (jm gA (by rfl) T.SH M3 (aa (mU rN (pv 0) (jh (pv 1)) (jh (pv 2))) ag)) (ip (by rfl) T.SG))) (aS (by rfl) T.WD) (aS (by rfl) T.P6)))))),?_]
 refine#[_,_,_,_,Go,Go,hS,bv (fA hc),c,Go,_,Go,aQ (λe1=>?_) λe1=>?_]
 .refine#[_,_,Go,Go,_,_,Go,Go,_,Go,?_]
  have z:=q H (aU.refl H);unfold jg at z;rw[FI e1] at z;refine aQ (λe2=>?_) λe2=>?_
  .have:=Gj e2
   rw[FI (by lia)] at z;exact z
  .have:=Gw e2
   rw[FF (by lia)] at z;exact z
 .refine#[_,_,_,_,Go,Go,hS,bv (fA hc),c,Go,_,Go,aQ (λe2=>?_) λe2=>?_]
  .have z:=q H (aU.refl H)
   unfold jg at z;rw[FF (by rw[e1];exact FA),FI e2] at z;have rest: ∀b:GP,pX bs e=b->af6 (tIf (tOr (tB (gc 3)) (pY (DT (vX λi j=> .bl (decide (j<i))) (DT (vX λi j=> .int (i-j)) (gc 2) (gc 1)) (tC (.int 18))))) (tC (.int 4)) (tC (.int 1))) { nx:=λ_ H'=>Q .Jm H',rt:=Q } [FB (.ref l),FB (.int i),FB (.int e),FB (.bl b)] H:=λb hb=>by
    refine#[_,Go,aQ (λe3=>?_) λe3=>?_]
    .rw[FI (.inr (hb.trans e3))] at z
     exact b8 z
    .refine#[_,_,Go,Go,_,_,Go,Go,_,Go,aQ (λe4=>?_) λe4=>?_]
     .have:=Gj e4
      rw[FI (.inl (by lia))] at z;exact z
     .have:=Gw e4
      rw[FF (λy=>y.elim (λy=>by lia) λy=>by rw[hb,e3] at y;cases y)] at z;exact z
   refine#[_,_,Go, .inl hS,_,_,Go,Go,_,Go,?_];rw[fK];refine aQ (λe3=>?_) λe3=>?_
   .have lt:e<bs.length:=by have:=Gj e3;lia
    obtain⟨g,hg⟩: ∃g,bs[e]?=FB g:=#[_,HS lt];refine#[_,_,_,_,Go,Go,hS,bv (fA hg),g,Go,?_];exact rest (KI g) (by unfold pX;rw[hg];rfl)
   .have ge:bs.length<=e:=by have:=Gw e3;lia
    exact rest Gc (by unfold pX;rw[Js ge];rfl)
  .refine#[_,Go,_,Go,_,_,Go,hS,λp hp=>?_]
   refine#[p,_,Go, .inl #[cD.of ae,λt ht=>?_]];rw[ot] at ht ⊢;have sm:aU H (aI (aI H p (.lst (jX (part bs i e)))) t (.tup (jX (part bs i e)))):=(bH hp).trans (bH ht);have z:=q _ sm;unfold jg at z;rw[FF (by rw[e1];exact FA),FF (by rw[e2];exact FA)] at z;refine#[a.Kv,t,(part bs i e).map kb,dY,Go,kS,Go,by rw[ae,abv],_,Go,aQ (λe3=>?_) λe3=>?_]
   .rw[jn] at e3
    rw[FI (Gj e3)] at z;exact z
   .rw[jn] at e3
    rw[FF (Gw e3)] at z;exact z
section
open Vbemac (valueOf)
def rK (l:Fy) (c:Jx):valueOf (l++[c])=10*valueOf l+(c.toNat-48):=by unfold valueOf;rw[Fx.foldl_append];rfl
def Cz (h:Ii c=FS):48<=nb c:=by
 rw[sy,GI] at h;exact Gj h.1
inductive xn (K:FC) (vs:Fx V) (H:Hp) (Q:VK) (_E:XK):Prop
 |mk (l:FG) (u:Fy) (_:vs=[.ref l]) (_:cD K H l (jX u)) (_:(∀c∈u,Ii c=FS)) (_:Q (.int (valueOf u:FX)) H):xn K vs H Q _E
def one (c:Jx):Gf:=#[[c.toNat].toArray]
theorem qA: ∀w:Fy,TL.TB [] (w.map λc=>[c.toNat])=w.map NG
 |[]=>rfl
 |[c]=>rfl
 |c::d::r=>by
  show [c.toNat]++([]++TL.TB [] ((d::r).map λc=>[c.toNat]))=_
  rw[qA (d::r)]
  rfl
def Cl (w:Fy):Vp ("":Gf) (w.map one)=sb w:=by
 rw[TL.join_eq];refine TL.abd ?_;rw[TL.Vb,J9];exact qA w
def B9:Gf:="0123456789:;<=>?@ABCDEFGHIJKLMNOPQRSTUVWXYZ[\\]^_`abcdefghijklmnopqrstuvwxyz"
def zF:B9.length<=GD:=by decide+kernel
def Aw (h:bU c=FS):Al B9.cps.toList (nb c-48)=FB c.toNat:=by
 revert h;exact oZ (p:=λc=>bU c=FS->Al B9.cps.toList (nb c-48)=FB c.toNat) [00] c
inductive C6 (K:FC) (vs:Fx V) (H:Hp) (Q:VK) (_E:XK):Prop
 |mk (k:Int) (l:FG) (u:Fy) (_:vs=[.int k, .ref l]) (_:cD K H l (jX u)) (_:u.length<=3000) (_:((k=0/\(∀c∈u,bU c=FS)/\ ∀H',aU H H'->Q (.str (sb u)) H')\/(k=1/\(∀c∈u,Ii c=FS)/\ ∀H',aU H H'->Q (.int (valueOf u:FX)) H')\/
   (k=2/\u∈Hb/\ ∀H',aU H H'->Q (.str (dJ u)) H')\/(k=4/\ ∀H',aU H H'->Q (.str (sb [])) H'))):C6 K vs H Q _E
def amq (T:aV K mg a):T.d_s.U P w base 1 (xn K):=by
 refine T.d_s.F.ok Eu [03] [02];obtain⟨l,u,rfl,hS,hd,q⟩:=h;refine#[_,(ao (cN (i:=1) Eu.nd Go (Hs Go) ak)
   (ao (ww Mi Go (gt (pv 0)) (fL (i:=2) Eu.nd Go (Hs Go)) (ah (cN (i:=1) Eu.nd Go (Hs Go) (bM cv (bM dW (bM rR (pv 1) ak) (pv 2)) ak))))
   (ah (aH (pv 1))))),?_]
 refine#[l,Go,#[_,hS],sZ (K:=K) (a:=l) (xs:=jX u) (λi σ H'=> ∃v:FP V,σ=[FB (.ref l),FB (.int (valueOf (u.take i):FX)),v]/\H'=H) #[FM,Go,Go] (λi σ H' _ ⟨_,_,e⟩=>by rw[e];exact hS) ?_ ?_]
 .rintro i y σ H' hi ⟨v,rfl,rfl⟩
  obtain⟨c,hc,rfl⟩: ∃c,u[i]?=FB c/\y=V.int (nb c):=by
   unfold jX at hi;rw[GR] at hi;cases e:u[i]? with
   |none=>rw[e] at hi;cases hi
   |some c=>rw[e] at hi;exact#[c,Go,(F4 hi).symm]
  refine#[_,_,Go,Go, .inr #[by decide,by decide],_,_,Go,Go,_,_,Go,Go,FB (.int (nb c)),?_,Go];have g:=Cz (hd c (G8 hc));have e:((valueOf (u.take (i+1)):FX):Int)=(valueOf (u.take i):FX)*10+nb c-48:=by
   rw[J8,hc];show((valueOf (u.take i++[c]):FX):Int)=_;rw[rK];have g':48<=c.toNat:=Int.ofNat_le.mp g;show((10*valueOf (u.take i)+(c.toNat-48):FX):Int)=(valueOf (u.take i):FX)*10+(c.toNat:Int)-48;lia
  rw[e]
  rfl
 .rintro σ H' ⟨v,rfl,rfl⟩
  rw[fK,JQ];exact q
def amr (T:aV K mg a) (kS:Ao P w K a.Kv dY):T.d_t.U P w base 2 (C6 K):=by
 have G_s:=amq (P:=P) (w:=w) (base:=base) T;refine T.d_t.F.ok abn [03] [02];obtain⟨k,l,u,rfl,hS,NX,h⟩:=h;refine#[_,(ao (b4 (aL bS (pv 0) (aS (by rfl) T.Uw) (aG _)) (ah (aH (Er dI (tX Go abn.nd (gt (pv 1)) (own:=[("byte",2)]) (gM (by show sE ["kind","part","byte"] (af s_t) _ [("byte",2)]=FS;decide+kernel)) (λ_ _ _ _ _=>fL (i:=2) abn.nd Go (Hs Go)) (λ_ _ _ _ _=>mL) (λ_ _ _ _ _=>(cO aa2 (agy (by rfl) T.Ux) (bM cv (pv 2) ak) [002])))))) aY)
   (ao (b4 (aL bS (pv 0) (aS (by rfl) T.P5) (aG _)) (ah (aH (aF G_s [06] (by rfl) T.d_s.c aR (aa (pv 1) ag)))) aY)
   (ao (b4 (aL bS (pv 0) (aS (by rfl) T.WD) (aG _)) (ah (aH (CU (dv hr) (ip (by rfl) T.SG) (jm gA (by rfl) T.SH M3 (aa (pv 1) ag)) [002]))) aY)
   (ah (aH dI))))),?_]
 refine [013];rw[cj];rcases h with⟨rfl,hw,q⟩|⟨rfl,hd,q⟩|⟨rfl,hs,q⟩|⟨rfl,q⟩
 .refine b8 ?_
  refine#[#[_,Go],l,Go,#[_,hS],λD hD=>?_];have sm:aU H (aI H D (.lst [])):=bH hD;refine i9 (K:=K) (a:=l) (xs:=jX u) (λi H'=>aU H H'/\H' D=FB (.lst (((u.take i).map one).map V.str))) #[sm,ae] (λi H' _ z=>z.1.seq hS) ?_ ?_
  .rintro i y H' hi ⟨s1,Qn⟩
   obtain⟨c,hc,rfl⟩: ∃c,u[i]?=FB c/\y=V.int (nb c):=by
    unfold jX at hi;rw[GR] at hi;cases e:u[i]? with
    |none=>rw[e] at hi;cases hi
    |some c=>rw[e] at hi;exact#[c,Go,(F4 hi).symm]
   refine#[Go,?_];unfold DC;dsimp only;rw[FI Go];refine#[_,_,Go,Go,_,_,_,Go,Go,zF,Aw (hw c (G8 hc)),_,Qn,?_,?_,?_]
   .have z:=(Fx.length_take_le i u)
    rw[FT,FT];refine GF (J7 i u) ?_;exact GF NX [01]
   .exact λb o e=>by rw[ac (aj e hD)];exact s1 b o e
   .rw[ae,J8,hc]
    show FB (HO.lst (((u.take i).map one).map V.str++[V.str #[[c.toNat].toArray]]))=FB (HO.lst (((u.take i++[c]).map one).map V.str))
    rw[Hk,Hk]
    rfl
  .rintro H' ⟨s1,Qn⟩
   rw[fK,JQ] at Qn;refine#[_,D,u.map one,Go,Go, .inl (cD.of Qn),?_,?_]
   .have e:((u.map one).map (·.length)).sum=u.length:=by
     rw[J9];clear hS NX hw q Qn s1 sm
     induction u with
     |nil=>rfl
     |cons c r ih=>rw[Ge,ZD,ih,FW];show 1+r.length=_;lia
    rw[e];show u.length+(u.map one).length*0<=16777216;lia
   .rw[Cl]
    exact q H' s1
 .refine bG [013]
  rw[cj];exact b8 #[l,u,Go,hS,hd,q H (aU.refl H)]
 .refine bG [013]
  rw[cj];refine bG [013];rw[cj];refine b8 #[l,_,Go, .inl #[hS,λt ht=>?_]];refine#[a.Kv,t,u.map kb,dY,_,Go,kS,Go,by rw[ae,abv],(by rw[sA,FI hs]),q _ (bH ht)]
 .refine bG [013]
  rw[cj];refine bG [013];rw[cj];exact bG (q H (aU.refl H))
end
section
open Vbemac (valueOf)
def CT (k v l c:V):Fx (Gf×V):=ID "column" c (ID "line" l (ID "value" v (ID "kind" k [])))
def ir:Ha->Int
 | .word _=>0
 | .num _=>1
 | .sign _=>2
 | .eof=>3
 | .bad=>4
def iy:Ha->V
 | .word u=> .str (sb u)
 | .num n=> .int (n:FX)
 | .sign u=> .str (dJ u)
 | .eof=> .str (sb [])
 | .bad=> .str (sb [])
inductive fO (C:FG) (H:Hp) (p:FG) (x:Ha×GS):Prop
 |mk (dx:FG) (_:H p=FB (.ins C dx (CT (.int (ir x.1)) (iy x.1) (.int (x.2.1:FX)) (.int (x.2.2:FX))))):fO C H p x
inductive YT (C:FG) (vs:Fx V) (H:Hp) (Q:VK) (_E:XK):Prop
 |mk (p dx:FG) (k v l c:V) (_:vs=[.ref p,k,v,l,c]) (_:H p=FB (.ins C dx [])) (_: ∀H':Hp,H' p=FB (.ins C dx (CT k v l c))->(∀b o,H b=FB o->b≠p->H' b=FB o)->Q .Jm H'):YT C vs H Q _E
def Bu (c:Jx):uL (.int (nb c)) [.int 9, .int 10, .int 13, .int 32]=SW c:=oZ (p:=λc=>uL (.int (nb c)) [.int 9, .int 10, .int 13, .int 32]=SW c) [00] c
inductive CO (K:FC) (C:FG) (vs:Fx V) (H:Hp) (Q:VK) (_E:XK):Prop
 |mk (l:FG) (bs:Fy) (_:vs=[.ref l]) (_:cD K H l (jX bs)) (_:bs.length<=3000) (_: ∀(H':Hp) (q:FG) (as:Fx FG),aU H H'->H q=T5->H' q=FB (.lst (as.map V.ref))->Paired (fO C H') as (Hr bs)->Q (.ref q) H'):CO K C vs H Q _E
def fO.keep {H H':Hp}(h:fO C H p x) (k: ∀b o,H b=FB o->(∀xs,o≠ .lst xs)->H' b=FB o):fO C H' p x:=by
 obtain⟨dx,e⟩:=h;exact#[dx,k _ _ e λxs z=>nomatch z]
theorem e9 {α β:Type}{F:α->β->Prop} : ∀ {l:Fx α}{m:Fx β}{x:α}{y:β},Paired F l m->F x y->Paired F (l++[x]) (m++[y])
 |_,_,_,_, .nil,h=> .cons h .nil
 |_,_,_,_, .cons r t,h=> .cons r (e9 t h)
def YU (k:Int) (u:Fy) (v:V):Prop:=(k=0/\(∀c∈u,bU c=FS)/\v= .str (sb u))\/(k=1/\(∀c∈u,Ii c=FS)/\v= .int (valueOf u:FX))\/(k=2/\u∈Hb/\v= .str (dJ u))\/(k=4/\v= .str (sb []))
def qL (h:KI c=FS):bU c=FS:=by unfold bU;rw[h];rfl
def CQ {p:Jx->GP} :i<=a7 p bs i:=by unfold a7;lia
def o5 {p:Jx->GP}(h:bs[i]?=FB c) (hp:p c=FS):i<a7 p bs i:=by
 rw[kL h hp];exact CQ
def so {p:Jx->GP} : ∀c∈part bs i (a7 p bs i),p c=FS:=by
 rw[<-ka];exact rp _
def mi:(part bs i j).length<=bs.length-i:=by
 unfold part;rw[Q7,Mr];lia
def nh (h:bs[i]?=FB c):i<bw bs i/\bw bs i<=bs.length:=by
 obtain⟨hi,_⟩:=GG.mp h;have l1:0<(part bs i (i+2)).length:=by unfold part;rw[Iw,e6 h];exact FX.succ_pos _
 have l2:=mi (bs:=bs) (i:=i) (j:=i+2);unfold bw;split<;>lia
def Bb (h:bs[i]?=FB c) (hb:SW c=Gc) (Qm: ¬c=35):i<eU bs i c/\eU bs i c<=bs.length/\ ∃y:Ha,jg bs i (eU bs i c) c=ir y/\YU (ir y) (part bs i (eU bs i c)) (iy y)/\
  ∀k q,PF (k+1) q (bs.drop i)=if ir y=4 then [(y,q)] else(y,q)::PF k (q.1,q.2+(eU bs i c-i)) (bs.drop (eU bs i c)):=by
 obtain⟨hi,_⟩:=GG.mp h;unfold eU jg;cases hl:KI c with
 |true=>
  rw[FI Go,FI Go];refine#[o5 h (qL hl),oM (Lb hi),?_];by_cases g:a7 bU bs i-i<=24
  .refine#[.word (part bs i (a7 bU bs i)),FI g, .inl #[Go,so,Go],λk q=>?_]
   rw[kE h hb Qm hl,FF (by lia)];exact(FF (by show¬(0:Int)=4;decide)).symm
  .refine#[.bad,FF g, .inr (.inr (.inr #[Go,Go])),λk q=>?_]
   rw[kE h hb Qm hl,FI (by lia)];exact(FI Go).symm
 |false=>
  rw[FF FA,FF FA];cases hd:Ii c with
  |true=>
   rw[FI Go,FI Go];refine#[o5 h hd,oM (Lb hi),?_];by_cases g:18<a7 Ii bs i-i\/pX bs (a7 Ii bs i)=FS
   .refine#[.bad,FI g, .inr (.inr (.inr #[Go,Go])),λk q=>?_]
    rw[mG h hb Qm hl hd,FI g];exact(FI Go).symm
   .refine#[.num (valueOf (part bs i (a7 Ii bs i))),FF g, .inr (.inl #[Go,so,Go]),λk q=>?_]
    rw[mG h hb Qm hl hd,FF g];exact(FF (by show¬(1:Int)=4;decide)).symm
  |false=>
   rw[FF FA,FF FA];refine#[(nh h).1,(nh h).2,?_];by_cases g:part bs i (bw bs i)∈Hb
   .refine#[.sign (part bs i (bw bs i)),FI g, .inr (.inr (.inl #[Go,g,Go])),λk q=>?_]
    rw[kO h hb Qm hl hd,FI g];exact(FF (by show¬(2:Int)=4;decide)).symm
   .refine#[.bad,FF g, .inr (.inr (.inr #[Go,Go])),λk q=>?_]
    rw[kO h hb Qm hl hd,FF g];exact(FI Go).symm
def YV (h:nb c=nb d):c=d:=Rh.mp (LZ h)
def sj:(as++[x]).map V.ref=as.map V.ref++[V.ref x]:=by rw[Hk];rfl
def BG {K:FC}{H:Hp}{Q:VK}{E:XK}(ok:YU k u v) (hS:cD K H l (jX u)) (hl:u.length<=3000) (q: ∀H',aU H H'->Q v H'):C6 K [.int k, .ref l] H Q E:=by
 refine#[k,l,u,Go,hS,hl,?_];rcases ok with⟨h,g,rfl⟩|⟨h,g,rfl⟩|⟨h,g,rfl⟩|⟨h,rfl⟩
 .exact .inl #[h,g,q]
 .exact .inr (.inl #[h,g,q])
 .exact .inr (.inr (.inl #[h,g,q]))
 .exact .inr (.inr (.inr #[h,q]))
def pi (T:aV K mg a):T.d_H.U P w mg base 1 (YT a.JF):=by
 refine T.d_H.F.ok al5 [03] [02];obtain⟨p,dx,k,v,l,c,rfl,hp,q⟩:=h;refine#[_,(ao (b5 (pv 0) (pv 1) Go)
   (ao (b5 (pv 0) (pv 2) Go)
   (ao (b5 (pv 0) (pv 3) Go)
   (ah (b5 (pv 0) (pv 4) Go))))),?_]
 have l1:(ID "kind" k []).length<1000:=GF (cV "kind" k []) [01]
 have l2:(ID "value" v (ID "kind" k [])).length<1000:=GF (F7 (cV "value" v _) (Ic (cV "kind" k []))) [01]
 have l3:(ID "line" l (ID "value" v (ID "kind" k []))).length<1000:=GF (F7 (cV "line" l _) (Ic (F7 (cV "value" v _) (Ic (cV "kind" k []))))) [01];refine#[p,_,dx,_,Go,hp,T.Jg,T.KD,(by show 0<1000;decide),?_];refine#[p,_,dx,_,Go,ae,T.Jg,T.JP,l1,?_];refine#[p,_,dx,_,Go,ae,T.Jg,T.NF,l2,?_];refine#[p,_,dx,_,Go,ae,T.Jg,T.My,l3,?_];refine q _ ae λb o e hb=>?_
 rw[ac hb,ac hb,ac hb,ac hb];exact e
structure ah5 (C:FG) (bs:Fy) (q:FG) (H H':Hp) (i ln ls:FX) (as:Fx FG):Prop where
 sm:aU H H'
 lst:H' q=FB (.lst (as.map V.ref))
 ah6:i<=bs.length
 ah7:ls<=i
 rest: ∃(ts:FD) (k:FX),Paired (fO C H') as ts/\bs.length<i+k/\Hr bs=ts++PF k (ln,i-ls+1) (bs.drop i)/\as.length<=i
def xg {H5 H6:Hp}(hx:H6 x=FB (.ins C dx (CT (.int (ir y.1)) (iy y.1) (.int (y.2.1:FX)) (.int (y.2.2:FX)))))
  (k: ∀b o,H5 b=FB o->H6 b=FB o) (p:Paired (fO C H5) as ts) (nq:x≠q) (hq:H6 q=FB (.lst (as.map V.ref))):
  Paired (fO C (aI H6 q (.lst ((as++[x]).map V.ref)))) (as++[x]) (ts++[y]):=by
 refine e9 (Paired.NV p λb z h=>?_) #[dx,by rw[ac nq];exact hx];refine fO.keep h λb' o e no=>?_;have ne:b'≠q:=λz=>by
  have w1:=k _ _ e;rw[z,hq] at w1;exact no _ (F4 w1).symm
 rw[ac ne];exact k _ _ e
def ams (T:aV K mg a) (kS:Ao P w K a.Kv dY):T.d_j.U P w base 4 (CO K a.JF):=by
 have G_I:=amk (P:=P) (w:=w) (base:=base) T
 have G_L:=amn (P:=P) (w:=w) (base:=base) T kS
 have G_M:=amo (P:=P) (w:=w) (base:=base) T kS
 have G_t:=amr (P:=P) (w:=w) (base:=base) T kS
 have G_H:=pi (P:=P) (w:=w) (base:=base) T;refine T.d_j.F.ok mw [03] [02];obtain⟨l,bs,rfl,hS,NX,hQ⟩:=h;refine#[_,(ao (cN (i:=1) mw.nd Go (Hs Go) (iQ ag))
   (ao (cN (i:=2) mw.nd Go (Hs Go) ak)
   (ao (cN (i:=3) mw.nd Go (Hs Go) ak)
   (ao (cN (i:=4) mw.nd Go (Hs Go) ak)
   (ao (iV Mi (aL io (pv 4) (br bP (by rfl) T.KW Iy (aa (pv 0) ag)) (aG _)) (ah (b4 (aL kY (cO bC (pv 0) (pv 4) [002]) (ip (by rfl) T.WE) Go) (ao (lF (i:=4) mw.nd Go (Hs Go) ak lM)
   (ah (b4 (aL bS (cO bC (pv 0) (bM cv (pv 4) ak) [002]) (aS (by rfl) T.QX) (aG _)) (ao (lF (i:=2) mw.nd Go (Hs Go) ak lM)
   (ah (cN (i:=3) mw.nd Go (Hs Go) (pv 4)))) aY))) (ah (b4 (aL bS (cO bC (pv 0) (pv 4) [002]) (aS (by rfl) T.Vz) (aG _)) (ah (cN (i:=4) mw.nd Go (Hs Go) (aF G_I [06] (by rfl) T.d_I.c aR (aa (pv 0) (aa (pv 4) ag))))) (ao (cN (i:=5) mw.nd Go (Hs Go) (aF G_L [06] (by rfl) T.d_L.c aR (aa (pv 0) (aa (pv 4) ag))))
   (ao (cN (i:=6) mw.nd Go (Hs Go) (aF G_M [06] (by rfl) T.d_M.c aR (aa (pv 0) (aa (pv 4) (aa (pv 5) ag)))))
   (ao (bf (xX JD K9 La i8 (pv 1) (aa (h9 T.Tp G_H [06] (by rfl) T.Ti T.d_H.c.b .nil aR (aa (pv 6) (aa (aF G_t [06] (by rfl) T.d_t.c aR (aa (pv 6) (aa (mU rN (pv 0) (jh (pv 4)) (jh (pv 5))) ag))) (aa (pv 2) (aa (bM dW (bM cv (pv 4) (pv 3)) ak) ag))))) ag)))
   (ao (b4 (aL bS (pv 6) (aS (by rfl) T.P6) (aG _)) (ah (aH (pv 1))) aY)
   (ah (cN (i:=4) mw.nd Go (Hs Go) (pv 5))))))))))))
   (ao (bf (xX JD K9 La i8 (pv 1) (aa (h9 T.Tp G_H [06] (by rfl) T.Ti T.d_H.c.b .nil aR (aa (aS (by rfl) T.Yy) (aa dI (aa (pv 2) (aa (bM dW (bM cv (pv 4) (pv 3)) ak) ag))))) ag)))
   (ah (aH (pv 1))))))))),?_]
 refine#[Gn _,λq hq=>#[λm σ H'=> ∃(i ln ls:FX) (as:Fx FG) (v5 v6:FP V),m=bs.length-i/\σ=[FB (.ref l),FB (.ref q),FB (.int ln),FB (.int ls),FB (.int i),v5,v6]/\ah5 a.JF bs q H H' i ln ls as,#[_,0,1,0,[],FM,FM,Go,Go,#[bH hq,ae,Gn _,F5 _,[],bs.length+1, .nil,by lia,Go,F5 _]],?_]];rintro m σ H1 ⟨i,ln,ls,as,v5,v6,rfl,rfl,M⟩;have YW:=M.sm.seq hS;obtain⟨ts,k,pr,hk,tk,asl⟩:=M.rest;have ile:=M.ah6;have amt:=M.ah7;obtain⟨k,rfl⟩: ∃k',k=k'+1:=#[k-1,by lia];have ec:(i:Int)-(ls:Int)+1=((i-ls+1:FX):Int):=by lia
 refine#[_,_,Go, .inl YW,_,_,Go,Go,_,Go,?_];rw[fK];rw[05]
 .have lt:i<bs.length:=by have:=Gj e;lia
  obtain⟨c,hc⟩: ∃c,bs[i]?=FB c:=#[_,HS lt];refine#[λσ' SY=> ∃(i' ln' ls':FX) (as':Fx FG) (v5' v6':FP V),i<i'/\σ'=[FB (.ref l),FB (.ref q),FB (.int ln'),FB (.int ls'),FB (.int i'),v5',v6']/\ah5 a.JF bs q H SY i' ln' ls' as',?_,?_]
  .rintro σ' SY ⟨i',ln',ls',as',v5',v6',lt',rfl,M'⟩
   have:=M'.ah6;exact#[_,by lia,i',ln',ls',as',v5',v6',Go,Go,M']
  refine#[_,_,_,_,Go,Go,YW,bv (fA hc),_,_,Go, .inr T.WG.sq,Go,Go,_,Go,?_];show if uL (.int (nb c)) [.int 9, .int 10, .int 13, .int 32]=FS then _ else _
  rw[Bu];refine aQ (λhb=>?_) λhb=>?_
  .refine#[_,Go,_,_,Go,Go,?_]
   refine#[_,_,Go,Go,_,_,_,V.int (nb c),Go,Go,YW,(by rw[Int.add_sub_cancel];exact bv (fA hc)),Go,_,Go,?_];rw[cj];have lx:=lQ (k:=k) (q:=(ln,i-ls+1)) hc hb;refine aQ (λh10=>?_) λh10=>?_
   .have c10:c=10:=YV (Gj h10)
    refine#[_,Go,_,_,Go,Go,i+1,ln+1,i+1,as,v5,v6,Ib i,Go,#[M.sm,M.lst,lt,F5 _,ts,k,pr,by lia,?_,by lia]];rw[tk,lx,c10,Q1]
    rfl
   .have c10: ¬c=10:=λz=>F6 (by rw[z];rfl) (Gw h10)
    refine#[i+1,ln,ls,as,v5,v6,Ib i,Go,#[M.sm,M.lst,lt,NZ amt,ts,k,pr,by lia,?_,by lia]];rw[tk,lx,show i+1-ls+1=i-ls+1+1 by lia];unfold Vbemac.advance;rw[FF c10]
  .refine#[_,_,_,_,Go,Go,YW,bv (fA hc),Go,_,Go,?_]
   rw[cj];refine aQ (λQm=>?_) λQm=>?_
   .have c35:c=35:=YV (Gj Qm)
    have g:i<a7 eT bs i:=o5 hc (by rw[c35];rfl)
    have g2:a7 eT bs i<=bs.length:=oM ile;refine#[l,bs,i,Go,YW,ile,a7 eT bs i,ln,ls,as,v5,v6,g,Go,#[M.sm,M.lst,g2,by lia,ts,k,pr,by lia,?_,by lia]];rw[tk,iD hc hb c35]
    show ts++PF k (ln,i-ls+1+(a7 eT bs i-i)) _=_
    rw[show i-ls+1+(a7 eT bs i-i)=a7 eT bs i-ls+1 by lia]
   .have c35: ¬c=35:=λz=>F6 (by rw[z];rfl) (Gw Qm)
    obtain⟨g,g2,y,ky,vy,lx⟩:=Bb hc hb c35;have lx:=lx k (ln,i-ls+1);refine#[l,bs,i,c,Go,YW,hc,λH2 s2=>?_];refine#[l,bs,i,eU bs i c,c,Go,s2.seq YW,hc,Lb g,g2,λH3 s3=>?_];rw[ky];generalize eU bs i c=en at g g2 vy lx ky ⊢;have s13:aU H1 H3:=s2.trans s3;have hS3:=s13.seq YW;refine#[.inl #[Go,_,cD.of (s13 _ _ M.lst)],?_];refine#[_,Go,_,Go,_,_,Go,hS3,λp hp=>?_];rw[ot];refine BG vy (cD.of ae) ?_ λH4 s4=>?_
    .have:=mi (bs:=bs) (i:=i) (j:=en)
     lia
    have s14:aU H1 H4:=s13.trans ((bH hp).trans s4);refine#[_,_,Go,Go,_,_,Go,Go,λx dx hx VA ne=>#[x,dx,_,_,_,_,Go,ae,λH5 h5 k5=>#[Go,?_]]]
    have h5:H5 x=FB (.ins a.JF dx (CT (.int (ir y)) (iy y) (.int (ln:FX)) (.int ((i-ls+1:FX):Int)))):=by rw[<-ec];exact h5
    have s15:aU H1 H5:=λb o e=>k5 b o (by rw[ac (aj (s14 b o e) hx),ac (aj (s14 b o e) VA)];exact s14 b o e) (aj (s14 b o e) hx)
    have nq:x≠q:=(aj (s14 _ _ M.lst) hx).symm
    have q5:=s15 _ _ M.lst
    have pn:=xg (y:=(y,ln,i-ls+1)) h5 s15 pr nq q5
    have sm5:aU H (aI H5 q (.lst ((as++[x]).map V.ref))):=λb o e=>by rw[ac (aj e hq)];exact s15 b o (M.sm b o e)
    refine#[q,_,_,Go,Go,q5,by rw[FT];exact GF (F7 asl (F7 ile NX)) [01],?_];rw[<-sj];refine [013];rw[cj];refine aQ (λk4=>?_) λk4=>?_
    .rw[FI (Gj k4)] at lx
     refine(hQ _ q (as++[x]) sm5 hq ae ?_);rw[tk,lx];exact pn
    .rw[FF (Gw k4)] at lx
     refine#[en,ln,ls,as++[x],_,_,g,Go,#[sm5,ae,g2,by lia,ts++[(y,ln,i-ls+1)],k,pn,by lia,?_,by rw[Gb,JT];lia]];rw[tk,lx,G9];show ts++(y,ln,i-ls+1)::PF k (ln,i-ls+1+(en-i)) _=_;rw[show i-ls+1+(en-i)=en-ls+1 by lia]
     rfl
 .have lx:=EC (k:=k) (q:=(ln,i-ls+1)) (bs:=bs) (i:=i) (by have:=Gw e;lia)
  refine#[.inl #[Go,_,cD.of M.lst],?_];refine#[_,_,Go,Go,_,_,Go,Go,λx dx hx VA ne=>#[x,dx,_,_,_,_,Go,ae,λH5 h5 k5=>#[Go,?_]]];have h5:H5 x=FB (.ins a.JF dx (CT (.int (ir .eof)) (iy .eof) (.int (ln:FX)) (.int ((i-ls+1:FX):Int)))):=by rw[<-ec];exact h5
  have s15:aU H1 H5:=λb o e=>k5 b o (by rw[ac (aj e hx),ac (aj e VA)];exact e) (aj e hx)
  have nq:x≠q:=(aj M.lst hx).symm
  have q5:=s15 _ _ M.lst
  have pn:=xg (y:=(.eof,ln,i-ls+1)) h5 s15 pr nq q5
  have sm5:aU H (aI H5 q (.lst ((as++[x]).map V.ref))):=λb o e=>by rw[ac (aj e hq)];exact s15 b o (M.sm b o e)
  refine#[q,_,_,Go,Go,q5,by rw[FT];exact GF (F7 asl (F7 ile NX)) [01],?_];rw[<-sj];refine(hQ _ q (as++[x]) sm5 hq ae ?_);rw[tk,lx];exact pn
end
def D8 (K:FC):VT K (.type "Exception") (.type "type") "__init__"=FB (.val (.builtin "Exception.__init__")):=by kernel_rfl
def abw:typeOf (.type "Exception")=pure (.type "type"):=by kernel_rfl
def Dk:Manifest.isStub "Exception"=Gc:=by decide+kernel
def Cn:LC "Exception"=FB (.type "Exception"):=by decide+kernel
def abx {H:Hp}{a:FG}(h:H a=FB o):aI H a o=H:=by
 funext b
 by_cases e:b=a
 .rw[e,ae,h]
 .exact ac e
def BW (C:FG) (i:FX):TS:=λD σ H=> ∃p,σ[i]?=FB (FB (.ref p))/\H p=FB (qT C p)/\D.nx σ H
def vt (XC:dq X.K R C fI) (hg:Gl X "Exception") (hm:X.mg "Exception"=FM) (hx:PE X (.Name x p2) (gc i))
  (KN:F9 [.Name x p2] X.env=[(Gc,eval (.Name x p2) X.env)]:=by rfl) (hs:KG (.Call (.Attribute (.Name "Exception" p1) "__init__" LJ) [.Name x p2] [] Md) FM pos.line X.env=pure Gc:=by rfl)
  {pl:Sem GP}(ht:eval (.Call (.Attribute (.Name "Exception" p1) "__init__" LJ) [.Name x p2] [] Md) X.env=(do
   let ov<-eval (.Name "Exception" p1) X.env
   standAt LJ.atName
   let (f,first)<-holding [ov] (LG ov "__init__" pl)
   N7 Md f first (Jr Md (F9 [.Name x p2] X.env)) (Ln Md (JJ [] X.env))):=by rfl):
  PS X (.Expr (.Call (.Attribute (.Name "Exception" p1) "__init__" LJ) [.Name x p2] [] Md) pos) (BW C i):=by
 rw[04];obtain⟨p,hp,hH,hD⟩:=h;refine wpAny_Expr_any ?_ I.quiet hs;refine LV (pl:=pl) (lS I hg hm Cn ?_) ht;obtain⟨m,Fr⟩:=I.fr;refine PySem.W.method_type Fr I.mod.VW abw Dk (D8 X.K) Go ?_;have I0:aE X pins σ H { s with toks:=s.toks+1 } :=I.tok _;refine OY (e:= .Name x p2) (rest:=[]) ?_ (by rw[KN];rfl) Go;rw[KN];refine LD (cc (hx pins _ σ H (λv H'=>v= .ref p/\H'=H) I0 (nj #[Go,Go] hp)) λu s1 z=>?_);obtain⟨v,H',I1,rv,e1,e2⟩:=z;subst e1 e2;cases rv;refine LU ?_;obtain⟨h1,g1,d1,t1,WN⟩:=s1;obtain⟨⟨T,hT⟩,_⟩:=I1.IQ _ _ hH;obtain⟨Nn,mN,oI,NR,mR,⟨nm,q,bs,sn,sub,ab,col,dd,k0,k1,k2,k3,k5,hC⟩,_⟩:=XC.at_ h1 I1.NW;refine Rg (Aa RD agx hC hT ?_);have gx:((h1.push (eP [])).update p (IT (·.setIfInBounds 0 (.ref h1.objs.size)))).get? p=FB (dj C h1.objs.size):=
  JU _ (FY _ hT) Go
 have J:aE X pins σ (aI H' p (qT C p)) ⟨(h1.push (eP [])).update p (IT (·.setIfInBounds 0 (.ref h1.objs.size))),g1,d1,t1,WN⟩:=
  I1.write (x:=p) (e:=p) (t':=t1) (by rw[hH];exact HD) (.inl Go) (λb u hb z=>by rw[Hz _ _ (Jf hb)];exact FY _ z) #[_,gx]
   #[#[_,gx],#[_,gx],λ_ _ ⟨T,z⟩ y=>#[T,y _ z]]
 rw[abx hH] at J;exact#[σ,H',J,hD]
section
variable {CX:qG}{sp:Sp}{E:XK}
def eF (hg:Gl X x) (hm:X.mg x=FB (.ref R)) (c:Dj X.K R m f) (F:bW X.prog X.w X.K X.mg X.base CX k f fd ps sp) (hr:bZ k X.A) (hb:gm X.K fd ps ds) (hd:a8 R7 ds) (hx:dn CX X E) (ha:PA X (e::es) t)
  (SJ:(x == [003])=Gc:=by decide) (KN:F9 (e::es) X.env=[001]::F9 es X.env:=by rfl) (Ng:(Jr pos (F9 es X.env)).any (·.1)=Gc:=by rfl)
  (ht:eval (.Call (.Attribute (.Name x p1) m LJ) (e::es) [] pos) X.env=(do
   let ov<-eval (.Name x p1) X.env
   standAt LJ.atName
   let (f,first)<-holding [ov] (LG ov m pl)
   N7 pos f first (Jr pos (F9 (e::es) X.env)) (Ln pos (JJ [] X.env))):=by rfl):
  PE X (.Call (.Attribute (.Name x p1) m LJ) (e::es) [] pos) (A3 sp R7 E t):=by
 rw[01];refine LV (pl:=pl) (gv I hg hm ?_ SJ) ht;obtain⟨mm,Fr⟩:=I.fr;refine PySem.W.method_of_cls Fr I.mod.VW c.sp (PySem.W.cls_val Fr I.mod.VW c.ty c.rd c.fc Go ?_);have I0:aE X pins σ H { s with toks:=s.toks+1 } :=I.tok _;refine Lm (first:=[]) (h₀:=X.base) I.ok.mod.VW c.kp (cc (ha pos pins _ σ H _ I0 h) λus s1 ⟨vs,H1,I1,r,q⟩=>#[I1.NW,?_]) KN Ng
 exact ra F hr hb hd hx I1 r q
end
def jf:("__setattr__":Gf)∈cZ:=by decide+kernel
def qa:("__getattribute__":Gf)∈cZ:=by decide+kernel
def m9:("__getattr__":Gf)∈cZ:=by decide+kernel
def XAt.la {R C fI:FG}{B:String}{y:FP FE}(X:XAt h R C fI) (m:mroOf (.type B)=pure db) (q:n∈cZ) (l:Ir (.type B) n=pure y):LA h (.ref R::db) n y:=by
 obtain⟨_,_,_,_,_,_,_,_,_,_,_,⟨_,_,_,_,_,_,_,_,_,_,_,_,_,hR⟩,nR,qR⟩:=X;exact LA.own hR nR (qR n q) (LA.of m l)
section
variable {X:Cx}{pins:Fx (FG×Jp)}{σ:St}{H:Hp}{s:FJ}{R C fI p d:FG}{f:Gf}{y:V}{u:FE}{A:Hm}{E:FE->FJ->Prop}{Q:Nc->FJ->Prop}{fs:Fx (Gf×V)}{sa owner B:String}
def lB {mA:Gf->FP FE}(n:h.Ns1 d mA) (r: ∀g,fX (fs.lookup g) (mA g)) (wi:Om mA (fs.map (·.1))):cx X.prog X.w H h d (cn d fs):=by
 obtain⟨o,es,ep,e,z⟩:=id n;exact#[#[mA,n,r,wi],#[o,e],λh1 h2 ⟨m,n1,q1⟩ k=>#[m,n1.at k,q1]]
def Ap (XC:dq X.K R C fI) (SF:MT B db sa owner) (hf:f∈cZ) (hB:Ir (.type B) f=pure FM) (I:aE X pins σ H s) (e:H p=FB (qT C p)) (ry:bo y u)
  (h: ∀d s',H d=FM->aE X pins σ (aI (aI H d (cn d [(f,y)])) p (jZ C d p)) s'->Q () s'):Gk (model X.prog X.w) A (TU (.ref p) f u) Q E s:=by
 have XA:=XC.at_ _ I.NW;obtain⟨⟨T,hT⟩,_⟩:=I.IQ _ _ e;obtain⟨h1,g1,d1,t1,WN⟩:=s;obtain⟨Nn,mN,oI,NR,mR,⟨nm,q,bs,sn,sub,ab,col,dd,k0,k1,k2,k3,k5,hC⟩,VX,X3,Xd,_⟩:=id XA;refine wJ SF hC VX (Xd _ jf) (XA.la SF.mro jf SF.slot.lookup) hT Go λtk t=>Dq SF hC VX (Xd _ hf) (XA.la SF.mro hf hB) hT Go Go Go λh' UC k kx kn=>#[Go,?_]
 have fr:H h1.objs.size=FM:=I.IQ.fresh (F5 _)
 have np:h1.objs.size≠p:=λz=>by rw[z,e] at fr;cases fr
 refine h h1.objs.size _ fr ?_;have gd:(h1.push { cls:= .type "dict",data:= .dict [].toArray }).get? h1.objs.size=FB { cls:= .type "dict",data:= .dict [].toArray } :=Hx _ Go;have n0:(h1.push { cls:= .type "dict",data:= .dict [].toArray }).Ns h1.objs.size (λ_=>FM):=#[_, [].toArray,_,gd,Go,(λe he=>F6 he (by simp)),λ_=>rfl]
 have I1:aE X pins σ (aI H h1.objs.size (cn h1.objs.size [])) ⟨h1.push { cls:= .type "dict",data:= .dict [].toArray },g1,d1,UC,WN⟩:=
  I.laid (t':=UC) (λb u z=>FY _ z) (F5 _) (lB (PB n0) (λ_=>HD) λg hg=>F6 Go hg)
 have WO:(h1.push { cls:= .type "dict",data:= .dict [].toArray }).get? p=FB (dj C T):=FY _ hT
 have gp:((h1.push { cls:= .type "dict",data:= .dict [].toArray }).update p λo=> { o with dict:=FB h1.objs.size }).get? p=FB { dj C T with dict:=FB h1.objs.size } :=JU _ WO Go
 have I2:aE X pins σ (aI (aI H h1.objs.size (cn h1.objs.size [])) p (jZ C h1.objs.size p)) ⟨(h1.push { cls:= .type "dict",data:= .dict [].toArray }).update p λo=> { o with dict:=FB h1.objs.size },g1,d1,UC,WN⟩:=
  I1.write (x:=p) (e:=p) (t':=UC) (by rw[ac np.symm,e];exact HD) (.inl Go) (λb u hb z=>by rw[Hz _ _ (Jf hb)];exact z) #[_,gp]
   #[#[_,_,gp,Go,Go,Go,Go],#[_,gp],λ_ _ ⟨o,vs,z,r⟩ k=>#[o,vs,k _ z,r]]
 obtain⟨od,_,_,hod,_⟩:=id kn;have I3:aE X pins σ (aI (aI (aI H h1.objs.size (cn h1.objs.size [])) p (jZ C h1.objs.size p)) h1.objs.size (cn h1.objs.size [(f,y)])) ⟨h',g1,d1,UC,WN⟩:=by
  refine I2.write (x:=h1.objs.size) (e:=h1.objs.size) (t':=UC) (by rw[ac np,ae];exact HD) (.inl Go) (λb v hb z=>?_) #[_,hod] (lB kn (λg=>?_) λg hg=>?_)
  .by_cases bp:b=p
   .rw[bp] at z ⊢
    rw[gp] at z;rw[kx,<-z]
   .rw[Hz _ _ (Jf bp)] at z
    refine k b v bp ?_;rcases Ho.get?_push_cases z with⟨z1,_⟩|z1
    .exact F6 z1 hb
    .exact z1
  .show fX (JO g [(f,y)]) (if g=f then FB u else FM)
   by_cases gf:g=f
   .rw[gf,FI Go]
    simp only[JO,Ht];exact ry
   .rw[FF gf,JO,show(g == f)=Gc from beq_eq_false_iff_ne.mpr gf]
    exact HD
  .by_cases gf:g=f
   .rw[gf];exact FL
   .exact F6 (FF gf) hg
 have eH:aI (aI (aI H h1.objs.size (cn h1.objs.size [])) p (jZ C h1.objs.size p)) h1.objs.size (cn h1.objs.size [(f,y)])=aI (aI H h1.objs.size (cn h1.objs.size [(f,y)])) p (jZ C h1.objs.size p):=by
  funext b
  by_cases b1:b=h1.objs.size
  .rw[b1,ae,ac np,ae]
  .by_cases b2:b=p
   .rw[b2,ac np.symm,ae,ae]
   .rw[ac b1,ac b2,ac b1,ac b2,ac b1]
 rw[eH] at I3;exact I3
def Bx (XC:dq X.K R C fI) (SF:MT B db sa owner) (hf:f∈cZ) (hB:Ir (.type B) f=pure FM) (I:aE X pins σ H s) (e:H p=FB (jZ C d p)) (ed:H d=FB (cn d fs)) (hl:fs.length<1000) (ry:bo y u)
  (h: ∀s',aE X pins σ (aI H d (cn d (ID f y fs))) s'->Q () s'):Gk (model X.prog X.w) A (TU (.ref p) f u) Q E s:=by
 have XA:=XC.at_ _ I.NW;obtain⟨⟨o,vs,x1,x2,x3,x4,x5⟩,_⟩:=I.IQ _ _ e;obtain⟨⟨mA,n,r,wi⟩,_⟩:=I.IQ _ _ ed;obtain⟨h1,g1,d1,t1,WN⟩:=s;obtain⟨Nn,mN,oI,NR,mR,⟨nm,q,bs,sn,sub,ab,col,dd,k0,k1,k2,k3,k5,hC⟩,VX,X3,Xd,_⟩:=id XA
 have dp:d≠p:=λz=>by
  obtain⟨o',es,ep,z1,z2,_⟩:=n;rw[z,x1] at z1;have y:=F4 z1;rw[<-y,x4] at z2;cases z2
 have hz:(fs.map (·.1)).length<=1000:=by rw[FT];lia
 refine wJ SF hC VX (Xd _ jf) (XA.la SF.mro jf SF.slot.lookup) x1 x2 λtk t=>BV SF hC VX (Xd _ hf) (XA.la SF.mro hf hB) x1 x2 x3 n wi hz λh' UC k kn=>#[Go,?_];obtain⟨od,_,_,hod,_⟩:=id kn;refine h _ (I.write (x:=d) (e:=d) (t':=UC) (by rw[ed];exact HD) (.inl Go) k #[_,hod] (lB kn (λg=>?_) λg hg=>?_))
 .rw[i4]
  by_cases gf:g=f
  .rw[FI gf,FI gf];exact ry
  .rw[FF gf,FF gf];exact r g
 .by_cases gf:g=f
  .rw[gf];exact(gS f y fs).1
  .refine(gS f y fs).2 g (wi g λz=>hg ?_)
   show(if g=f then FB u else mA g)=FM
   rw[FF gf];exact z
def EL {Q:FE->FJ->Prop}{φ:Ho->Prop}(XC:dq X.K R C fI) (hf:f∈cZ) (hB:Ir (.type "Exception") f=pure FM) (I:aE X pins σ H s)
  (e: ∃o vs,s.heap.get? p=FB o/\o.cls= .ref C/\o.dict=FB d/\o.data= .fields vs) (ed:H d=FB (cn d fs)) (l:fs.lookup f=FB v)
  (h: ∀u s',aE X pins σ H s'->bo v u->Q u s'):Gk (model X.prog X.w) A (TR (.ref p) f b) Q E s:=by
 have XA:=XC.at_ _ I.NW;obtain⟨o,vs,x1,x2,x3,x4⟩:=e;obtain⟨⟨mA,n,r,wi⟩,_⟩:=I.IQ _ _ ed;obtain⟨h1,g1,d1,t1,WN⟩:=s;obtain⟨Nn,mN,oI,NR,mR,⟨nm,q,bs,sn,sub,ab,col,dd,k0,k1,k2,k3,k5,hC⟩,VX,X3,Xd,_⟩:=id XA
 have dp:d≠p:=λz=>by
  obtain⟨o',es,ep,z1,z2,_⟩:=n;rw[z,x1] at z1;have y:=F4 z1;rw[<-y,x4] at z2;cases z2
 have nc: ∀c,o.data≠ .cls c:=λc z=>by rw[x4] at z;cases z
 have I0:h1.Inst p C mA:=#[o,x1,x2,nc, .inr #[d,x3,dp,n]];obtain⟨u,hu,ru⟩:=fX.some_of (v:=v) (o:=mA f) (by rw[<-l];exact r f);exact Ff Bc (XA.la IV.mro qa agu) (XA.la IV.mro m9 agv) (hC) VX (Xd _ qa) (Xd _ m9) (Xd _ hf) (XA.la IV.mro hf hB) I0 hu (PySem.W.handedOut_of (pW ru)) (h u _ (I.tok _) ru)
end
section
variable {ta tv:TE}
def sX0 (C:FG) (ta tv:TE) (f:Gf):TS:=λD σ H=>tv σ H λy H1=>ta σ H1 λx H2=> ∃p,x= .ref p/\H2 p=FB (qT C p)/\ ∀d,H2 d=FM->D.nx σ (aI (aI H2 d (cn d [(f,y)])) p (jZ C d p))
def sX1 (C:FG) (ta tv:TE) (f:Gf):TS:=λD σ H=>tv σ H λy H1=>ta σ H1 λx H2=> ∃p d fs,x= .ref p/\H2 p=FB (jZ C d p)/\H2 d=FB (cn d fs)/\fs.length<1000/\D.nx σ (aI H2 d (cn d (ID f y fs)))
def ah8 (XC:dq X.K R C fI) (SF:MT "Exception" db sa owner) (hf:f∈cZ) (hB:Ir (.type "Exception") f=pure FM) (ha:PE X o ta) (hv:PE X KR tv)
  (hs:KG KR (FB (.Attribute o f NY)) pos.line X.env=pure Gc):PS X (.Assign [.Attribute o f NY] KR pos) (sX0 C ta tv f):=by
 rw[04];refine MM (cc (hv pins s σ H _ I h) λu s1 ⟨y,H1,I1,ry,q⟩=>cc (ha pins s1 σ H1 _ I1 q) λov s2 ⟨x,H2,I2,rx,p,ex,ea,q2⟩=>?_) hs;subst ex;obtain rfl:ov=Gs p:=rx;exact Ap XC SF hf hB I2 ea ry λd s3 hd I3=>#[σ,_,I3,q2 d hd]
def Dv (XC:dq X.K R C fI) (SF:MT "Exception" db sa owner) (hf:f∈cZ) (hB:Ir (.type "Exception") f=pure FM) (ha:PE X o ta) (hv:PE X KR tv)
  (hs:KG KR (FB (.Attribute o f NY)) pos.line X.env=pure Gc):PS X (.Assign [.Attribute o f NY] KR pos) (sX1 C ta tv f):=by
 rw[04];refine MM (cc (hv pins s σ H _ I h) λu s1 ⟨y,H1,I1,ry,q⟩=>cc (ha pins s1 σ H1 _ I1 q) λov s2 ⟨x,H2,I2,rx,p,d,fs,ex,ea,ed,l,q2⟩=>?_) hs;subst ex;obtain rfl:ov=Gs p:=rx;exact Bx XC SF hf hB I2 ea ed l ry λs3 I3=>#[σ,_,I3,q2]
end
abbrev tP (X:Cx) (pins:Fx (FG×Jp)) (Ew:FE->FJ->Prop):Cx:= { X with pn:=X.pn++pins,xe:=Ew }
abbrev DR (X:Cx) (a:FG):Cx:= { X with A:=X.A.mark (FB (.ref a)),calm:=Gc,xe:=λ_ _=>False }
section
variable {H:Hp}{Ew:FE->FJ->Prop}{a:FG}
def Dm (I:aE X pins σ H s):aE (tP X pins Ew) [] σ H s:=
 #[#[I.ok.mod,I.ok.kind,I.ok.glob,I.ok.blt,I.ok.above,I.ok.inj,I.ok.has,I.ok.YB,I.ok.hd,I.ok.frames,I.ok.YC,I.ok.exf,I.ok.bs,I.ok.Vq,I.ok.Tv,I.ok.Tw,I.ok.funs,I.ok.W7],I.os,I.bare,I.base,I.loc,I.cell,I.free,I.L3,
  λp hp=>I.pin p (by rw[Hj] at hp;exact hp),I.IQ,I.len]
def d8 (I:aE (tP X pins Ew) Tx σ H s):aE X pins σ H s:=
 #[#[I.ok.mod,I.ok.kind,I.ok.glob,I.ok.blt,I.ok.above,I.ok.inj,I.ok.has,I.ok.YB,I.ok.hd,I.ok.frames,I.ok.YC,I.ok.exf,I.ok.bs,I.ok.Vq,I.ok.Tv,I.ok.Tw,I.ok.funs,I.ok.W7],I.os,I.bare,I.base,I.loc,I.cell,I.free,I.L3,
  λp hp=>I.pin p (MC _ hp),I.IQ,I.len]
def xM (I:aE X pins σ H s):aE (DR X a) pins σ H s:=
 #[#[I.ok.mod,I.ok.kind,I.ok.glob,I.ok.blt,I.ok.above,I.ok.inj,I.ok.has,I.ok.YB,λz=>HN z,I.ok.frames,I.ok.YC,I.ok.exf,I.ok.bs,I.ok.Vq,I.ok.Tv,I.ok.Tw,I.ok.funs,I.ok.W7],I.os,I.bare,I.base,I.loc,I.cell,I.free,I.L3,
  I.pin,I.IQ,I.len]
def yK (ok:X.Ok) (I:aE (DR X a) pins σ H s):aE X pins σ H s:=#[ok,I.os,I.bare,I.base,I.loc,I.cell,I.free,I.L3,I.pin,I.IQ,I.len]
def ku (h:SP (tP X pins Ew) Tx D f s'):SP X pins D f s':=by
 cases f with
 |next=>obtain⟨σ',H',I,q⟩:=h;exact#[σ',H',d8 I,q]
 |brk=>obtain⟨σ',H',I,q⟩:=h;exact#[σ',H',d8 I,q]
 |cont=>obtain⟨σ',H',I,q⟩:=h;exact#[σ',H',d8 I,q]
 |ret u=>obtain⟨v,σ',H',I,r,q⟩:=h;exact#[v,σ',H',d8 I,r,q]
def zu (I:aE X pins σ H s) (hn:H a=FM) (z:X.Ql.heap.objs.size<=a) (nl:a≠X.env.locals) (nc: ∀x c,X.env.cells.lookup x=FB c->c≠a) (np: ∀p∈X.pn++pins,p.1≠a)
  (new:cx X.prog X.w (aI H a o) s.heap a o):aE X pins σ (aI H a o) s:=by
 have ne: ∀b u,H b=FB u->b≠a:=λb u e y=>by rw[y,hn] at e;cases e
 refine I.step (h':=s.heap) (g':=s.gens) (t':=s.toks) (d':=s.drawn) (ch:=[a]) (λb hb=>?_) (λb o _ _ _ e _=>e) (λb o _ _ _ e _=>#[o.slots,e]) (λb o hb e y=>?_) (λb o _ e=>#[o,e]) (λb xs e=>?_) (λb o u e=>?_) (λb ps e=>#[[].toArray,?_]) (λm y=>y) (λb u e=>?_) I.bare
 .rw[Ga.mp hb];exact#[.inr z,nl,nc,np]
 .rw[ac (λy=>hb (by rw[y];exact FL))];exact y
 .rw[ac (ne b _ e)];exact e
 .rw[ac (ne b _ e)];exact e
 .rw[ac (ne b _ e),e];simp
 .by_cases hb:b=a
  .rw[hb,ae] at e
   rw[hb,<-F4 e];exact new
  .rw[ac hb] at e
   exact(I.IQ b u e).Rw (λc v _ q=>q) (λc q=>by rw[ac (ne c _ q)];exact q) λc xs q=>by rw[ac (ne c _ q)];exact q
def DL {m:Gf->FP FE}(I:aE X pins σ H s) (hn:h'.Ns X.env.locals m) (hs:M4 X.env.locals s.heap h'):aE X pins (JE X.N.length FM) H { s with heap:=h',toks:=t } :=by
 have W:aE X pins (JE X.N.length FM) H s:=I.weak (by rw[OM];exact I.len.symm) λi v e=>by
  rw[LK] at e;split at e<;>cases e
 have nL: ∀b u,H b=FB u->b≠X.env.locals:=λb u e y=>by rw[y,I.free] at e;cases e
 obtain⟨ol,_,_,hol,_⟩:=id hn;refine#[W.ok,W.os,W.bare,#[λb o e n hb hx=>?_,λb o e n hb hx=>?_,W.base.free,λb o e hx=>?_,W.base.Rj,W.base.Q5,W.base.Rk],#[m,hn,λi x v _ e _=>?_],λx c e=>?_,W.free,W.L3,λp hp=>?_,λb u e=>?_,W.len]
 .exact(hs.2 b (Hv (Gv (Gq e) I.ok.above))).trans (W.base.keep b o e n hb hx)
 .obtain⟨sl,y⟩:=W.base.slot b o e n hb hx
  exact#[sl,(hs.2 b (Hv (Gv (Gq e) I.ok.above))).trans y]
 .obtain⟨o',y⟩:=W.base.there b o e hx
  exact#[o',(hs.2 b (Hv (Gv (Gq e) I.ok.above))).trans y]
 .rw[LK] at e
  split at e<;>cases e
 .obtain⟨v,o,y,yd⟩:=I.cell x c e
  exact#[v,o,(hs.2 c (I.YD x c e)).trans y,yd]
 .obtain⟨e1,e2,e3,e4⟩:=I.pin p hp
  exact#[(hs.2 p.1 e3).trans e1,e2,e3,e4]
 .refine(I.IQ b u e).Rw (λc v hc q=>(hs.2 c ?_).trans q) [05] λ_ _ q=>q
  rcases hc with y|y
  .rw[y];exact nL b u e
  .exact nL c _ y
end
structure Own (X:Cx) (pins:Fx (FG×Jp)) (b:FG):Prop where
 z:X.Ql.heap.objs.size<=b
 nl:b≠X.env.locals
 nc: ∀x c,X.env.cells.lookup x=FB c->c≠b
 np: ∀p∈X.pn++pins,p.1≠b
def rn {X:Cx}{pins:Fx (FG×Jp)}{σ:St}{H:Hp}{s:FJ}(I:aE X pins σ H s) (hb:s.heap.objs.size<=b):Own X pins b:=by
 refine#[F7 I.sz hb,L5 (Gv I.lt hb),λx c e z=>?_,λp hp z=>?_]
 .obtain⟨v,q⟩:=I.cell x c e
  exact F6 (Gv q.lt (by rw[z];exact hb)) (IB _)
 .exact F6 (Gv (Gq (I.pin p hp).1) (by rw[z];exact hb)) (IB _)
def ko (C d a:FG):HO:= .ext λh=> ∃o vs,h.get? a=FB o/\o.cls= .ref C/\o.dict=FB d/\o.data= .fields vs
structure zQ (X:Cx) (pins:Fx (FG×Jp)) (H:Hp) (h:Ho) (C d a:FG):Prop where
 own:Own X pins a
 no:H a=FM
 ex: ∃oe vs T oT ts,h.get? a=FB oe/\oe.cls= .ref C/\oe.dict=FB d/\oe.data= .fields vs/\vs[1]?=FB (.ref T)/\T≠a/\H T=FM/\Own X pins T/\h.get? T=FB oT/\oT.data= .fields ts/\ts[3]?=FB .none
abbrev ah9 (X:Cx) (hs:Fx ExceptHandler) (Q:Flow->FJ->Prop):FE->FJ->Prop:=λe s1=>Gk (model X.prog X.w) X.A (MU e X.env) (λ_ s2=>Gk (model X.prog X.w) X.A (QH e FM) (λ_ s3=>Gk (model X.prog X.w) X.A (Uk e X.env hs) Q X.xe s3) X.xe s2) X.xe s1
section
variable {Q:Flow->FJ->Prop}{Ek:XK}
def E6 (KN:X.stack=X.env::X.outer) (RA:X.env.frame=FB X.env.locals)
  (hh: ∀(C a d:FG) (σ:St) (H:Hp) (s:FJ),aE X pins σ H s->zQ X pins H s.heap C d a->Ek (.ref C) (FB d) H->Gk (model X.prog X.w) X.A (Uk (.ref a) X.env hs) Q X.xe s):
  dn (gb X.prog X.w) (tP X pins (ah9 X hs Q)) Ek:=by
 intro Tx σ H s e s' I h;obtain⟨C,a,d,H',rfl,os,bare,un,IQ,za,ha,⟨oe,vs,T,oT,ts,x1,x2,x3,x4,x5,x6,x7,x8,x9,x10,x11⟩,hE⟩:=h;have J0:=I.WJ (ch:=[]) os un IQ bare (λb z=>nomatch z)
 have J:aE X pins σ H' s':=d8 J0
 have oa:Own X pins a:=rn (d8 I) za
 have oT':Own X pins T:=rn (d8 I) x6
 have fr:X.A.frames=FB (X.env::X.outer):=by rw[J.ok.frames,KN]
 have st:s'.heap.FunFrames X.base (X.env::X.outer):=by rw[<-KN];exact J.stack
 show Gk (model X.prog X.w) X.A (MU (.ref a) X.env) _ _ s'
 refine wM (base:=X.base) fr st RA x1 x4 x5 x7 x9 x10 x11 λh' L=>?_;have ck: ∀b∈[a,T],H' b=FM:=λb hb=>by
  rcases FU.mp hb with z|z
  .rw[z];exact ha
  .rw[Ga.mp z];exact x8
 have fq:(X.env::X.outer).filterMap (·.frame)=rq X.stack:=by rw[KN];rfl
 rw[fq] at L;have hk:hJ X.prog X.w H' h':=λb u e=>by
  refine(J.IQ b u e).Rw (λc v hc q=>L.keep c v (λz=>?_) (λz=>?_) q) [05] λ_ _ q=>q
  .have y:=J.Qa c z
   rcases hc with w1|w1
   .rw[w1,e] at y;cases y
   .rw[w1] at y;cases y
  .have y:=ck c z
   rcases hc with w1|w1
   .rw[w1,e] at y;cases y
   .rw[w1] at y;cases y
 have K1:aE X pins σ H' { s' with heap:=h' } :=by
  refine J.call (g':=s'.gens) (t':=s'.toks) (d':=s'.drawn) (ch:=[a,T]) #[λb o e n hb hx=>L.keep b o hb hx e,λb o e n hb hx=>L.slot b o hb hx e,λb o e n hx=>n,λb o e hx=>L.there b o e,λ_ _ e=>e,λ_ _ _ e=>e,λb ps e=>#[[].toArray,by rw[e];simp]] hk J.bare λb hb=>?_;rcases FU.mp hb with z|z
  .rw[z];exact#[.inr oa.z,oa.nl,oa.nc,oa.np]
  .rw[Ga.mp z];exact#[.inr oT'.z,oT'.nl,oT'.nc,oT'.np]
 obtain⟨ws,T2,oT2,ts2,y1,y2,y3,y4,y5,y6,y7⟩:=L.fly;exact hh C a d σ H' _ K1 #[oa,ha,_,ws,T2,oT2,ts2,y1,x2,x3,Go,y2,y4,J.IQ.fresh y3,rn J y3,y5,y6,y7] hE
end
section
variable {a:FG}{H:Hp}{th:TS}
def BI (R G C:FG):Prop:=G=C\/G=R
def DB (XC:dq X.K R C fI) (hG:BI R G C) {E:FE->FJ->Prop}{Q:GP->FJ->Prop}(I:aE X pins σ H s) (cm:zQ X pins H s.heap C d a) (q:Q FS s):Gk M A (excMatches (.ref a) (.ref G)) Q E s:=by
 obtain⟨Nn,mN,oI,NR,mR,⟨nm,qq,bs,sn,sub,ab,col,dd,k0,k1,k2,k3,k5,hC⟩,_,_,_,_,_,⟨nm',qq',bs',sn',anj,ab',ank,Xc,k0',k1',k2',k3',k5',hR⟩,_⟩:=XC.at_ _ I.NW;obtain⟨oe,vs,T,oT,ts,y1,y2,_⟩:=cm.ex;obtain⟨h1,g1,d1,t1,WN⟩:=s;rcases hG with rfl|rfl
 .exact wpAny_excMatches_sub_self hC y1 y2 (by rw[GZ];rfl) q
 .have u1:(Gs G::db).contains (.type "BaseException")=FS:=by rw[GZ];rfl
  have u2:(Gs C:: .ref G::db).contains (.ref G)=FS:=by simp
  have f:=tc_notTuple;unfold excMatches
  repeat (first|(with_reducible refine GW y1 ?_;rw[y2])|with_reducible refine GW hR ?_|(with_reducible refine wpAny_isSubtype_exc hR ?_;rw[u1])|(with_reducible refine wpAny_isSubtype_exc hC ?_;rw[u2])|wp_step)
  exact q
def vH {E:FE->FJ->Prop}{Q:Nc->FJ->Prop}(I:aE X pins σ H s) (cm:zQ X pins H s.heap C d a)
  (h: ∀s',aE X pins σ H s'->(∃o vs,s'.heap.get? a=FB o/\o.cls= .ref C/\o.dict=FB d/\o.data= .fields vs)->Q () s'):Gk M A (QH (.ref a) FM) Q E s:=by
 obtain⟨oe,vs,T,oT,ts,y1,y2,y3,y4,y5,y6,y7,y8,y9,y10,y11⟩:=cm.ex;refine wpAny_setFlight_none y1 y4 y5 y9 y10 (JR.mp y11).1 (h _ (I.turned (it:=T) (t':=s.toks) (λb o hb e=>by rw[Hz _ _ (Jf hb)];exact e) y7 y8.nl (.inr y8.z) y8.nc y8.np) ?_);exact#[oe,vs,by show(s.heap.update T _).get? a=_;rw[Hz _ _ y6];exact y1,y2,y3,y4]
def aby (XC:dq X.K R C fI) (hG:BI R G C) (hg:Gl X x) (hm:X.mg x=FB (.ref G)) (hN:X.N.Nodup) (hi:X.N[i]?=FB n) (hl:X.env.scope.names.lookup n=FB .local) (hs:uJ (DR X a) (b0::Vd) th)
  (I:aE X pins σ H s) (cm:zQ X pins H s.heap C d a) (hr:th #[λ_ _=>False,D.rt,λ_ _=>False,λ_ _=>False] ((JE X.N.length FM).set i (FB (.ref a))) (aI H a (ko C d a)))
  (SJ:(x == [003])=Gc:=by decide):
  Gk (model X.prog X.w) X.A (Uk (.ref a) X.env [.ExceptHandler (FB (.Name x np)) (FB n) (b0::Vd) aia]) (SP X pins D) X.xe s:=by
 refine wpAny_handleBy_cons (codeAny_handlers_test ?_) (by intro q;cases q);refine gv (X:=DR X a) (xM I) hg hm ?_ SJ;refine DB XC hG I cm ?_;show LX _ _ _ _ _;refine codeAny_handlers_suite_as (vH I cm λs1 I1 e1=>?_);have I2:aE X pins (JE X.N.length FM) H s1:=I1.weak (by rw[OM];exact I1.len.symm) λi v e=>by
  rw[LK] at e;split at e<;>cases e
 have I3:aE X pins (JE X.N.length FM) (aI H a (ko C d a)) s1:=
  zu I2 cm.no cm.own.z cm.own.nl cm.own.nc cm.own.np #[e1,#[_,e1.choose_spec.choose_spec.1],λ_ _ ⟨o,vs,z,r⟩ k=>#[o,vs,k _ z,r]]
 refine kc (X:=DR X a) (v:= .ref a) (xM I3) hN hi (.inl hl) Go (λs4 I4=>?_) (.inr hl);refine Jc (hs pins s4 _ _ _ I4 hr) (λf s5 z=>?_) λ_ _ z=>z.elim;cases f with
 |next=>obtain⟨_,_,_,z⟩:=z;exact z.elim
 |brk=>obtain⟨_,_,_,z⟩:=z;exact z.elim
 |cont=>obtain⟨_,_,_,z⟩:=z;exact z.elim
 |ret u=>
  obtain⟨v,σ5,H5,I5,r5,q5⟩:=z;obtain⟨m,hn,_⟩:=id I5.loc;refine wpAny_nameGoes hl hn (by rw[I.ok.kind];rfl) λh' m' n' sb=>#[v,_,H5,DL (yK I.ok I5) n' sb,r5,q5]
end
section
variable {tb th:TS}{Ek:XK}
def abz (Ek:XK) (m i:FX) (tb th:TS):TS:=λD σ H=>tb D σ H/\ ∀C d H' a,Ek (.ref C) (FB d) H'->H' a=FM->
 th #[λ_ _=>False,D.rt,λ_ _=>False,λ_ _=>False] ((JE m FM).set i (FB (.ref a))) (aI H' a (ko C d a))
def aib (K:FC) (te:TE) (f:Gf):TE:=λσ H Q=>te σ H λx H1=> ∃R C fI a d fs v,dq K R C fI/\x= .ref a/\H1 a=FB (ko C d a)/\H1 d=FB (cn d fs)/\fs.lookup f=FB v/\Q v H1
def EM {te:TE}{K:FC}(hK:X.K=K) (hf:f∈cZ) (hB:Ir (.type "Exception") f=pure FM) (he:PE X e te) (hb:Ja e f X.env (eval e X.env)=eval e X.env):PE X (.Attribute e f pos) (aib K te f):=by
 rw[01];subst hK;refine yi hb (cc (he pins s σ H _ I h) λu s1 ⟨x,H1,I1,rx,R,C,fI,a,d,fs,v,XC,ex,ea,ed,l,q⟩=>?_);subst ex;obtain rfl:u=Gs a:=rx;obtain⟨z,_⟩:=I1.IQ _ _ ea;exact EL (φ:=λ_=>True) XC hf hB I1 z ed l λu' s2 I2 ru=>#[v,H1,I2,ru,q]
end
def oP:Ir (.type "Exception") "number"=pure FM:=by rw[K0,JC];kernel_rfl
def Cc:Ir (.type "Exception") "kind"=pure FM:=by rw[K0,JC];kernel_rfl
def Bp:Ir (.type "Exception") "line"=pure FM:=by rw[K0,JC];kernel_rfl
def va:Ir (.type "Exception") "column"=pure FM:=by rw[K0,JC];kernel_rfl
abbrev CS (n l c:Int):Fx (Gf×V):=[("number", .int (-3)),("kind", .int n),("line", .int l),("column", .int c)]
abbrev DZ (n:Int):Fx (Gf×V):=[("number", .int n)]
def aic:Fx V->Fx (Gf×V)->Prop:=λus fs=> ∃n:Int,us=[.int n]/\fs=DZ n
def abA:Fx V->Fx (Gf×V)->Prop:=λus fs=> ∃n l c:Int,us=[.int n, .int l, .int c]/\fs=CS n l c
def bJ (T:aV K mg a) (XC:dq K a.Hu C fI):T.Wt.U P w mg base 1 (dM C aic):=by
 refine T.Wt.F.ok alQ (λvs H Q E h=>?_) [02]
 .obtain⟨p,us,fs,rfl,⟨n,rfl,rfl⟩,_⟩:=h
  rfl
 .obtain⟨p,us,fs,rfl,⟨n,rfl,rfl⟩,hp,q⟩:=h
  refine#[_,(ao (vt (C:=C) (fI:=fI) XC (by rfl) T.Tt (pv 0))
   (ah (ah8 XC IV [00] oP (pv 0) (pv 1) Go))),?_]
  exact#[p,Go,hp,p,Go,hp,λd hd=>q d hd]
def jC (T:aV K mg a) (XC:XT K a):T.d_6.U P w mg base 2 (dM a.Im abA):=by
 have G:=bJ (P:=P) (w:=w) (base:=base) T XC.fc;refine T.d_6.F.ok alR (λvs H Q E h=>?_) [02]
 .obtain⟨p,us,fs,rfl,⟨n,l,c,rfl,rfl⟩,_⟩:=h
  rfl
 .obtain⟨p,us,fs,rfl,⟨n,l,c,rfl,rfl⟩,hp,q⟩:=h
  refine#[_,(ao (bf (eF (by rfl) T.Ig XC.rm G [06] T.Wt.c.b .nil aR (aa (pv 0) (aa (dH cE ak) ag))))
   (ao (Dv XC.fc IV [00] Cc (pv 0) (pv 1) Go)
   (ao (Dv XC.fc IV [00] Bp (pv 0) (pv 2) Go)
   (ah (Dv XC.fc IV [00] va (pv 0) (pv 3) Go))))),?_]
  refine#[_,Go,p,_,DZ (-3),Go,#[-3,Go,Go],hp,λd hd=>?_];have np:d≠p:=(aj hp hd).symm;have z:=q d hd;refine#[p,d,_,Go,ae,by rw[ac np,ae],by show 1<1000;decide,?_];refine#[p,d,_,Go,by rw[ac np.symm,ae],ae,by show 2<1000;decide,?_];refine#[p,d,_,Go,by rw[ac np.symm,ac np.symm,ae],ae,by show 3<1000;decide,?_];have eH: ∀f1 f2 f3 f4:Fx (Gf×V),aI (aI (aI (aI (aI H d (cn d f1)) p (jZ a.Im d p)) d (cn d f2)) d (cn d f3)) d (cn d f4)=aI (aI H d (cn d f4)) p (jZ a.Im d p):=λf1 f2 f3 f4=>by
   funext b
   by_cases hb:b=d
   .rw[hb,ae,ac np,ae]
   .rw[ac hb,ac hb,ac hb]
    by_cases hb2:b=p
    .rw[hb2,ae,ae]
    .rw[ac hb2,ac hb,ac hb2,ac hb]
  show Q .Jm _
  rw[eH];exact z
inductive ut:Fx Gf->Fx Stmt->Prop
 |nil:ut [] []
 |cons {f:Gf}{fs:Fx Gf}{ss:Fx Stmt}{p1 p2 p3 p4:Pos}(_:ut fs ss):ut (f::fs) (.Assign [.Attribute (.Name "self" p1) f p2] (.Name f p3) p4::ss)
inductive lz (C:FG) (fs:Fx Gf) (vs:Fx V) (H:Hp) (Q:VK) (_E:XK):Prop
 |mk (p dx:FG) (ws:Fx V) (_:vs= .ref p::ws) (_:ws.length=fs.length) (_:H p=FB (.ins C dx [])) (_: ∀H':Hp,H' p=FB (.ins C dx (fs.zip ws))->(∀b o,H b=FB o->b≠p->H' b=FB o)->Q .Jm H'):lz C fs vs H Q _E
theorem sQ {f:Gf}{v:V} : ∀ {l:Fx (Gf×V)},(∀x∈l,x.1≠f)->ID f v l=l++[(f,v)]
 |[],_=>rfl
 | (g,x)::r,h=>by
  unfold ID;rw[FF (h _ FL),sQ λy hy=>h y (FK _ hy)]
  rfl
def EJ {X:Cx}{D:eI}{p dx C:FG}{σ:L2.St}(c:gT X.K C) (h0:X.N[0]?=FB ("self":Gf)) (v0:o6 X.env.scope "self") (s0:σ[0]?=FB (FB (.ref p))):
  ∀ {fs:Fx Gf}{ss:Fx Stmt},ut fs ss-> ∀ {k:FX}{ws:Fx V}{done:Fx (Gf×V)}{H:Hp},(∀g∈fs,au X.K C g/\o6 X.env.scope g/\(g == [003])=Gc/\(g == ("__classdict__":Gf))=Gc)->
   (∀i g,fs[i]?=FB g->X.N[k+i]?=FB g)->(∀i v,ws[i]?=FB v->σ[k+i]?=FB (FB v))->ws.length=fs.length->(done.map (·.1)++fs).Nodup->done.length+fs.length<1000->H p=FB (.ins C dx done)->
   (∀H':Hp,H' p=FB (.ins C dx (done++fs.zip ws))->(∀b o,H b=FB o->b≠p->H' b=FB o)->D.nx σ H')->Bd X ss D σ H:=by
 intro fs ss hi
 induction hi with
 |nil=>
  intro k ws done H _ _ _ hl _ _ hp q;refine cg (q H ?_ λb o e _=>e);rw[Od.mp hl,Fx.zip_nil_left,Hj];exact hp
 | @cons f fs ss p1 p2 p3 p4 _ ih=>
  intro k ws done H hg hN hw hl nd len hp q;cases ws with
  |nil=>cases hl
  |cons v ws=>
   obtain⟨no,vf,d1,d2⟩:=hg f FL;refine aT (b5 (dR h0 v0) (dR (hN 0 f Go) vf d1 d2) Go) (nj (nj #[p,C,dx,done,Go,hp,c,no,by lia,?_] s0) (hw 0 v Go));have nf: ∀x∈done,x.1≠f:=λx hx e=>by
    have:=(LW.mp nd).2.2 x.1 (Lj hx) f FL;exact this e
   rw[sQ nf];refine ih (k:=k+1) (ws:=ws) (done:=done++[(f,v)]) (λg h=>hg g (FK _ h)) (λi g e=>?_) (λi u e=>?_) (RZ hl) ?_ ?_ ae λH' h1 h2=>?_
   .rw[Ta,Lc 1];exact hN (i+1) g e
   .rw[Ta,Lc 1];exact hw (i+1) u e
   .rw[Hk,G9];exact nd
   .rw[Gb]
    have:done.length+(fs.length+1)<1000:=len
    show done.length+1+fs.length<1000
    lia
   .refine q H' ?_ λb o e ne=>h2 b o (by rw[ac ne];exact e) ne
    rw[h1,G9]
    rfl
def c9 {x Hy:Gf}{st:Stmt}{f:FG}{fd:GQ}{C:FG}{fs:Fx Gf}(F:o9 K x Hy st f fd) (S:ay ("self"::fs) ("self"::fs) (af st)) (c:gT K C) (no: ∀g∈fs,au K C g) (i:ut fs (bh st))
  (hd:(fs.length<1000/\ ∀g∈fs,(g == [003])=Gc/\(g == ("__classdict__":Gf))=Gc):=by decide):bW P w K mg base xR 1 f fd ("self"::fs) (lz C fs):=by
 refine F.ok S (λvs H Q E h=>?_) [02]
 .obtain⟨p,dx,ws,rfl,h,_⟩:=h
  exact GO So h
 .obtain⟨p,dx,ws,rfl,hl,hp,q⟩:=h
  have vis: ∀g∈("self":Gf)::fs,o6 (af st) g:=λg hg=>(S.par g hg).elim .inl λz=> .inr (.inl z)
  have e:L2.start ("self"::fs) (.ref p::ws)=FB (.ref p)::ws.map FB:=by
   unfold L2.start;rw[show(("self":Gf)::fs).length-(V.ref p::ws).length=0 by rw[FW,FW,hl,Q1]];exact Hj _
  rw[e];refine EJ (C:=C) (p:=p) (dx:=dx) c Go (vis _ FL) Go i (k:=1) (ws:=ws) (done:=[]) (λg hg=>#[no g hg,vis g (FK _ hg),hd.2 g hg]) (λi g e=>by rw[Lc];exact e) (λi v e=>?_) hl (GJ.mp S.nd).2 (by rw[KP,Ld];exact hd.1) hp λH' h1 h2=>q H' h1 h2;rw[Lc,Fx.getElem?_cons_succ,GR,e]
  rfl
def rO (q kd fn ds bl:FG) (n:FX):Fx (Gf×V):=[("tokens", .ref q),("at", .int n),("known", .ref kd),("functions", .ref fn),("desks", .ref ds),("blocks", .ref bl)]
inductive YX (a:bi) (H:Hp) (q:FG) (n:FX) (t:FD):Prop
 |mk (as:Fx FG) (all:FD) (_:H q=FB (.lst (as.map V.ref))) (_:Paired (fO a.JF H) as all) (_:all.drop n=t):YX a H q n t
structure mT (a:bi) (H:Hp) (r q kd fn ds bl:FG) (n:FX) (t:FD):Prop where
 ins: ∃dr,H r=FB (.ins a.GY dr (rO q kd fn ds bl n))
 toks:YX a H q n t
def nF (C:FG) (E:XK) (H:Hp) (n:FX) (x:GS):Prop:= ∀d,H d=FM->E (.ref C) (FB d) (aI H d (cn d (CS n x.1 x.2)))
theorem jc {α β:Type}{F:α->β->Prop} : ∀ {l:Fx α}{m:Fx β}{i:FX}{y:β},Paired F l m->m[i]?=FB y-> ∃x,l[i]?=FB x/\F x y
 |_,_,_,_, .nil,h=>by cases h
 |_,_,0,_, .cons r t,h=>#[_,Go,by obtain rfl:=F4 h;exact r]
 |_,_,i+1,_, .cons r t,h=>jc (i:=i) t h
def ze {α:Type}{l t:Fx α}{x:α}(h:l.drop n=x::t):l[n]?=FB x:=by
 have:=GO (λz:Fx α=>z[0]?) h
 simpa using this
def mT.cur {a:bi}{H:Hp}{r q kd fn ds bl:FG}{n:FX}{x:Ha×GS}{t:FD}(R:mT a H r q kd fn ds bl n (x::t)):
  ∃(as:Fx FG) (p:FG),H q=FB (.lst (as.map V.ref))/\(as.map V.ref)[n]?=FB (.ref p)/\fO a.JF H p x:=by
 obtain⟨as,all,h1,h2,h3⟩:=R.toks;obtain⟨p,e,k⟩:=jc h2 (ze h3);exact#[as,p,h1,by rw[GR,e];rfl,k]
inductive YY (a:bi) (vs:Fx V) (H:Hp) (Q:VK) (E:XK):Prop
 |mk (r q kd fn ds bl:FG) (n:FX) (x:Ha×GS) (t:FD) (_:vs=[.ref r]) (_:mT a H r q kd fn ds bl n (x::t)) (_:(x.1= .bad->nF a.Im E H 1 x.2)) (_:(x.1≠ .bad-> ∀p,fO a.JF H p x->Q (.ref p) H)):YY a vs H Q E
inductive Ce (a:bi) (vs:Fx V) (H:Hp) (_Q:VK) (E:XK):Prop
 |mk (r q kd fn ds bl:FG) (n:FX) (x:Ha×GS) (t:FD) (m:FX) (_:vs=[.ref r, .int m]) (_:mT a H r q kd fn ds bl n (x::t)) (_:nF a.Im E H (if x.1= .bad then 1 else m) x.2):Ce a vs H _Q E
def qk:ir x=4 ↔ x= .bad:=by cases x<;>simp [ir]
def cX (T:aV K mg a) (XC:XT K a):T.Wv.O P w mg base 4 (YY a):=by
 have G:=jC (P:=P) (w:=w) (base:=base) T XC;refine fW T.Wv.F ahx [03] [02];obtain⟨r,q,kd,fn,ds,bl,n,x,t,rfl,R,hb,hg⟩:=h;obtain⟨dr,er⟩:=R.ins;obtain⟨as,p,eq,ep,tp⟩:=R.cur
 have tp':=tp;obtain⟨dx,et⟩:=tp';refine#[_,(ao (cN (i:=1) ahx.nd Go (Hs Go) (cO bC [09] [09] [002]))
   (ao (b4 (aL bS [010] (aS (by rfl) T.P6) (aG _)) (ah (tQ eM XC.fc G [06] (by rfl) T.Rl T.d_6.c.b (aa (aS (by rfl) T.RP) (aa [010] (aa [010] ag))))) aY)
   (ah (aH (pv 1))))),?_]
 refine#[r,_,dr,_,_,Go,er,T.Gx,T.Mb,Go,r,_,dr,_,_,Go,er,T.Gx,T.K5,Go,q,_,n, .ref p,Go,Go,cD.of eq,bv ep,?_];refine#[p,_,dx,_,_,Go,et,T.Jg,T.KD,Go,Go,_,Go,?_];rw[cj];rw[05]
 .have xb:=qk.mp (Gj e)
  exact#[p,_,dx,_,_,Go,et,T.Jg,T.NF,Go,p,_,dx,_,_,Go,et,T.Jg,T.My,Go,(by show 3<=9;decide),_,#[_,_,_,Go,Go],hb xb]
 .have xb:x.1≠ .bad:=λz=>Gw e (qk.mpr z)
  exact(hg xb p tp)
inductive uf (a:bi) (b:Ha->GP) (vs:Fx V) (H:Hp) (Q:VK) (E:XK):Prop
 |mk (r q kd fn ds bl:FG) (n:FX) (x:Ha×GS) (t:FD) (_:vs=[.ref r]) (_:mT a H r q kd fn ds bl n (x::t)) (_:(x.1= .bad->nF a.Im E H 1 x.2)) (_:(x.1≠ .bad->Q (.bl (b x.1)) H)):uf a b vs H Q E
def mr (v:Gf) (k:Ha):GP:=decide (iy k= .str v)
inductive At (a:bi) (vs:Fx V) (H:Hp) (Q:VK) (E:XK):Prop
 |mk (r q kd fn ds bl:FG) (n:FX) (x:Ha×GS) (t:FD) (v:Gf) (_:vs=[.ref r, .str v]) (_:mT a H r q kd fn ds bl n (x::t)) (_:(x.1= .bad->nF a.Im E H 1 x.2)) (_:(x.1≠ .bad->Q (.bl (mr v x.1)) H)):At a vs H Q E
def past (a:bi) (H:Hp) (r q kd fn ds bl:FG) (n:FX) (H':Hp):Prop:= ∃dr,H r=FB (.ins a.GY dr (rO q kd fn ds bl n))/\H'=aI H r (.ins a.GY dr (rO q kd fn ds bl (n+1)))
inductive AU (a:bi) (vs:Fx V) (H:Hp) (Q:VK) (E:XK):Prop
 |mk (r q kd fn ds bl:FG) (n:FX) (x:Ha×GS) (t:FD) (_:vs=[.ref r]) (_:mT a H r q kd fn ds bl n (x::t)) (_:(x.1= .bad->nF a.Im E H 1 x.2)) (_:(x.1≠ .bad-> ∀H',past a H r q kd fn ds bl n H'->Q (iy x.1) H')):AU a vs H Q E
inductive tz (a:bi) (vs:Fx V) (H:Hp) (Q:VK) (E:XK):Prop
 |mk (r q kd fn ds bl:FG) (n:FX) (x:Ha×GS) (t:FD) (v:Gf) (_:vs=[.ref r, .str v]) (_:mT a H r q kd fn ds bl n (x::t)) (_:(x.1= .bad->nF a.Im E H 1 x.2)) (_:(x.1≠ .bad->mr v x.1=Gc->nF a.Im E H 2 x.2)) (_:(x.1≠ .bad->mr v x.1=FS-> ∀H',past a H r q kd fn ds bl n H'->Q .Jm H')):tz a vs H Q E
inductive yf (a:bi) (vs:Fx V) (H:Hp) (Q:VK) (E:XK):Prop
 |mk (r q kd fn ds bl:FG) (n:FX) (x:Ha×GS) (t:FD) (v:Gf) (_:vs=[.ref r, .str v]) (_:mT a H r q kd fn ds bl n (x::t)) (_:(x.1= .bad->nF a.Im E H 1 x.2)) (_:(x.1≠ .bad->mr v x.1=Gc->Q (.bl Gc) H)) (_:(x.1≠ .bad->mr v x.1=FS-> ∀H',past a H r q kd fn ds bl n H'->Q (.bl FS) H')):yf a vs H Q E
def mT.step {a:bi}{H H':Hp}(R:mT a H r q kd fn ds bl n (x::t)) (h:past a H r q kd fn ds bl n H'):mT a H' r q kd fn ds bl (n+1) t:=by
 obtain⟨dr,e,rfl⟩:=h;obtain⟨as,all,h1,h2,h3⟩:=R.toks;refine#[#[dr,ae],as,all,?_,Paired.NV h2 λb z k=>?_,?_]
 .have ne:q≠r:=λz=>by rw[z,e] at h1;cases h1
  rw[ac ne];exact h1
 .obtain⟨dx,ez⟩:=k
  have ne:b≠r:=λz=>by
   rw[z,e] at ez;have:=GO O2 (HO.ins.inj (F4 ez)).2.2;cases this
  exact#[dx,by rw[ac ne];exact ez]
 .have:=GO (Fx.drop 1) h3
  rw[O0] at this;exact this
def Bt:aaX (iy x) (.str v)=FS:=by cases x<;>rfl
def lZ:Ha->GP
 | .num _=>FS
 |_=>Gc
def CY:Ha->GP
 | .eof=>FS
 |_=>Gc
def fH (T:aV K mg a) (XC:XT K a):T.Ww.O P w mg base 5 (Ce a):=by
 have G:=jC (P:=P) (w:=w) (base:=base) T XC
 have UE:=cX (P:=P) (w:=w) (base:=base) T XC;refine fW T.Ww.F ahy [03] [02];obtain⟨r,q,kd,fn,ds,bl,n,x,t,m,rfl,R,hf⟩:=h;obtain⟨dr,er⟩:=R.ins;refine#[_,(ao (cN (i:=2) ahy.nd Go (Hs Go) (bV (pv 0) T.Gx T.Wv.c UE [06] aA))
   (ah (tQ eM XC.fc G [06] (by rfl) T.Rl T.d_6.c.b (aa (pv 1) (aa (ai (pv 2) Go) (aa (ai (pv 2) Go) ag)))))),?_]
 refine#[r,dr,_,Go,er,Go,r,q,kd,fn,ds,bl,n,x,t,Go,R,λb=>by rw[FI b] at hf;exact hf,λnb p tp=>?_];rw[FF nb] at hf;obtain⟨dx,et⟩:=tp;exact#[p,_,dx,_,_,Go,et,T.Jg,T.NF,Go,p,_,dx,_,_,Go,et,T.Jg,T.My,Go,(by show 3<=9;decide),_,#[_,_,_,Go,Go],hf]
def mH (T:aV K mg a) (XC:XT K a):T.d_q.O P w mg base 5 (At a):=by
 have UE:=cX (P:=P) (w:=w) (base:=base) T XC;refine fW T.d_q.F al8 [03] [02];obtain⟨r,q,kd,fn,ds,bl,n,x,t,v,rfl,R,hb,hg⟩:=h;obtain⟨dr,er⟩:=R.ins;refine#[_,(ah (aH (cf bS (ai (bV (pv 0) T.Gx T.Wv.c UE [06] aA) Go) (pv 1) (aG _)))),?_];refine#[r,dr,_,Go,er,Go,r,q,kd,fn,ds,bl,n,x,t,Go,R,hb,λnb p tp=>?_]
 obtain⟨dx,et⟩:=tp;exact#[p,_,dx,_,_,Go,et,T.Jg,T.JP,Go,Bt,hg nb]
def yX (T:aV K mg a) (XC:XT K a):T.aan.O P w mg base 5 (uf a CY):=by
 have UE:=cX (P:=P) (w:=w) (base:=base) T XC;refine fW T.aan.F ahz [03] [02];obtain⟨r,q,kd,fn,ds,bl,n,x,t,rfl,R,hb,hg⟩:=h;obtain⟨dr,er⟩:=R.ins;refine#[_,(ah (aH (cf bS (ai (bV (pv 0) T.Gx T.Wv.c UE [06] aA) Go) (aS (by rfl) T.Yy) (aG _)))),?_];refine#[r,dr,_,Go,er,Go,r,q,kd,fn,ds,bl,n,x,t,Go,R,hb,λnb p tp=>?_]
 obtain⟨dx,et⟩:=tp;refine#[p,_,dx,_,_,Go,et,T.Jg,T.KD,Go,Go,?_];have z:=hg nb;rw[cj];have e:decide (ir x.1=3)=CY x.1:=by cases x.1<;>rfl
 rw[e];exact z
def qS (T:aV K mg a) (XC:XT K a):T.aao.O P w mg base 5 (uf a lZ):=by
 have UE:=cX (P:=P) (w:=w) (base:=base) T XC;refine fW T.aao.F ahA [03] [02];obtain⟨r,q,kd,fn,ds,bl,n,x,t,rfl,R,hb,hg⟩:=h;obtain⟨dr,er⟩:=R.ins;refine#[_,(ah (aH (cf bS (ai (bV (pv 0) T.Gx T.Wv.c UE [06] aA) Go) (aS (by rfl) T.P5) (aG _)))),?_];refine#[r,dr,_,Go,er,Go,r,q,kd,fn,ds,bl,n,x,t,Go,R,hb,λnb p tp=>?_]
 obtain⟨dx,et⟩:=tp;refine#[p,_,dx,_,_,Go,et,T.Jg,T.KD,Go,Go,?_];have z:=hg nb;rw[cj];have e:decide (ir x.1=1)=lZ x.1:=by cases x.1<;>rfl
 rw[e];exact z
def rl (T:aV K mg a) (XC:XT K a):T.d_u.O P w mg base 5 (AU a):=by
 have UE:=cX (P:=P) (w:=w) (base:=base) T XC;refine fW T.d_u.F ahD [03] [02];obtain⟨r,q,kd,fn,ds,bl,n,x,t,rfl,R,hb,hg⟩:=h;obtain⟨dr,er⟩:=R.ins;refine#[_,(ao (cN (i:=1) ahD.nd Go (Hs Go) (bV (pv 0) T.Gx T.Wv.c UE [06] aA))
   (ao (gU (pv 0) ak ox)
   (ah (aH [010])))),?_]
 refine#[r,dr,_,Go,er,Go,r,q,kd,fn,ds,bl,n,x,t,Go,R,hb,λnb p tp=>?_];obtain⟨dx,et⟩:=tp;have ne:p≠r:=λz=>by
  rw[z,er] at et;have:=GO O2 (HO.ins.inj (F4 et)).2.2;cases this
 refine#[r,_,dr,_,_,Go,er,T.Gx,T.K5,Go,_,_,Go,Go,dr,_,er,(by show 6<1000;decide),?_];exact#[p,_,dx,_,_,Go,(by rw[ac ne];exact et),T.Jg,T.JP,Go,hg nb _ #[dr,er,Go]]
def abB:Fx V:=[.str "const", .str "fun", .str "desk", .str "let", .str "for", .str "in", .str "if", .str "then", .str "else", .str "sell", .str "buy", .str "zone", .str "quarter", .str "price", .str "to", .str "amount", .str "block", .str "under", .str "group", .str "sum"]
def cR:Ha->GP
 | .word u=>!uL (.str (sb u)) abB
 |_=>Gc
inductive AM (a:bi) (vs:Fx V) (H:Hp) (Q:VK) (E:XK):Prop
 |mk (r q kd fn ds bl:FG) (n:FX) (x:Ha×GS) (t:FD) (_:vs=[.ref r]) (_:mT a H r q kd fn ds bl n (x::t)) (_:(x.1= .bad->nF a.Im E H 1 x.2)) (_:(x.1≠ .bad->cR x.1=Gc->nF a.Im E H 2 x.2)) (_:(x.1≠ .bad->cR x.1=FS->Q .Jm H)):AM a vs H Q E
inductive wP (a:bi) (vs:Fx V) (H:Hp) (Q:VK) (E:XK):Prop
 |mk (r q kd fn ds bl:FG) (n:FX) (x y:Ha×GS) (t:FD) (_:vs=[.ref r]) (_:mT a H r q kd fn ds bl n (x::y::t)) (_:Q (.bl (lZ y.1)) H):wP a vs H Q E
def zg (T:aV K mg a) (XC:XT K a):T.aaq.O P w mg base 6 (tz a):=by
 have G_q:=mH (P:=P) (w:=w) (base:=base) T XC
 have VB:=fH (P:=P) (w:=w) (base:=base) T XC;refine fW T.aaq.F ahE [03] [02];obtain⟨r,q,kd,fn,ds,bl,n,x,t,v,rfl,R,hb,hf,hg⟩:=h;obtain⟨dr,er⟩:=R.ins;refine#[_,(ao (b4 (k6 (de (cB (pv 0) T.Gx T.d_q.c G_q [06] aA (aa (pv 1) ag)))) (ah (bf (cB (pv 0) T.Gx T.Ww.c VB [06] aA (aa (aS (by rfl) T.Pp) ag)))) aY)
   (ah (gU (pv 0) ak ox))),?_]
 refine#[r,dr,_,Go,er,Go,r,q,kd,fn,ds,bl,n,x,t,v,Go,R,hb,λnb=>#[_,Go,?_]];cases e:mr v x.1 with
 |false=>
  refine b8 ?_;exact#[r,dr,_,Go,er,Go,r,q,kd,fn,ds,bl,n,x,t,2,Go,R,by rw[FF nb];exact hf nb e]
 |true=>
  refine bG ?_;exact#[r,_,dr,_,_,Go,er,T.Gx,T.K5,Go,_,_,Go,Go,dr,_,er,(by show 6<1000;decide),hg nb e _ #[dr,er,Go]]
def om (T:aV K mg a) (XC:XT K a):T.d_1.O P w mg base 5 (uf a cR):=by
 have UE:=cX (P:=P) (w:=w) (base:=base) T XC;refine fW T.d_1.F ahB [03] [02];obtain⟨r,q,kd,fn,ds,bl,n,x,t,rfl,R,hb,hg⟩:=h;obtain⟨dr,er⟩:=R.ins;refine#[_,(ao (cN (i:=1) ahB.nd Go (Hs Go) (bV (pv 0) T.Gx T.Wv.c UE [06] aA))
   (ah (aH (jO (cf bS [010] (aS (by rfl) T.Uw) (aG _)) (iK (cf kN [010] (ip (by rfl) T.Tr) Go)))))),?_]
 refine#[r,dr,_,Go,er,Go,r,q,kd,fn,ds,bl,n,x,t,Go,R,hb,λnb p tp=>?_];obtain⟨dx,et⟩:=tp;have z:=hg nb;refine#[p,_,dx,_,_,Go,et,T.Jg,T.KD,Go,Go,_,Go,?_];rw[cj];cases e:x.1 with
 |word u=>
  rw[e] at z et;refine b8 ?_;refine#[p,_,dx,_,_,Go,et,T.Jg,T.JP,Go,_,_,Go, .inr T.Ts.sq,Go,Go,z]
 |num m=>rw[e] at z;exact bG z
 |sign u=>rw[e] at z;exact bG z
 |eof=>rw[e] at z;exact bG z
 |bad=>exact F6 e nb
def ic (T:aV K mg a) (XC:XT K a):T.d_A.O P w mg base 6 (AM a):=by
 have G_1:=om (P:=P) (w:=w) (base:=base) T XC
 have VB:=fH (P:=P) (w:=w) (base:=base) T XC;refine fW T.d_A.F al9 [03] [02];obtain⟨r,q,kd,fn,ds,bl,n,x,t,rfl,R,hb,hf,hg⟩:=h;obtain⟨dr,er⟩:=R.ins;refine#[_,(ah (b4 (k6 (de (bV (pv 0) T.Gx T.d_1.c G_1 [06] aA))) (ah (bf (cB (pv 0) T.Gx T.Ww.c VB [06] aA (aa (aS (by rfl) T.Pp) ag)))) aY)),?_];refine#[r,dr,_,Go,er,Go,r,q,kd,fn,ds,bl,n,x,t,Go,R,hb,λnb=>#[_,Go,?_]]
 cases e:cR x.1 with
 |false=>
  refine b8 ?_;exact#[r,dr,_,Go,er,Go,r,q,kd,fn,ds,bl,n,x,t,2,Go,R,by rw[FF nb];exact hf nb e]
 |true=>exact bG (hg nb e)
def kz (T:aV K mg a):T.aap.U P w mg base 1 (wP a):=by
 refine T.aap.F.ok ahC [03] [02];obtain⟨r,q,kd,fn,ds,bl,n,x,y,t,rfl,R,z⟩:=h;obtain⟨dr,er⟩:=R.ins;obtain⟨as,all,h1,h2,h3⟩:=R.toks;have h4:all[n+1]?=FB y:=by
  have:=GO (λz:FD=>z[1]?) h3
  simpa [Lc] using this
 obtain⟨p,e,dx,et⟩:=jc h2 h4;have ep:(as.map V.ref)[n+1]?=FB (.ref p):=by rw[GR,e];rfl
 refine#[_,(ah (aH (cf bS (ai (cO bC [09] (bM dW [09] ak) [002]) Go) (aS (by rfl) T.P5) (aG _)))),?_];refine#[r,_,dr,_,_,Go,er,T.Gx,T.Mb,Go,r,_,dr,_,_,Go,er,T.Gx,T.K5,Go,_,_,Go,Go,q,_,((n+1:FX):Int), .ref p,Go,Go,cD.of h1,bv ep,p,_,dx,_,_,Go,et,T.Jg,T.KD,Go,Go,?_];rw[cj];have e:decide (ir y.1=1)=lZ y.1:=by cases y.1<;>rfl
 rw[e];exact z
abbrev nk (u:Fy):be:=IF (sb u)
def has (aD:Fx (be×V)) (u:Fy):GP:=(bQ aD (nk u)).isSome
inductive BN (a:bi) (vs:Fx V) (H:Hp) (Q:VK) (E:XK):Prop
 |mk (r q kd fn ds bl:FG) (n:FX) (x:Ha×GS) (t:FD) (kk ff:Fx (be×V)) (_:vs=[.ref r]) (_:mT a H r q kd fn ds bl n (x::t)) (_:H kd=FB (.dK kk)) (_:H fn=FB (.dK ff)) (_:(x.1= .bad->nF a.Im E H 1 x.2)) (_:(x.1≠ .bad->cR x.1=Gc->nF a.Im E H 2 x.2)) (_:(∀u,x.1= .word u->cR x.1=FS->(has kk u||has ff u)=FS->nF a.Im E H 4 x.2)) (_:(∀u,x.1= .word u->cR x.1=FS->(has kk u||has ff u)=Gc-> ∀H',past a H r q kd fn ds bl n H'->Q (.str (sb u)) H')):BN a vs H Q E
inductive wG (a:bi) (vs:Fx V) (H:Hp) (Q:VK) (E:XK):Prop
 |mk (r q kd fn ds bl g:FG) (n:FX) (x:Ha×GS) (t:FD) (gg:Fx (be×V)) (_:vs=[.ref r, .ref g]) (_:mT a H r q kd fn ds bl n (x::t)) (_:H g=FB (.dK gg)) (_:(x.1= .bad->nF a.Im E H 1 x.2)) (_:(x.1≠ .bad->cR x.1=Gc->nF a.Im E H 2 x.2)) (_:(∀u,x.1= .word u->cR x.1=FS->has gg u=FS->nF a.Im E H 4 x.2)) (_:(∀u,x.1= .word u->cR x.1=FS->has gg u=Gc-> ∀H',past a H r q kd fn ds bl n H'->Q (.str (sb u)) H')):wG a vs H Q E
inductive wY (a:bi) (vs:Fx V) (H:Hp) (Q:VK) (_E:XK):Prop
 |mk (r dr q kd fn ds bl:FG) (n:FX) (u:Fy) (kk:Fx (be×V)) (_:vs=[.ref r, .str (sb u)]) (_:H r=FB (.ins a.GY dr (rO q kd fn ds bl n))) (_:H kd=FB (.dK kk)) (_:kk.length<GD) (_:Q .Jm (aI H kd (.dK (dB kk (nk u) (.bl FS))))):wY a vs H Q _E
inductive r9 (a:bi) (vs:Fx V) (H:Hp) (Q:VK) (_E:XK):Prop
 |mk (r dr q kd fn ds bl:FG) (n:FX) (u:Fy) (kk:Fx (be×V)) (_:vs=[.ref r, .str (sb u)]) (_:H r=FB (.ins a.GY dr (rO q kd fn ds bl n))) (_:H kd=FB (.dK kk)) (_:has kk u=FS) (_:Q .Jm (aI H kd (.dK (fE kk (nk u))))):r9 a vs H Q _E
def A4 (T:aV K mg a):T.aau.U P w mg base 1 (wY a):=by
 refine T.aau.F.ok ahH [03] [02];obtain⟨r,dr,q,kd,fn,ds,bl,n,u,kk,rfl,er,ek,lk,hq⟩:=h;refine#[_,(ah (ie (dv hr) [09] (pv 1) uI Go)),?_];exact#[r,_,dr,_,_,Go,er,T.Gx,T.Kz,Go,kd,_,Go,uc.k (k:=nk u) ek lk,hq]
def qc (T:aV K mg a):T.Xu.U P w mg base 1 (r9 a):=by
 refine T.Xu.F.ok ahI [03] [02];obtain⟨r,dr,q,kd,fn,ds,bl,n,u,kk,rfl,er,ek,hk,hq⟩:=h;obtain⟨v,ev⟩:=Lh.mp hk;refine#[_,(ah (bf (Di [09] (pv 1) #[Go,Go,Go,Go]))),?_];exact#[r,_,dr,_,_,Go,er,T.Gx,T.Kz,Go,kd,Go, .inl #[kk, .inl ek],kk,nk u,v,ek,Go,ev,hq]
def kQ (T:aV K mg a) (XC:XT K a):T.aas.O P w mg base 7 (BN a):=by
 have G_A:=ic (P:=P) (w:=w) (base:=base) T XC
 have UE:=cX (P:=P) (w:=w) (base:=base) T XC
 have VB:=fH (P:=P) (w:=w) (base:=base) T XC
 have G_u:=rl (P:=P) (w:=w) (base:=base) T XC;refine fW T.aas.F YR [03] [02];obtain⟨r,q,kd,fn,ds,bl,n,⟨x,xp⟩,t,kk,ff,rfl,R,ek,ef,hb,hn,h4,hg⟩:=h;obtain⟨dr,er⟩:=R.ins;refine#[_,(ao (bf (bV (pv 0) T.Gx T.d_A.c G_A [06] aA))
   (ao (cN (i:=1) YR.nd Go (Hs Go) (ai (bV (pv 0) T.Gx T.Wv.c UE [06] aA) Go))
   (ao (b4 (tK (fD (n6 (dv hr) (pv 1) [09])) (ou (fD (n6 (dv hr) (pv 1) [09])))).pt (ah (bf (cB (pv 0) T.Gx T.Ww.c VB [06] aA (aa (aS (by rfl) T.Pq) ag)))) aY)
   (ah (aH (bV (pv 0) T.Gx T.d_u.c G_u [06] aA)))))),?_]
 refine#[r,dr,_,Go,er,Go,r,q,kd,fn,ds,bl,n,(x,xp),t,Go,R,hb,hn,λnb e=>?_];cases x with
 |word u=>
  refine#[r,dr,_,Go,er,Go,r,q,kd,fn,ds,bl,n,(.word u,xp),t,Go,R,hb,λ_ p ⟨dx,et⟩=>#[p,_,dx,_,_,Go,et,T.Jg,T.JP,Go,?_]];have aid:(has kk u||has ff u)=FS->nF a.Im E H 4 xp:=h4 u Go e
  have good:(has kk u||has ff u)=Gc-> ∀H',past a H r q kd fn ds bl n H'->Q (.str (sb u)) H':=hg u Go e
  refine#[r,_,dr,_,_,Go,er,T.Gx,T.Kz,Go,kd,_,Go,gD.k (k:=nk u) ek,_,Go,aQ (λe1=>?_) λe1=>?_]
  .refine b8 ?_
   refine#[r,dr,_,Go,er,Go,r,q,kd,fn,ds,bl,n,(.word u,xp),t,4,Go,R,?_];rw[FF nb];exact aid (by unfold has;rw[e1];rfl)
  .refine#[r,_,dr,_,_,Go,er,T.Gx,T.Ji,Go,fn,_,Go,gD.k (k:=nk u) ef,_,Go,aQ (λe2=>?_) λe2=>?_]
   .refine#[r,dr,_,Go,er,Go,r,q,kd,fn,ds,bl,n,(.word u,xp),t,4,Go,R,?_]
    rw[FF nb];exact aid (by unfold has;rw[e1,e2];rfl)
   .exact#[r,dr,_,Go,er,Go,r,q,kd,fn,ds,bl,n,(.word u,xp),t,Go,R,hb,λ_=>good (by unfold has;rw[e1,e2];rfl)]
 |num m=>cases e
 |sign u=>cases e
 |eof=>cases e
 |bad=>exact F6 Go nb
def vx:gY X (.type "dict") (λxs H Q=> ∃a aD,xs=[.ref a]/\DM X.prog X.w X.K a aD/\ ∀p,H p=FM->Q (.ref p) (aI H p (.dK aD))):=by
 intro pins s σ H xs us Q I rv h;obtain⟨a,aD,rfl,kd,q⟩:=h;obtain⟨u,rfl,ru⟩:=rv.one;obtain rfl:u=Gs a:=ru;obtain⟨vs,dd,rel⟩:=kd.at_;refine kt_call_dict kd.no (dd _ I.NW) (by rw[<-rel.length];exact kd.len) λh' Xc hs=>?_;refine#[.ref s.heap.objs.size,_,I.laid (a:=s.heap.objs.size) (o:= .dK aD) (t':=s.toks) (λb q hq=>?_) (F5 _) (uS kd.len (beq_eq_false_iff_ne.mpr (Jf (Hv I.big))) rel Xc),Go,q _ (I.IQ.fresh (F5 _))];exact(hs.2 b (Hv (Gq hq))).trans (FY _ hq)
structure abC (a:bi) (H H':Hp) (r dr q kd fn ds bl:FG):Prop where
 ins:H' r=FB (.ins a.GY dr (rO q kd fn ds bl 0))
 kd0:H kd=FM
 fn0:H fn=FM
 ds0:H ds=FM
 bl0:H bl=FM
 kd1:H' kd=FB (.dK [])
 fn1:H' fn=FB (.dK dy)
 ds1:H' ds=FB (.dK [])
 bl1:H' bl=FB (.dK [])
 QB:kd≠fn/\kd≠ds/\kd≠bl/\fn≠ds/\fn≠bl/\ds≠bl
 kept: ∀b o,H b=FB o->b≠r->H' b=FB o
inductive sS (a:bi) (vs:Fx V) (H:Hp) (Q:VK) (_E:XK):Prop
 |mk (r dr q:FG) (_:vs=[.ref r, .ref q]) (_:H r=FB (.ins a.GY dr [])) (_: ∀(H':Hp) (kd fn ds bl:FG),abC a H H' r dr q kd fn ds bl->Q .Jm H'):sS a vs H Q _E
def bO {H:Hp}{a p:FG}(h:aI H a o p=FM):p≠a/\H p=FM:=by
 by_cases e:p=a
 .rw[e,ae] at h;cases h
 .rw[ac e] at h;exact#[e,h]
def nQ (T:aV K mg a) (kF:DM P w K a.HA dy):T.aam.U P w mg base 1 (sS a):=by
 refine T.aam.F.ok ahw [03] [02];obtain⟨r,dr,q,rfl,er,hq⟩:=h;refine#[_,(ao (b5 (pv 0) (pv 1) Go)
   (ao (b5 (pv 0) ak Go)
   (ao (b5 (pv 0) fh Go)
   (ao (b5 (pv 0) (jm vx (by rfl) T.WH boot_dict (aa (ip (by rfl) T.Nt) ag)) Go)
   (ao (b5 (pv 0) fh Go)
   (ah (b5 (pv 0) fh Go))))))),?_]
 refine#[r,_,dr,_,Go,er,T.Gx,T.Mb,(by show 0<1000;decide),?_];refine#[r,_,dr,_,Go,ae,T.Gx,T.K5,(by show 1<1000;decide),?_];intro kd hkd;obtain⟨n1,hkd⟩:=bO hkd;obtain⟨_,hkd⟩:=bO hkd;refine#[r,_,dr,_,Go,(by rw[ac n1.symm,ae]),T.Gx,T.Kz,(by show 2<1000;decide),?_];refine#[a.HA,dy,Go,kF,λfn U6=>?_];obtain⟨n2,U6⟩:=bO U6;obtain⟨n2k,U6⟩:=bO U6;obtain⟨_,U6⟩:=bO U6;obtain⟨_,U6⟩:=bO U6;refine#[r,_,dr,_,Go,(by rw[ac n2.symm,ae]),T.Gx,T.Ji,(by show 3<1000;decide),?_];intro ds Ve;obtain⟨n3,Ve⟩:=bO Ve;obtain⟨n3f,Ve⟩:=bO Ve;obtain⟨_,Ve⟩:=bO Ve;obtain⟨n3k,Ve⟩:=bO Ve;obtain⟨_,Ve⟩:=bO Ve;obtain⟨_,Ve⟩:=bO Ve;refine#[r,_,dr,_,Go,(by rw[ac n3.symm,ae]),T.Gx,T.Mz,(by show 4<1000;decide),?_];intro bl S6;obtain⟨n4,S6⟩:=bO S6;obtain⟨n4d,S6⟩:=bO S6;obtain⟨_,S6⟩:=bO S6;obtain⟨n4f,S6⟩:=bO S6;obtain⟨_,S6⟩:=bO S6;obtain⟨n4k,S6⟩:=bO S6;obtain⟨_,S6⟩:=bO S6;obtain⟨_,S6⟩:=bO S6;refine#[r,_,dr,_,Go,(by rw[ac n4.symm,ae]),T.Gx,T.Ki,(by show 5<1000;decide),?_];refine hq _ kd fn ds bl #[ae,hkd,U6,Ve,S6,?_,?_,?_,?_,#[n2k.symm,n3k.symm,n4k.symm,n3f.symm,n4f.symm,n4d.symm],λb o e nb=>?_]
 .rw[ac n1,ac n4k.symm,ac n1,ac n3k.symm,ac n1,ac n2k.symm,ac n1,ae]
 .rw[ac n2,ac n4f.symm,ac n2,ac n3f.symm,ac n2,ae]
 .rw[ac n3,ac n4d.symm,ac n3,ae]
 .rw[ac n4,ae]
 .rw[ac nb,ac (aj e S6),ac nb,ac (aj e Ve),ac nb,ac (aj e U6),ac nb,ac (aj e hkd),ac nb,ac nb]
  exact e
def cY {A:Type}{p:A->Prop} : ∀g∈([]:Fx A),p g:=λ_ z=>nomatch z
def az {A:Type}{p:A->Prop}{f:A}{fs:Fx A}(h:p f) (r: ∀g∈fs,p g): ∀g∈f::fs,p g:=Fx.forall_mem_cons.mpr #[h,r]
inductive NB (X:Cx) (c:Gf) (C:FG) (fs:Fx Gf):Prop
 |mk {f:FG}{fd:GQ}(M:Mk X.K C f) (F:bW X.prog X.w X.K X.mg X.base xR 1 f fd ("self"::fs) (lz C fs)) (b:gm X.K fd ("self"::fs) []) (hm:X.mg c=FB (.ref C)):NB X c C fs
def zL (T:aV X.K X.mg a):NB X "Number" a.Mj ["worth"]:=#[T.Vu,c9 T.afu.F agC T.Qv (az T.Og cY) (.cons .nil),T.afu.c.b,T.R8]
def D6 (T:aV X.K X.mg a):NB X "Name" a.Oz ["name"]:=#[T.XM,c9 T.afv.F agD T.Sr (az T.PR cY) (.cons .nil),T.afv.c.b,T.UY]
def EQ (T:aV X.K X.mg a):NB X "Call" a.N8 ["name","arguments"]:=#[T.XQ,c9 T.afw.F agE T.Ra (az T.PU (az T.Nj cY)) [016],T.afw.c.b,T.UZ]
def BD (T:aV X.K X.mg a):NB X "Unary" a.Ll ["sign","operand"]:=#[T.Wx,c9 T.afx.F agF T.PV (az T.O7 (az T.NO cY)) [016],T.afx.c.b,T.Tf]
def AK (T:aV X.K X.mg a):NB X "Chain" a.Kd ["strength","operands","signs"]:=#[T.Wy,c9 T.afy.F agG T.NP (az T.LM (az T.Nk (az T.OC cY))) (.cons [016]),T.afy.c.b,T.Tg]
def zN (T:aV X.K X.mg a):NB X "Choice" a.KU ["condition","chosen","otherwise"]:=#[T.Vv,c9 T.afz.F agH T.Qw (az T.MH (az T.NQ (az T.MI cY))) (.cons [016]),T.afz.c.b,T.R9]
def abD (T:aV X.K X.mg a):NB X "Sum" a.OA ["name","first","last","body"]:=#[T.aaD,c9 T.afA.F agI T.Qx (az T.QQ (az T.PX (az T.QR (az T.QS cY)))) (.cons (.cons [016])),T.afA.c.b,T.ZZ]
def abE (T:aV X.K X.mg a):NB X "Let" a.Ml ["name","exp"]:=#[T.aaE,c9 T.afB.F agJ T.Ss (az T.OD (az T.Rm cY)) [016],T.afB.c.b,T.Ur]
def abF (T:aV X.K X.mg a):NB X "For" a.NL ["name","first","last","statements"]:=#[T.aaF,c9 T.afC.F agK T.Qy (az T.QT (az T.PY (az T.QU (az T.Nl cY)))) (.cons (.cons [016])),T.afC.c.b,T.Wq]
def aie (T:aV X.K X.mg a):NB X "If" a.Q6 ["condition","statements","else_statements"]:=#[T.afT,c9 T.afD.F agL T.Tn (az T.Oh (az T.NS (az T.L0 cY))) (.cons [016]),T.afD.c.b,T.Yv]
def Fq (T:aV X.K X.mg a):NB X "Step" a.Lw ["side","zone","quarter","price","to_price","amount"]:=#[T.XS,c9 T.afE.F agM T.MO (az T.PZ (az T.P0 (az T.Oi (az T.O8 (az T.L9 (az T.OE cY)))))) (.cons (.cons (.cons (.cons [016])))),T.afE.c.b,T.U1]
def wz (T:aV X.K X.mg a):NB X "Amounts" a.Lz ["name","exp"]:=#[T.Ut,c9 T.afF.F agN T.Pj (az T.Oj (az T.OF cY)) [016],T.afF.c.b,T.Us]
def DG (T:aV X.K X.mg a):NB X "Block" a.J2 ["name","side","zone","price","amounts","under","group"]:=#[T.Wz,c9 T.afG.F agO T.Lg (az T.O9 (az T.Pb (az T.Pc (az T.OG (az T.NT (az T.OH (az T.MW cY))))))) (.cons (.cons (.cons (.cons (.cons [016]))))),T.afG.c.b,T.Wr]
def DD (T:aV X.K X.mg a):NB X "Const" a.MN ["name","exp"]:=#[T.WA,c9 T.afH.F agP T.Rn (az T.Pd (az T.P1 cY)) [016],T.afH.c.b,T.Th]
def zS (T:aV X.K X.mg a):NB X "Market" a.Ky ["zones","quarters","low","high"]:=#[T.Vx,c9 T.afS.F ahi T.Sa (az T.Mx (az T.Ly (az T.ND (az T.LN cY)))) (.cons (.cons [016])),T.afS.c.b,T.Vs]
def qX (T:aV X.K X.mg a):NB X "StepOrder" a.HF ["desk","zone","quarter","side","low","high","amount"]:=#[T.Sx,c9 T.afK.F agS T.Oa (az T.P2 (az T.Np (az T.Mn (az T.Nq (az T.NU (az T.Nr (az T.MJ cY))))))) (.cons (.cons (.cons (.cons (.cons [016]))))),T.afK.c.b,T.PN]
def px (T:aV X.K X.mg a):NB X "BlockOrder" a.Ie ["desk","zone","side","price","group","parent","amounts"]:=#[T.RM,c9 T.afL.F agT T.Pf (az T.Pk (az T.Pl (az T.Pn (az T.OW (az T.OX (az T.OI (az T.Oo cY))))))) (.cons (.cons (.cons (.cons (.cons [016]))))),T.afL.c.b,T.RL]
def abG (T:aV X.K X.mg a):NB X "Fun" a.O4 ["name","parameters","exp"]:=#[T.aaG,c9 T.afI.F agQ T.Rp (az T.QV (az T.Nm (az T.Rq cY))) (.cons [016]),T.afI.c.b,T.Ws]
def Es (T:aV X.K X.mg a):NB X "Desk" a.N9 ["name","statements"]:=#[T.XU,c9 T.afJ.F agR T.Sv (az T.Sw (az T.MX cY)) [016],T.afJ.c.b,T.U2]
inductive bF (M:FG->Prop) (H:Hp) (C:FG) (fs:Fx (Gf×V)) (v:V):Prop
 |mk (p dx:FG) (_:v= .ref p) (_: ¬M p) (_:H p=FB (.ins C dx fs)):bF M H C fs v
inductive b9 (M:FG->Prop) (H:Hp) (xs:Fx V) (v:V):Prop
 |mk (p:FG) (_:v= .ref p) (_: ¬M p) (_:H p=FB (.lst xs)):b9 M H xs v
def dg (M:FG->Prop) (H H':Hp):Prop:= ∀b o,H b=FB o-> ¬M b->H' b=FB o
def fB (M M':FG->Prop) (H H':Hp):Prop:= ∀b o,H b=FB o-> ¬M b-> ¬M' b/\H' b=FB o
def dg.two {M:FG->Prop}{H H':Hp}(k:dg M H H'):fB M M H H':=λb o e m=>#[m,k b o e m]
def Nd (o:HO):Prop:=(∃xs,o= .lst xs)\/ ∃C d fs,o= .ins C d fs/\fs.length≠5
def lJ (M M':FG->Prop) (H H':Hp):Prop:= ∀b o,H b=FB o-> ¬M b->Nd o-> ¬M' b/\H' b=FB o
def fB.three {M M':FG->Prop}{H H':Hp}(k:fB M M' H H'):lJ M M' H H':=λb o e m _=>k b o e m
def bF.Ij {M M':FG->Prop}{H H':Hp}(k:lJ M M' H H') (h:bF M H C fs v) (hl:fs.length≠5:=by intro z;cases z):bF M' H' C fs v:=by
 obtain⟨p,dx,e,m,z⟩:=h;have:=k _ _ z m (.inr #[_,_,_,Go,hl]);exact#[p,dx,e,this.1,this.2]
def b9.Ij {M M':FG->Prop}{H H':Hp}(k:lJ M M' H H') (h:b9 M H xs v):b9 M' H' xs v:=by
 obtain⟨p,e,m,z⟩:=h;have:=k _ _ z m (.inl #[_,Go]);exact#[p,e,this.1,this.2]
def bF.keep {M M':FG->Prop}{H H':Hp}(k:fB M M' H H') (h:bF M H C fs v):bF M' H' C fs v:=by
 obtain⟨p,dx,e,m,z⟩:=h;exact#[p,dx,e,(k _ _ z m).1,(k _ _ z m).2]
def b9.keep {M M':FG->Prop}{H H':Hp}(k:fB M M' H H') (h:b9 M H xs v):b9 M' H' xs v:=by
 obtain⟨p,e,m,z⟩:=h;exact#[p,e,(k _ _ z m).1,(k _ _ z m).2]
mutual
def ax (a:bi) (M:FG->Prop) (H:Hp):FN->V->Prop
 | .num n,v=>bF M H a.Mj [("worth", .int (n:FX))] v
 | .name x,v=>bF M H a.Oz [("name", .str (sb x))] v
 | .call f l,v=> ∃q us,bF M H a.N8 [("name", .str (sb f)),("arguments",q)] v/\b9 M H us q/\cy a M H l us
 | .neg e,v=> ∃u,bF M H a.Ll [("sign", .str "-"),("operand",u)] v/\ax a M H e u
 | .not e,v=> ∃u,bF M H a.Ll [("sign", .str "!"),("operand",u)] v/\ax a M H e u
 | .sums e r,v=> ∃q g u us ss,bF M H a.Kd [("strength", .int 3),("operands",q),("signs",g)] v/\b9 M H (u::us) q/\b9 M H ss g/\ax a M H e u/\dF a M H r us ss
 | .prods e r,v=> ∃q g u us ss,bF M H a.Kd [("strength", .int 4),("operands",q),("signs",g)] v/\b9 M H (u::us) q/\b9 M H ss g/\ax a M H e u/\dF a M H r us ss
 | .cmp op x y,v=> ∃q g u1 u2,bF M H a.Kd [("strength", .int 2),("operands",q),("signs",g)] v/\b9 M H [u1,u2] q/\b9 M H [.str (dJ op)] g/\ax a M H x u1/\ax a M H y u2
 | .both e l,v=> ∃q g u us,bF M H a.Kd [("strength", .int 1),("operands",q),("signs",g)] v/\b9 M H (u::us) q/\b9 M H (us.map λ_=> .str "&&") g/\ax a M H e u/\cy a M H l us
 | .either e l,v=> ∃q g u us,bF M H a.Kd [("strength", .int 0),("operands",q),("signs",g)] v/\b9 M H (u::us) q/\b9 M H (us.map λ_=> .str "||") g/\ax a M H e u/\cy a M H l us
 | .pick c x y,v=> ∃u1 u2 u3,bF M H a.KU [("condition",u1),("chosen",u2),("otherwise",u3)] v/\ax a M H c u1/\ax a M H x u2/\ax a M H y u3
 | .sum x lo hi e,v=> ∃u1 u2 u3,bF M H a.OA [("name", .str (sb x)),("first",u1),("last",u2),("body",u3)] v/\ax a M H lo u1/\ax a M H hi u2/\ax a M H e u3
def cy (a:bi) (M:FG->Prop) (H:Hp):Kt->Fx V->Prop
 | .nil,us=>us=[]
 | .cons e l,us=> ∃u vs,us=u::vs/\ax a M H e u/\cy a M H l vs
def dF (a:bi) (M:FG->Prop) (H:Hp):Q3->Fx V->Fx V->Prop
 | .nil,us,ss=>us=[]/\ss=[]
 | .cons op e r,us,ss=> ∃u vs ts,us=u::vs/\ss= .str (dJ op)::ts/\ax a M H e u/\dF a M H r vs ts
end
section
variable {M M':FG->Prop}{H H':Hp}
mutual
theorem ax.Ij (k:lJ M M' H H'): ∀(e:FN) {v:V},ax a M H e v->ax a M' H' e v
 | .num n,v,h=>by unfold ax at h ⊢; exact h.Ij k
 | .name x,v,h=>by unfold ax at h ⊢; exact h.Ij k
 | .call f l,v,h=>by
  unfold ax at h ⊢;obtain⟨q,us,h1,h2,h3⟩:=h;exact#[q,us,h1.Ij k,h2.Ij k,cy.Ij k l h3]
 | .neg e,v,h=>by
  unfold ax at h ⊢;obtain⟨u,h1,h2⟩:=h;exact#[u,h1.Ij k,ax.Ij k e h2]
 | .not e,v,h=>by
  unfold ax at h ⊢;obtain⟨u,h1,h2⟩:=h;exact#[u,h1.Ij k,ax.Ij k e h2]
 | .sums e r,v,h=>by
  unfold ax at h ⊢;obtain⟨q,g,u,us,ss,h1,h2,h3,h4,h5⟩:=h;exact#[q,g,u,us,ss,h1.Ij k,h2.Ij k,h3.Ij k,ax.Ij k e h4,dF.Ij k r h5]
 | .prods e r,v,h=>by
  unfold ax at h ⊢;obtain⟨q,g,u,us,ss,h1,h2,h3,h4,h5⟩:=h;exact#[q,g,u,us,ss,h1.Ij k,h2.Ij k,h3.Ij k,ax.Ij k e h4,dF.Ij k r h5]
 | .cmp op x y,v,h=>by
  unfold ax at h ⊢;obtain⟨q,g,u1,u2,h1,h2,h3,h4,h5⟩:=h;exact#[q,g,u1,u2,h1.Ij k,h2.Ij k,h3.Ij k,ax.Ij k x h4,ax.Ij k y h5]
 | .both e l,v,h=>by
  unfold ax at h ⊢;obtain⟨q,g,u,us,h1,h2,h3,h4,h5⟩:=h;exact#[q,g,u,us,h1.Ij k,h2.Ij k,h3.Ij k,ax.Ij k e h4,cy.Ij k l h5]
 | .either e l,v,h=>by
  unfold ax at h ⊢;obtain⟨q,g,u,us,h1,h2,h3,h4,h5⟩:=h;exact#[q,g,u,us,h1.Ij k,h2.Ij k,h3.Ij k,ax.Ij k e h4,cy.Ij k l h5]
 | .pick c x y,v,h=>by
  unfold ax at h ⊢;obtain⟨u1,u2,u3,h1,h2,h3,h4⟩:=h;exact#[u1,u2,u3,h1.Ij k,ax.Ij k c h2,ax.Ij k x h3,ax.Ij k y h4]
 | .sum x lo hi e,v,h=>by
  unfold ax at h ⊢;obtain⟨u1,u2,u3,h1,h2,h3,h4⟩:=h;exact#[u1,u2,u3,h1.Ij k,ax.Ij k lo h2,ax.Ij k hi h3,ax.Ij k e h4]
theorem cy.Ij (k:lJ M M' H H'): ∀(l:Kt) {us:Fx V},cy a M H l us->cy a M' H' l us
 | .nil,us,h=>by unfold cy at h ⊢; exact h
 | .cons e l,us,h=>by
  unfold cy at h ⊢;obtain⟨u,vs,h1,h2,h3⟩:=h;exact#[u,vs,h1,ax.Ij k e h2,cy.Ij k l h3]
theorem dF.Ij (k:lJ M M' H H'): ∀(r:Q3) {us ss:Fx V},dF a M H r us ss->dF a M' H' r us ss
 | .nil,us,ss,h=>by unfold dF at h ⊢; exact h
 | .cons op e r,us,ss,h=>by
  unfold dF at h ⊢;obtain⟨u,vs,ts,h1,h2,h3,h4⟩:=h;exact#[u,vs,ts,h1,h2,ax.Ij k e h3,dF.Ij k r h4]
end
def ax.Iv (k:fB M M' H H') (e:FN) (h:ax a M H e v):ax a M' H' e v:=ax.Ij k.three e h
end
inductive ub (a:bi) (vs:Fx V) (H:Hp) (Q:VK) (E:XK):Prop
 |mk (r q kd fn ds bl:FG) (n:FX) (x:Ha×GS) (t:FD) (d:FX) (_:vs=[.ref r, .int d]) (_:mT a H r q kd fn ds bl n (x::t)) (_:(d=12->nF a.Im E H (if x.1= .bad then 1 else 6) x.2)) (_:(d≠12->Q (.int ((d+1:FX):Int)) H)):ub a vs H Q E
inductive ud (a:bi) (vs:Fx V) (H:Hp) (Q:VK) (E:XK):Prop
 |mk (r q kd fn ds bl:FG) (n:FX) (x:Ha×GS) (t:FD) (v:Gf) (_:vs=[.ref r, .str v]) (_:mT a H r q kd fn ds bl n (x::t)) (_:(x.1= .bad->nF a.Im E H 1 x.2)) (_:(x.1≠ .bad->mr v x.1=FS->nF a.Im E H 5 x.2)) (_:(x.1≠ .bad->mr v x.1=Gc->Q .Jm H)):ud a vs H Q E
def amu (T:aV K mg a) (XC:XT K a):T.d_g.O P w base 6 (ub a):=by
 have VB:=fH (P:=P) (w:=w) (base:=base) T XC;refine fW T.d_g.F ama [03] [02];obtain⟨r,q,kd,fn,ds,bl,n,x,t,d,rfl,R,hf,hg⟩:=h;obtain⟨dr,er⟩:=R.ins;refine#[_,(ao (b4 (aL bS (pv 1) (aS (by rfl) T.RQ) (aG _)) (ah (bf (cB (pv 0) T.Gx T.Ww.c VB [06] aA (aa (aS (by rfl) T.Rt) ag)))) aY)
   (ah (aH (bM dW (pv 1) ak)))),?_]
 refine [013];rw[cj];rw[05]
 .have:=Gj e
  exact#[r,dr,_,Go,er,Go,r,q,kd,fn,ds,bl,n,x,t,6,Go,R,hf (by lia)]
 .have:=Gw e
  exact#[_,_,Go,Go,hg (by lia)]
def aif (T:aV K mg a) (XC:XT K a):T.aav.O P w base 6 (ud a):=by
 have G_q:=mH (P:=P) (w:=w) (base:=base) T XC
 have VB:=fH (P:=P) (w:=w) (base:=base) T XC;refine fW T.aav.F ahP [03] [02];obtain⟨r,q,kd,fn,ds,bl,n,x,t,v,rfl,R,hb,hf,hg⟩:=h;obtain⟨dr,er⟩:=R.ins;refine#[_,(ah (b4 (de (cB (pv 0) T.Gx T.d_q.c G_q [06] aA (aa (pv 1) ag))) (ah (bf (cB (pv 0) T.Gx T.Ww.c VB [06] aA (aa (aS (by rfl) T.Tq) ag)))) aY)),?_];refine#[r,dr,_,Go,er,Go,r,q,kd,fn,ds,bl,n,x,t,v,Go,R,hb,λnb=>#[_,Go,aQ [015] λe=>?_]]
 .exact#[r,dr,_,Go,er,Go,r,q,kd,fn,ds,bl,n,x,t,5,Go,R,by rw[FF nb];exact hf nb e]
 .exact hg nb e
def jD (a:bi) (M:FG->Prop) (H:Hp):FP FN->V->Prop
 |none,v=>v= .Jm
 |some e,v=>ax a M H e v
def kq (b:GP):V:= .str (if b=FS then "buy" else "sell")
inductive sw (a:bi) (M:FG->Prop) (H:Hp) (x:Fy×FN) (v:V):Prop
 |mk (u:V) (_:bF M H a.Lz [("name", .str (sb x.1)),("exp",u)] v) (_:ax a M H x.2 u):sw a M H x v
def ij:FP Fy->V
 |none=> .Jm
 |some u=> .str (sb u)
mutual
def a9 (a:bi) (M:FG->Prop) (H:Hp):Hw->V->Prop
 | .bind x e,v=> ∃u,bF M H a.Ml [("name", .str (sb x)),("exp",u)] v/\ax a M H e u
 | .loop x lo hi l,v=> ∃u1 u2 q us,bF M H a.NL [("name", .str (sb x)),("first",u1),("last",u2),("statements",q)] v/\ax a M H lo u1/\ax a M H hi u2/\b9 M H us q/\bD a M H l us
 | .cond c x y,v=> ∃u q us g ws,bF M H a.Q6 [("condition",u),("statements",q),("else_statements",g)] v/\ax a M H c u/\b9 M H us q/\bD a M H x us/\b9 M H ws g/\bD a M H y ws
 | .step b z qu p top am,v=> ∃u1 u2 u3 u4 u5,bF M H a.Lw [("side",kq b),("zone",u1),("quarter",u2),("price",u3),("to_price",u4),("amount",u5)] v/\ax a M H z u1/\ax a M H qu u2/\ax a M H p u3/\jD a M H top u4/\ax a M H am u5
 | .block nm b z p x am un g,v=> ∃u1 u2 u3 u4,bF M H a.J2 [("name",ij nm),("side",kq b),("zone",u1),("price",u2),("amounts",u3),("under",ij un),("group",u4)] v/\ax a M H z u1/\ax a M H p u2/\sw a M H (x,am) u3/\jD a M H g u4
def bD (a:bi) (M:FG->Prop) (H:Hp):Jy->Fx V->Prop
 | .nil,us=>us=[]
 | .cons s l,us=> ∃u vs,us=u::vs/\a9 a M H s u/\bD a M H l vs
end
section
variable {M M':FG->Prop}{H H':Hp}
theorem jD.Iv (k:fB M M' H H'): ∀(e:FP FN) {v:V},jD a M H e v->jD a M' H' e v
 |none,v,h=>h
 |some e,v,h=>ax.Iv k e h
theorem sw.Iv (k:fB M M' H H') (h:sw a M H x v):sw a M' H' x v:=by
 obtain⟨u,h1,h2⟩:=h;exact#[u,h1.keep k,ax.Iv k _ h2]
mutual
theorem a9.Iv (k:fB M M' H H'): ∀(s:Hw) {v:V},a9 a M H s v->a9 a M' H' s v
 | .bind x e,v,h=>by
  unfold a9 at h ⊢;obtain⟨u,h1,h2⟩:=h;exact#[u,h1.keep k,ax.Iv k e h2]
 | .loop x lo hi l,v,h=>by
  unfold a9 at h ⊢;obtain⟨u1,u2,q,us,h1,h2,h3,h4,h5⟩:=h;exact#[u1,u2,q,us,h1.keep k,ax.Iv k lo h2,ax.Iv k hi h3,h4.keep k,bD.Iv k l h5]
 | .cond c x y,v,h=>by
  unfold a9 at h ⊢;obtain⟨u,q,us,g,ws,h1,h2,h3,h4,h5,h6⟩:=h;exact#[u,q,us,g,ws,h1.keep k,ax.Iv k c h2,h3.keep k,bD.Iv k x h4,h5.keep k,bD.Iv k y h6]
 | .step b z qu p top am,v,h=>by
  unfold a9 at h ⊢;obtain⟨u1,u2,u3,u4,u5,h1,h2,h3,h4,h5,h6⟩:=h;exact#[u1,u2,u3,u4,u5,h1.keep k,ax.Iv k z h2,ax.Iv k qu h3,ax.Iv k p h4,jD.Iv k top h5,ax.Iv k am h6]
 | .block nm b z p x am un g,v,h=>by
  unfold a9 at h ⊢;obtain⟨u1,u2,u3,u4,h1,h2,h3,h4,h5⟩:=h;exact#[u1,u2,u3,u4,h1.keep k,ax.Iv k z h2,ax.Iv k p h3,h4.Iv k,jD.Iv k g h5]
theorem bD.Iv (k:fB M M' H H'): ∀(l:Jy) {us:Fx V},bD a M H l us->bD a M' H' l us
 | .nil,us,h=>by unfold bD at h ⊢; exact h
 | .cons s l,us,h=>by
  unfold bD at h ⊢;obtain⟨u,vs,h1,h2,h3⟩:=h;exact#[u,vs,h1,a9.Iv k s h2,bD.Iv k l h3]
end
end
def gI (ps:Fx Fy):Fx V:=ps.map λp=>V.str (sb p)
def fb (a:bi) (M:FG->Prop) (H:Hp):HI->V->Prop
 | .const x e,v=> ∃u,bF M H a.MN [("name", .str (sb x)),("exp",u)] v/\ax a M H e u
 | .func x ps e,v=> ∃q u,bF M H a.O4 [("name", .str (sb x)),("parameters",q),("exp",u)] v/\b9 M H (gI ps) q/\ax a M H e u
 | .desk x l,v=> ∃q us,bF M H a.N9 [("name", .str (sb x)),("statements",q)] v/\b9 M H us q/\bD a M H l us
theorem fb.Iv {a:bi}{M M':FG->Prop}{H H':Hp}(k:fB M M' H H'): ∀(x:HI) {v:V},fb a M H x v->fb a M' H' x v
 | .const x e,v,⟨u,h1,h2⟩=>#[u,h1.keep k,ax.Iv k e h2]
 | .func x ps e,v,⟨q,u,h1,h2,h3⟩=>#[q,u,h1.keep k,h2.keep k,ax.Iv k e h3]
 | .desk x l,v,⟨q,us,h1,h2,h3⟩=>#[q,us,h1.keep k,h2.keep k,bD.Iv k l h3]
inductive Fk where
 |e (x:FN)
 |o (x:FP FN)
 |am (x:Fy×FN)
 |st (x:Hw)
 |sts (x:Jy)
 |ps (x:Fx Fy)
 |top (x:HI)
inductive oV (a:bi) (M:FG->Prop) (H:Hp) (l:Jy) (v:V):Prop
 |mk (us:Fx V) (_:b9 M H us v) (_:bD a M H l us):oV a M H l v
def jr (a:bi) (M:FG->Prop) (H:Hp) (x:Fk×V):Prop:=match x.1 with
 | .e e=>ax a M H e x.2
 | .o e=>jD a M H e x.2
 | .am e=>sw a M H e x.2
 | .st e=>a9 a M H e x.2
 | .sts e=>oV a M H e x.2
 | .ps e=>b9 M H (gI e) x.2
 | .top e=>fb a M H e x.2
theorem jr.Iv {a:bi}{M M':FG->Prop}{H H':Hp}(k:fB M M' H H'): ∀ {x:Fk×V},jr a M H x->jr a M' H' x
 | (.e e,v),h=>ax.Iv k e h
 | (.o e,v),h=>jD.Iv k e h
 | (.am e,v),h=>sw.Iv k h
 | (.st e,v),h=>a9.Iv k e h
 | (.sts e,v),⟨us,h1,h2⟩=>#[us,h1.keep k,bD.Iv k e h2]
 | (.ps e,v),h=>b9.keep k h
 | (.top e,v),h=>fb.Iv k e h
end OS
namespace OS
open Vbemac
abbrev fo:=GK->FP Int
abbrev dQ:=Exp×Fx Int
inductive Mc where
 |go (ts:Fx dQ) (sc:Fx fo) (n:FX)
 |done (a:Int) (sc:Fx fo) (n:FX)
 |err (c:Int)
def eS (ts:Fx dQ) (sc:Fx fo) (n:FX) (a:Int):Mc:=match ts with
 |[]=> .done a sc n
 | (e,ps)::r=> .go ((e,ps++[a])::r) sc n
def kD (e:Exp) (ts:Fx dQ) (sc:Fx fo):FX->Mc
 |0=> .err (-13)
 |n+1=> .go ((e,[])::ts) sc n
def lc:Exps->Fx Exp
 | .nil=>[]
 | .cons e l=>e::lc l
def DO:Rest->Fx Exp
 | .nil=>[]
 | .cons _ e r=>e::DO r
def An:Rest->Fx GK
 | .nil=>[]
 | .cons op _ r=>op::An r
def fR (sc:Fx fo):fo:=sc.getLastD λ_=>FM
def look (sc:Fx fo) (x:GK):FP Int:=match sc.headD (λ_=>FM) x with
 |some a=>FB a
 |none=>fR sc x
def pj (sc:Fx fo) (y:GK) (a:Int):Fx fo:=match sc with
 |[]=>[]
 |s::r=>(λx=>if x=y then FB a else s x)::r
def u9 (ps:Fx GK) (l:Fx Int):fo:=λx=>((ps.zip l).find? λa=>a.1 == x).map λa=>a.2
def ga (s:FX) (op:GK) (a b:Int):Except Int Int:=if s=2 then .ok (truth (compare op a b)) else match arith op a b 0 with
 | .error c=> .error c
 | .ok (v,_)=> .ok v
def jq (s:FX) (a:Int):GP:=if s=1 then a == 0 else a !=0
def nP (s:FX):Int:=if s=1 then 0 else 1
def pC (s:FX) (ops:Fx Exp) (e:Exp) (ps:Fx Int) (r:Fx dQ) (sc:Fx fo) (n:FX):FP Mc:=
 if ps.getLast?.any (jq s)=FS then FB (eS r sc n (nP s)) else match ops[ps.length]? with
 |some o=>FB (kD o ((e,ps)::r) sc n)
 |none=>FB (eS r sc n (1-nP s))
def lG (s:FX) (ops:Fx Exp) (sgs:Fx GK) (e:Exp) (ps:Fx Int) (r:Fx dQ) (sc:Fx fo) (n:FX):FP Mc:=
 let k:=ps.length
 let ps':FP (Except Int (Fx Int)):=if 1<k then(match sgs[k-2]?,ps[k-2]?,ps[k-1]? with
  |some op,some a,some b=>FB (match ga s op a b with
   | .error c=> .error c
   | .ok v=> .ok (ps.take (k-1)++[v]))
  |_,_,_=>FM) else FB (.ok ps)
 match ps' with
 |none=>FM
 |some (.error c)=>FB (.err c)
 |some (.ok ps)=>match ops[ps.length]? with
  |some o=>FB (kD o ((e,ps)::r) sc n)
  |none=>ps.getLast?.map λa=>eS r sc n a
def gP (e:Exp) (y:GK) (b:Exp) (p q:Int) (acc:Fx Int) (r:Fx dQ) (sc:Fx fo) (n:FX):FP Mc:=
 let t:=acc.length
 let amv:Except Int (Fx Int):=if 1<t then(match checked (acc.getD (t-2) 0+acc.getD (t-1) 0) 0 with
  | .error c=> .error c
  | .ok (v,_)=> .ok (acc.take (t-1)++[v])) else .ok acc
 match amv with
 | .error c=>FB (.err c)
 | .ok acc=>if p+(t:Int)<=q then(match n with
   |0=>FB (.err (-13))
   |n+1=>(match sc with
    |[]=>FM
    |h::tl=>FB (kD b ((e,p::q::acc)::r) (pj (h::tl) y (p+(t:Int))) n)))
  else FB (eS r sc n (acc.getLast?.getD 0))
def eR (F:Funs):Mc->FP Mc
 | .go ((e,ps)::r) sc n=>(match e with
  | .num a=>FB (eS r sc n (a:FX))
  | .name x=>(look sc x).map (eS r sc n)
  | .call f l=>(match (lc l)[ps.length]? with
   |some o=>FB (kD o ((e,ps)::r) sc n)
   |none=>match F.find? λg=>g.1 == f with
    |none=>if ps.length=(lc l).length then FB (eS r sc n (builtIn f ps)) else FM
    |some g=>if ps.length=(lc l).length then FB (kD g.2.2 ((e,ps)::r) (u9 g.2.1 ps::sc) n) else(match sc with
     |[]=>FM
     |_::tl=>(ps[(lc l).length]?).map λa=>eS r tl n a))
  | .neg a=>(match ps with
   |[]=>FB (kD a ((e,ps)::r) sc n)
   |b::_=>FB (eS r sc n (-b)))
  | .not a=>(match ps with
   |[]=>FB (kD a ((e,ps)::r) sc n)
   |b::_=>FB (eS r sc n (truth (b == 0))))
  | .sums a l=>lG 3 (a::DO l) (An l) e ps r sc n
  | .prods a l=>lG 4 (a::DO l) (An l) e ps r sc n
  | .cmp op a b=>lG 2 [a,b] [op] e ps r sc n
  | .both a l=>pC 1 (a::lc l) e ps r sc n
  | .either a l=>pC 0 (a::lc l) e ps r sc n
  | .pick c a b=>(match ps with
   |[]=>FB (kD c ((e,ps)::r) sc n)
   |[p]=>FB (kD (if p≠0 then a else b) ((e,ps)::r) sc n)
   |[_,v]=>FB (eS r sc n v)
   |_=>FM)
  | .sum y lo hi b=>(match ps with
   |[]=>FB (kD lo ((e,ps)::r) sc n)
   |[_]=>FB (kD hi ((e,ps)::r) sc n)
   |p::q::acc=>gP e y b p q acc r sc n))
 |_=>FM
inductive me (F:Funs) (f:Mc->Prop):Mc->FX->Prop
 |here {m:Mc} :f m->me F f m 0
 |step {m m':Mc}{j:FX} :eR F m=FB m'->me F f m' j->me F f m (j+1)
def HE (F:Funs) (f:Mc->Prop) (m:Mc):Prop:= ∃j,me F f m j
theorem HE.step {f:Mc->Prop}(h:eR F m=FB m') (k:HE F f m'):HE F f m:=let ⟨j,k⟩:=k;#[j+1, .step h k]
mutual
def WS:Fx GK->Fx (GK×FX)->Exp->Prop
 |_,_, .num n=>n<1000000000000000000
 |V,_, .name x=>x∈V
 |V,F, .call f l=>(∃p,(F.find? λg=>g.1 == f)=FB p/\(lc l).length=p.2)/\oS V F l
 |V,F, .neg e=>WS V F e
 |V,F, .not e=>WS V F e
 |V,F, .sums e r=>WS V F e/\(∃op a s,r= .cons op a s)/\wm ["+","-"] V F r
 |V,F, .prods e r=>WS V F e/\(∃op a s,r= .cons op a s)/\wm ["*","/","%"] V F r
 |V,F, .cmp op a b=>op∈(["==","!=","<=",">=","<",">"].map text)/\WS V F a/\WS V F b
 |V,F, .both e l=>WS V F e/\(∃a s,l= .cons a s)/\oS V F l
 |V,F, .either e l=>WS V F e/\(∃a s,l= .cons a s)/\oS V F l
 |V,F, .pick c a b=>WS V F c/\WS V F a/\WS V F b
 |V,F, .sum y lo hi e=>y∉V/\WS V F lo/\WS V F hi/\WS (y::V) F e
def oS:Fx GK->Fx (GK×FX)->Exps->Prop
 |_,_, .nil=>True
 |V,F, .cons e l=>WS V F e/\oS V F l
def wm:Fx String->Fx GK->Fx (GK×FX)->Rest->Prop
 |_,_,_, .nil=>True
 |L,V,F, .cons op e r=>op∈L.map text/\WS V F e/\wm L V F r
end
abbrev dE (a:Int):Prop:= -BIG<=a/\a<=BIG
structure Ag (S:Scope) (V:Fx GK) (v:Env) (sc:Fx fo):Prop where
 val: ∀x∈V,look sc x=FB (valueIn v x)
 bot: ∀x∈S.consts.map (·.1),fR sc x=FB (valueIn S.consts x)
 low:sc.length=1-> ∀x∈S.consts.map (·.1),x∈V
 big: ∀x,dE (valueIn v x)
structure aih (S:Scope) (F:Fx (GK×FX)) (g:GK×Fx GK×Exp):Prop where
 ws: ∃Kg Fg,WS (g.2.1++Kg) Fg g.2.2/\(∀x∈Kg,x∈S.consts.map (·.1))/\ ∀f p,(Fg.find? λh=>h.1 == f)=FB p->(F.find? λh=>h.1 == f)=FB p
 nd:g.2.1.Nodup
 le:g.2.1.length<=6
structure gF (S:Scope) (F:Fx (GK×FX)):Prop where
 all: ∀f p,(F.find? λh=>h.1 == f)=FB p->(∃g,(S.funs.find? λh=>h.1 == f)=FB g/\g.2.1.length=p.2/\aih S F g)\/((S.funs.find? λh=>h.1 == f)=FM/\(BUILT.find? λh=>h.1 == f)=FB p)
 aii: ∀x,dE (valueIn S.consts x)
def Sub (G F:Fx (GK×FX)):Prop:= ∀f p,(G.find? λh=>h.1 == f)=FB p->(F.find? λh=>h.1 == f)=FB p
section
variable {h:fo}
def g9 {a:Int} :valueIn ((y,a)::v) x=if x=y then a else valueIn v x:=by
 unfold valueIn;rw[HC];by_cases e:x=y
 .rw[FI e,e,show(y == y)=FS from Ht y]
  rfl
 .rw[FF e,show(y == x)=Gc from beq_eq_false_iff_ne.mpr λz=>e z.symm]
def oi {a:Int} :fR ((λz=>if z=y then FB a else h z)::tl) x=if x=y/\tl=[] then FB a else fR (h::tl) x:=by
 cases tl with
 |nil=>
  unfold fR;by_cases e:x=y
  .rw[FI #[e,Go]];exact FI e
  .rw[FF λz=>e z.1];exact FF e
 |cons t r=>rw[FF λz=>by cases z.2];rfl
def Ag.set (A:Ag S V v (h::tl)) {a:Int}(ny:y∉V) (ba:dE a):Ag S (y::V) ((y,a)::v) (pj (h::tl) y a):=by
 refine#[λx hx=>?_,λx hx=>?_,λl x hx=>FK _ (A.low l x hx),λx=>?_]
 .rw[g9]
  unfold pj look;by_cases e:x=y
  .rw[FI e]
   show(match (if x=y then FB a else h x) with|some a=>FB a|none=>_)=_
   rw[FI e]
  .rw[FF e]
   have hv:x∈V:=by
    rcases FU.mp hx with z|z
    .exact F6 z e
    .exact z
   have:=A.val x hv;unfold look at this
   show(match (if x=y then FB a else h x) with|some a=>FB a|none=>_)=_
   rw[FF e,oi,FF λz=>e z.1];exact this
 .unfold pj
  rw[oi];by_cases e:x=y/\tl=[]
  .exact F6 (A.low (by rw[e.2];rfl) x hx) (by rw[e.1];exact ny)
  .rw[FF e]
   exact A.bot x hx
 .rw[g9]
  split
  .exact ba
  .exact A.big x
def Ag.unset {a:Int}(A:Ag S (y::V) ((y,a)::v) (h::tl)) (ny:y∉V) (bg: ∀x,dE (valueIn v x)) (lo:tl=[]-> ∀x∈S.consts.map (·.1),x∈V):Ag S V v (h::tl):=by
 refine#[λx hx=>?_,A.bot,λl=>lo (Rf (RZ l)),bg];rw[A.val x (FK _ hx),g9,FF λz=>ny (by rw[<-z];exact hx)]
end
end OS
namespace OS
open Vbemac
def bR {a:Int}(h:checked x n= .ok (a,m)):dE a/\m=n/\a=x:=by
 unfold checked at h;split at h
 .rename_i z
  cases h;exact#[z,Go,Go]
 .cases h
def gH (b:GP):dE (truth b):=by cases b<;>decide
def qt {x y a:Int}(h:arith op x y n= .ok (a,m)):dE a/\m=n:=by
 unfold arith at h;split at h
 .exact#[(bR h).1,(bR h).2.1]
 split at h
 .exact#[(bR h).1,(bR h).2.1]
 split at h
 .exact#[(bR h).1,(bR h).2.1]
 split at h
 .cases h
 split at h
 .exact#[(bR h).1,(bR h).2.1]
 .exact#[(bR h).1,(bR h).2.1]
def wS {a:Int}(h:dE a):dE (-a):=by unfold dE BIG at *; lia
def qw {f:GK}(h: ∀a∈l,dE a):dE (builtIn f l):=by
 have z:dE 0:=by decide
 have g: ∀i,dE (l.getD i 0):=λi=>by
  rw[Jl];cases e:l[i]? with
  |none=>exact z
  |some a=>exact h a (G8 e)
 have g0:=g 0
 have g1:=g 1;unfold builtIn;dsimp only;unfold dE BIG at*;split
 .lia
 split
 .lia
 split<;>lia
def lX {u v:Env} :valueIn (u++v) x=match u.find? (λa=>a.1 == x) with
  |some a=>a.2
  |none=>valueIn v x:=by
 unfold valueIn;rw[V9];cases u.find? (λa=>a.1 == x)<;>rfl
section
variable {f:Mc->Prop}
def abH (S:Scope) (f:Mc->Prop) (V:Fx GK) (v:Env) (tl:Fx fo) (n:FX) (r:Res Int) (k:Int->Fx fo->FX->Mc):Prop:=match r with
 | .error c=>f (.err c)
 | .ok (a,m)=>dE a->m<n-> ∀h,Ag S V v (h::tl)->HE S.funs f (k a (h::tl) m)
def EvP (S:Scope) (F0:Fx (GK×FX)) (f:Mc->Prop) (k:FX):Prop:= ∀V v G e ts h tl n,Ag S V v (h::tl)->WS V G e->Sub G F0->3*n+1<=k->abH S f V v tl n (ev k S v e n) (λa sc m=>eS ts sc m a)->HE S.funs f (kD e ts (h::tl) n)
def rg (h:f (.err c)):HE F f (.err c):=#[0, .here h]
variable {h:fo}
def kU {α:Type}{l:Fx α}{x:α}{r:Fx α}(h:l.drop k=x::r):l[k]?=FB x/\l.drop (k+1)=r:=by
 constructor
 .have:=GO (λz:Fx α=>z[0]?) h
  simpa using this
 .have:=GO (Fx.drop 1) h
  simpa [O0,Lc] using this
def pM {α:Type}{l:Fx α}(h:l.drop k=[]):l[k]?=FM:=Js (by simpa using h)
theorem wR (sb:Sub G F0): ∀(r:Exps) (k n:FX) (ps:Fx Int) (h:fo),(∀j,j<k->EvP S F0 f j)->Ag S V v (h::tl)->oS V G r->3*n+2<=k->(lc l).drop ps.length=lc r->(∀a∈ps,dE a)->
  (match evAll k S v r n with
   | .error c=>f (.err c)
   | .ok (as,m)=>(∀a∈ps++as,dE a)->as.length=(lc r).length->m<=n-> ∀h,Ag S V v (h::tl)->HE S.funs f (.go ((.call g l,ps++as)::ts) (h::tl) m))->HE S.funs f (.go ((.call g l,ps)::ts) (h::tl) n)
 |r,0,n,ps,h,_,_,_,hk,_,_,_=>by lia
 | .nil,k+1,n,ps,h,IH,A,w,hk,hd,bp,q=>by
  unfold evAll at q;have:=q (by rw[Hj];exact bp) Go (F5 _) h A;rw[Hj] at this;exact this
 | .cons e r,k+1,n,ps,h,IH,A,w,hk,hd,bp,q=>by
  unfold oS at w;unfold evAll at q;dsimp only at q;obtain⟨d1,d2⟩:=kU hd;refine HE.step (m':=kD e ((.call g l,ps)::ts) (h::tl) n) (by unfold eR;dsimp only;rw[d1]) (IH k (Ib _) V v G e _ h tl n A w.1 sb (by lia) ?_);cases h1:ev k S v e n with
  |error c=>rw[h1] at q;exact q
  |ok z=>
   obtain⟨a,m1⟩:=z;rw[h1] at q;intro b1 l1 h' A';refine wR sb r k m1 (ps++[a]) h' (λj hj=>IH j (JH hj)) A' w.2 (by lia) (by rw[Gb];exact d2) (λx hx=>?_) ?_
   .rcases Gr.mp hx with z|z
    .exact bp x z
    .rw[Ga.mp z];exact b1
   .dsimp only at q
    cases h2:evAll k S v r m1 with
    |error c=>rw[h2] at q;exact q
    |ok z=>
     obtain⟨bs,m2⟩:=z;rw[h2] at q;dsimp only at q ⊢;intro b2 q2 l2 h2 A2;rw[G9] at b2 ⊢;exact q b2 (by show bs.length+1=(lc r).length+1;rw[q2]) (by lia) h2 A2
def rk (ops:Fx Exp) (e:Exp) (ps:Fx Int) (r:Fx dQ) (sc:Fx fo) (n:FX):FP Mc:=match ops[ps.length]? with
 |some o=>FB (kD o ((e,ps)::r) sc n)
 |none=>ps.getLast?.map λa=>eS r sc n a
def oN (h:ps.length<=1):lG s ops sgs e ps ts sc n=rk ops e ps ts sc n:=by
 unfold lG;dsimp only;rw[FF (by lia)]
 rfl
def sN {a b:Int}(h:sgs[qs.length]?=FB op):lG s ops sgs e (qs++[a,b]) ts sc n=match ga s op a b with
  | .error c=>FB (.err c)
  | .ok v=>rk ops e (qs++[a,v]) ts sc n:=by
 have l:(qs++[a,b]).length=qs.length+2:=by simp
 unfold lG;dsimp only;rw[l,FI (by lia),Nw,h,show(qs++[a,b])[qs.length]?=FB a by simp,show qs.length+2-1=qs.length+1 from Go,show(qs++[a,b])[qs.length+1]?=FB b by simp];dsimp only;rw[show(qs++[a,b]).take (qs.length+1)=qs++[a] by rw[Q8,JL (LQ _)];simp];cases ga s op a b with
 |error c=>rfl
 |ok v=>dsimp only;rw[G9];rfl
def oR (hs:s≠2) {a b:Int} :arith op a b n=match ga s op a b with
  | .error c=> .error c
  | .ok d=> .ok (d,n):=by
 have ck: ∀x:Int,checked x n=match checked x 0 with
   | .error c=> .error c
   | .ok (d,_)=> .ok (d,n):=λx=>by unfold checked;split<;>rfl
 have go:arith op a b n=match arith op a b 0 with
   | .error c=> .error c
   | .ok (d,_)=> .ok (d,n):=by
  unfold arith;split
  .exact ck _
  split
  .exact ck _
  split
  .exact ck _
  split
  .rfl
  split
  .exact ck _
  .exact ck _
 rw[go];unfold ga;rw[FF hs];cases arith op a b 0<;>rfl
theorem oF (hs:s≠2) (hm: ∀ps ts sc n,eR S.funs (.go ((e,ps)::ts) sc n)=lG s ops sgs e ps ts sc n) (sb:Sub G F0): ∀(r:Rest) (k n:FX) (qs:Fx Int) (x:Int) (h:fo),(∀j,j<k->EvP S F0 f j)->Ag S V v (h::tl)->wm L V G r->3*n+2<=k->dE x->
  ops.drop (qs.length+1)=DO r->sgs.drop qs.length=An r->(match Wl k S v x r n with
   | .error c=>f (.err c)
   | .ok (a,m)=>dE a->m<=n-> ∀h,Ag S V v (h::tl)->HE S.funs f (eS ts (h::tl) m a))-> ∃m,rk ops e (qs++[x]) ts (h::tl) n=FB m/\HE S.funs f m
 |r,0,n,qs,x,h,_,_,_,hk,_,_,_,_=>by lia
 | .nil,k+1,n,qs,x,h,IH,A,w,hk,bx,hd,hg,q=>by
  unfold Wl at q;refine#[_,?_,q bx (F5 _) h A];unfold rk;rw[Gb,show qs.length+[x].length=qs.length+1 from Go,pM hd];simp
 | .cons op o r,k+1,n,qs,x,h,IH,A,w,hk,bx,hd,hg,q=>by
  unfold wm at w;unfold Wl at q;dsimp only at q;obtain⟨d1,d2⟩:=kU hd;obtain⟨g1,g2⟩:=kU hg;refine#[kD o ((e,qs++[x])::ts) (h::tl) n,by unfold rk;rw[Gb,show qs.length+[x].length=qs.length+1 from Go,d1],IH k (Ib _) V v G o _ h tl n A w.2.1 sb (by lia) ?_];cases h1:ev k S v o n with
  |error c=>rw[h1] at q;exact q
  |ok z=>
   obtain⟨b,m1⟩:=z;rw[h1] at q;intro b1 l1 h' A';dsimp only at q;rw[oR hs] at q;have st: ∀m,(match ga s op x b with
     | .error c=>FB (.err c)
     | .ok d=>rk ops e (qs++[x,d]) ts (h'::tl) m1)=FB m->HE S.funs f m->HE S.funs f (eS ((e,qs++[x])::ts) (h'::tl) m1 b):=λm QC hq=>by
    refine HE.step (m':=m) ?_ hq;show eR S.funs (.go ((e,(qs++[x])++[b])::ts) (h'::tl) m1)=FB m;rw[hm,G9];exact(sN g1).trans QC
   cases h2:ga s op x b with
   |error c=>
    rw[h2] at q st;exact st _ Go (rg q)
   |ok d=>
    rw[h2] at q st;dsimp only at q st;have bd:dE d:=by
     have z:=oR hs (op:=op) (a:=x) (b:=b) (n:=0);rw[h2] at z;exact(qt z).1
    obtain⟨m,e1,e2⟩:=oF hs hm sb r k m1 (qs++[x]) d h' (λj hj=>IH j (JH hj)) A' w.2.2 (by lia) bd (by rw[Gb];exact d2) (by rw[Gb];exact g2) (by
     cases h3:Wl k S v d r m1 with
     |error c=>rw[h3] at q;exact q
     |ok z=>
      rw[h3] at q;intro y1 y2;exact q y1 (by lia))
    rw[G9] at e1;exact st m e1 e2
def evD (s:FX) (k:FX) (S:Scope) (v:Env) (l:Exps) (n:FX):Res Int:=if s=1 then ZE k S v l n else Ul k S v l n
def EK:evD s (k+1) S v .nil n= .ok (1-nP s,n):=by
 unfold evD nP;split
 .unfold ZE;rfl
 .unfold Ul;rfl
def nX:evD s (k+1) S v (.cons e r) n=match ev k S v e n with
  | .error c=> .error c
  | .ok (a,m)=>if jq s a=FS then .ok (nP s,m) else evD s k S v r m:=by
 unfold evD nP jq;split
 .rw[ZE]
  cases ev k S v e n with
  |error c=>rfl
  |ok z=>dsimp only;simp only[beq_iff_eq]
 .rw[Ul]
  cases ev k S v e n with
  |error c=>rfl
  |ok z=>dsimp only;simp only[bne_iff_ne]
def mM (s:FX):dE (nP s)/\dE (1-nP s):=by unfold nP;split<;>decide
theorem rV (hm: ∀ps ts sc n,eR S.funs (.go ((e,ps)::ts) sc n)=pC s ops e ps ts sc n) (sb:Sub G F0): ∀(l:Exps) (k n:FX) (ps:Fx Int) (h:fo),(∀j,j<k->EvP S F0 f j)->Ag S V v (h::tl)->oS V G l->3*n+2<=k->
  ops.drop ps.length=lc l-> ¬ps.getLast?.any (jq s)=FS->(match evD s k S v l n with
   | .error c=>f (.err c)
   | .ok (a,m)=>dE a->m<=n-> ∀h,Ag S V v (h::tl)->HE S.funs f (eS ts (h::tl) m a))->HE S.funs f (.go ((e,ps)::ts) (h::tl) n)
 |l,0,n,ps,h,_,_,_,hk,_,_,_=>by lia
 | .nil,k+1,n,ps,h,IH,A,w,hk,hd,hp,q=>by
  rw[EK] at q;exact HE.step (by rw[hm];unfold pC;rw[FF hp,pM hd]) (q (mM s).2 (F5 _) h A)
 | .cons o r,k+1,n,ps,h,IH,A,w,hk,hd,hp,q=>by
  unfold oS at w;rw[nX] at q;obtain⟨d1,d2⟩:=kU hd;refine HE.step (by rw[hm];unfold pC;rw[FF hp,d1]) (IH k (Ib _) V v G o _ h tl n A w.1 sb (by lia) ?_);cases h1:ev k S v o n with
  |error c=>rw[h1] at q;exact q
  |ok z=>
   obtain⟨a,m1⟩:=z;rw[h1] at q;intro b1 l1 h' A';dsimp only at q;by_cases ha:jq s a=FS
   .rw[FI ha] at q
    exact HE.step (by show eR S.funs (.go ((e,ps++[a])::ts) _ _)=_;rw[hm];unfold pC;rw[FI (by simp [ha])]) (q (mM s).1 (by lia) h' A')
   .rw[FF ha] at q
    refine rV hm sb r k m1 (ps++[a]) h' (λj hj=>IH j (JH hj)) A' w.2 (by lia) (by rw[Gb];exact d2) (by simp [ha]) ?_;cases h3:evD s k S v r m1 with
    |error c=>rw[h3] at q;exact q
    |ok z=>
     rw[h3] at q;intro y1 y2;exact q y1 (by lia)
def EI (e:Exp) (y:GK) (b:Exp) (p q:Int) (acc:Fx Int) (r:Fx dQ) (sc:Fx fo) (n:FX):Mc:=if p+(acc.length:Int)<=q then(match n with
   |0=> .err (-13)
   |n+1=>kD b ((e,p::q::acc)::r) (pj sc y (p+(acc.length:Int))) n)
  else eS r sc n (acc.getLast?.getD 0)
def qm (h':acc.length<=1):gP e y b p q acc ts (h::tl) n=FB (EI e y b p q acc ts (h::tl) n):=by
 unfold gP EI;dsimp only;rw[FF (by lia)];dsimp only;split
 .cases n<;>rfl
 .rfl
def yA:gP e y b p q (acc++[x,z]) ts (h::tl) n=FB (match checked (x+z) 0 with
  | .error c=> .err c
  | .ok (d,_)=>EI e y b p q (acc++[x,d]) ts (h::tl) n):=by
 have l: ∀d,(acc++[x,d]).length=acc.length+2:=λd=>by simp
 unfold gP EI;dsimp only;rw[l,FI (by lia),Nw,show(acc++[x,z]).getD acc.length 0=x by simp [Jl],show acc.length+2-1=acc.length+1 from Go,show(acc++[x,z]).getD (acc.length+1) 0=z by simp [Jl],
  show(acc++[x,z]).take (acc.length+1)=acc++[x] by rw[Q8,JL (LQ _)];simp]
 cases checked (x+z) 0 with
 |error c=>rfl
 |ok d=>
  obtain⟨d,_⟩:=d;dsimp only;rw[l,G9];split
  .cases n<;>rfl
  .rfl
def vF:checked x n=match checked x 0 with
  | .error c=> .error c
  | .ok (d,_)=> .ok (d,n):=by unfold checked;split<;>rfl
theorem w6 (sb:Sub G F0) (ny:y∉V) (bp:dE p) (bq:dE q) (w:WS (y::V) G b): ∀(k n:FX) (acc:Fx Int) (x:Int) (h:fo),(∀j,j<k->EvP S F0 f j)->Ag S V v (h::tl)->3*n+2<=k->dE x->(acc=[]/\x=0\/ ∃qs,acc=qs++[x])->
  (match evSum k S v y (p+(acc.length:Int)) q b x n with
   | .error c=>f (.err c)
   | .ok (a,m)=>dE a->m<=n-> ∀h,Ag S V v (h::tl)->HE S.funs f (eS ts (h::tl) m a))->HE S.funs f (EI (.sum y lo hi b) y b p q acc ts (h::tl) n)
 |0,n,acc,x,h,_,_,hk,_,_,_=>by lia
 |k+1,n,acc,x,h,IH,A,hk,bx,ha,r=>by
  unfold evSum at r;unfold EI;have lx:acc.getLast?.getD 0=x:=by
   rcases ha with⟨e1,e2⟩|⟨qs,e⟩
   .rw[e1,e2];rfl
   .rw[e];simp
  by_cases hq:p+(acc.length:Int)<=q
  .rw[FI hq]
   rw[FF (by lia)] at r;cases n with
   |zero=>exact rg r
   |succ n=>
    dsimp only at r ⊢;have bpt:dE (p+(acc.length:Int)):=by unfold dE at *; lia
    refine IH k (Ib _) (y::V) _ G b _ _ tl n (A.set ny bpt) w sb (by lia) ?_;cases h1:ev k S ((y,p+(acc.length:Int))::v) b n with
    |error c=>rw[h1] at r;exact r
    |ok z=>
     obtain⟨z,m1⟩:=z;rw[h1] at r;intro b1 l1 h' A0;have A':Ag S V v (h'::tl):=A0.unset ny A.big λe=>A.low (by rw[e];rfl);dsimp only at r;rw[vF] at r;have go: ∀(as:Fx Int) (d:Int) (hd:dE d) (hl: ∃qs,as=qs++[d]) (hn:as.length=acc.length+1),(match evSum k S v y (p+(acc.length:Int)+1) q b d m1 with
       | .error c=>f (.err c)
       | .ok (a,m)=>dE a->m<=n+1-> ∀h,Ag S V v (h::tl)->HE S.funs f (eS ts (h::tl) m a))->HE S.funs f (EI (.sum y lo hi b) y b p q as ts (h'::tl) m1):=λas d hd hl hn r=>by
      refine w6 sb ny bp bq w k m1 as d h' (λj hj=>IH j (JH hj)) A' (by lia) hd (.inr hl) ?_;rw[show p+(as.length:Int)=p+(acc.length:Int)+1 by rw[hn];lia];cases h3:evSum k S v y (p+(acc.length:Int)+1) q b d m1 with
      |error c=>rw[h3] at r;exact r
      |ok z=>
       rw[h3] at r;intro y1 y2;exact r y1 (by lia)
     show HE S.funs f (.go ((.sum y lo hi b,p::q::(acc++[z]))::ts) (h'::tl) m1)
     rcases ha with⟨e1,e2⟩|⟨qs,e⟩
     .subst e1 e2
      have cz:checked (0+z) 0= .ok (z,0):=by unfold checked;rw[Int.zero_add];exact FI b1
      rw[cz] at r;exact HE.step (m':=EI (.sum y lo hi b) y b p q [z] ts (h'::tl) m1) (qm (acc:=[z]) (F5 1)) (go [z] z b1 #[[],Go] Go r)
     .subst e
      have st: ∀m,gP (.sum y lo hi b) y b p q (qs++[x,z]) ts (h'::tl) m1=FB m->HE S.funs f m->HE S.funs f (.go ((.sum y lo hi b,p::q::((qs++[x])++[z]))::ts) (h'::tl) m1):=λm e hm=>HE.step (m':=m) (by rw[G9];exact e) hm
      refine st _ yA ?_;cases h2:checked (x+z) 0 with
      |error c=>rw[h2] at r;exact rg r
      |ok d=>
       obtain⟨d,o⟩:=d;rw[h2] at r;exact go _ d (bR h2).1 #[qs++[x],by rw[G9];rfl] (by simp) r
  .rw[FF hq,lx]
   rw[FI (by lia)] at r;exact r bx (F5 _) h A
def abI (FO:gF S F0): ∀k,EvP S F0 f k:=by
 intro k
 induction k using FX.strongRecOn with
 |_ k IH=>
  intro V v G e ts h tl n A w sb hk q;cases k with
  |zero=>lia
  |succ k=>
   cases n with
   |zero=>unfold ev at q;exact rg q
   |succ n=>
    have IH': ∀j,j<k->EvP S F0 f j:=λj hj=>IH j (JH hj)
    have Ik:EvP S F0 f k:=IH k (Ib _)
    show HE S.funs f (.go ((e,[])::ts) (h::tl) n)
    unfold ev at q;unfold abH at q;cases e with
    |num x=>
     unfold WS at w;exact HE.step Go (q (by unfold dE BIG;lia) (Ib _) h A)
    |name x=>
     exact HE.step (by unfold eR;dsimp only;rw[A.val x w];rfl) (q (A.big x) (Ib _) h A)
    |call g l=>
     dsimp only at q;unfold WS at w;obtain⟨⟨p,hp,hl⟩,wl⟩:=w;refine wR sb l k n [] h IH' A wl (by lia) Go (λ_ z=>nomatch z) ?_
     cases h1:evAll k S v l n with
     |error c=>rw[h1] at q;exact q
     |ok z=>
      obtain⟨as,m1⟩:=z;rw[h1] at q;dsimp only at q ⊢;intro b1 q1 l1 h' A';rw[Fx.nil_append] at b1 ⊢;have no:(lc l)[as.length]?=FM:=Js (KH q1.symm);rcases FO.all g p (sb g p hp) with⟨fu,hg,hn,⟨Kg,Fg,wg,sg,sf⟩,_,_⟩|⟨hg,hb⟩
      .rw[hg] at q
       dsimp only at q;have la:fu.2.1.length=as.length:=by rw[hn,<-hl,q1]
       refine HE.step (by unfold eR;dsimp only;rw[no,hg];dsimp only;rw[FI q1]) (Ik (fu.2.1++Kg) (fu.2.1.zip as++S.consts) Fg fu.2.2 _ _ (h'::tl) m1 ?_ wg sf (by lia) ?_)
       .have zf: ∀x,u9 fu.2.1 as x=((fu.2.1.zip as).find? λa=>a.1 == x).map (·.2):=λ_=>rfl
        refine#[λx hx=>?_,λx hx=>A'.bot x hx,λz=>?_,λx=>?_]
        .show(match u9 fu.2.1 as x with|some a=>FB a|none=>fR (h'::tl) x)=_
         rw[zf,lX];cases z:(fu.2.1.zip as).find? λa=>a.1 == x with
         |some a=>rfl
         |none=>
          refine A'.bot x ?_;rcases Gr.mp hx with hx|hx
          .exfalso
           obtain⟨i,hi,ei⟩:=Fx.getElem_of_mem hx;have hz:=Qg.mp z (fu.2.1[i],as[i]'(by lia)) (Fx.mem_iff_getElem.mpr #[i,by rw[Xi];lia,by simp]);exact hz (by simp [ei])
          .exact sg x hx
        .have:(h'::tl).length+1=1:=z
         rw[FW] at this;lia
        .rw[lX]
         split
         .rename_i a ha
          exact b1 _ (LF (K8 ha)).2
         .exact FO.aii x
       .cases h2:ev k S (fu.2.1.zip as++S.consts) fu.2.2 m1 with
        |error c=>rw[h2] at q;exact q
        |ok z=>
         obtain⟨b,m2⟩:=z;rw[h2] at q;intro b2 l2 h2 A2;have no2:(lc l)[(as++[b]).length]?=FM:=Js (by rw[Gb,q1];exact Kr _ _);refine HE.step (m':=eS ts (h'::tl) m2 b) ?_ (q b2 (by lia) h' A');show eR S.funs (.go ((.call g l,as++[b])::ts) _ _)=_;unfold eR;dsimp only;rw[no2,hg];dsimp only;rw[FF (by rw[Gb,q1];exact FX.succ_ne_self _),<-q1,Fx.getElem?_concat_length]
         rfl
      .rw[hg] at q
       exact HE.step (by unfold eR;dsimp only;rw[no,hg];dsimp only;rw[FI q1]) (q (qw b1) (by lia) h' A')
    |neg e=>
     dsimp only at q;unfold WS at w;refine HE.step Go (Ik V v G e _ h tl n A w sb (by lia) ?_);cases h1:ev k S v e n with
     |error c=>rw[h1] at q;exact q
     |ok z=>
      rw[h1] at q;intro b1 l1 h' A';exact HE.step Go (q (wS b1) (by lia) h' A')
    |not e=>
     dsimp only at q;unfold WS at w;refine HE.step Go (Ik V v G e _ h tl n A w sb (by lia) ?_);cases h1:ev k S v e n with
     |error c=>rw[h1] at q;exact q
     |ok z=>
      rw[h1] at q;intro b1 l1 h' A';exact HE.step Go (q (gH _) (by lia) h' A')
    |sums e r=>
     dsimp only at q;unfold WS at w;refine HE.step Go (Ik V v G e _ h tl n A w.1 sb (by lia) ?_);cases h1:ev k S v e n with
     |error c=>rw[h1] at q;exact q
     |ok z=>
      obtain⟨x,m1⟩:=z;rw[h1] at q;intro b1 l1 h' A';obtain⟨m,e1,e2⟩:=oF (s:=3) (e:= .sums e r) (ops:=e::DO r) (sgs:=An r) [01] (λ_ _ _ _=>rfl) sb r k m1 [] x h' IH' A' w.2.2 (by lia) b1 Go Go (by
       dsimp only at q;cases h3:Wl k S v x r m1 with
       |error c=>rw[h3] at q;exact q
       |ok z=>rw[h3] at q;intro y1 y2;exact q y1 (by lia))
      exact HE.step ((oN (s:=3) (sgs:=An r) (ps:=[x]) (F5 1)).trans e1) e2
    |prods e r=>
     dsimp only at q;unfold WS at w;refine HE.step Go (Ik V v G e _ h tl n A w.1 sb (by lia) ?_);cases h1:ev k S v e n with
     |error c=>rw[h1] at q;exact q
     |ok z=>
      obtain⟨x,m1⟩:=z;rw[h1] at q;intro b1 l1 h' A';obtain⟨m,e1,e2⟩:=oF (s:=4) (e:= .prods e r) (ops:=e::DO r) (sgs:=An r) [01] (λ_ _ _ _=>rfl) sb r k m1 [] x h' IH' A' w.2.2 (by lia) b1 Go Go (by
       dsimp only at q;cases h3:Wl k S v x r m1 with
       |error c=>rw[h3] at q;exact q
       |ok z=>rw[h3] at q;intro y1 y2;exact q y1 (by lia))
      exact HE.step ((oN (s:=4) (sgs:=An r) (ps:=[x]) (F5 1)).trans e1) e2
    |cmp op x y=>
     dsimp only at q;unfold WS at w;refine HE.step Go (Ik V v G x _ h tl n A w.2.1 sb (by lia) ?_);cases h1:ev k S v x n with
     |error c=>rw[h1] at q;exact q
     |ok z=>
      obtain⟨p,m1⟩:=z;rw[h1] at q;intro b1 l1 h' A';refine HE.step Go (Ik V v G y _ h' tl m1 A' w.2.2 sb (by lia) ?_);dsimp only at q;cases h2:ev k S v y m1 with
      |error c=>rw[h2] at q;exact q
      |ok z=>
       rw[h2] at q;intro b2 l2 h2 A2;exact HE.step Go (q (gH _) (by lia) h2 A2)
    |both e l=>
     dsimp only at q;unfold WS at w;refine rV (s:=1) (λ_ _ _ _=>rfl) sb (.cons e l) (k+1) n [] h (λj hj=>IH j hj) A (by unfold oS;exact#[w.1,w.2.2]) (by lia) Go (by simp) ?_;rw[nX];cases h1:ev k S v e n with
     |error c=>rw[h1] at q;exact q
     |ok z=>
      obtain⟨x,m1⟩:=z;rw[h1] at q;dsimp only at q ⊢;by_cases hx:x=0
      .rw[FI hx] at q
       rw[FI (show jq 1 x=FS by simp [jq,hx])];intro y1 y2;exact q y1 (by lia)
      .rw[FF hx] at q
       rw[FF (show¬jq 1 x=FS by simp [jq,hx])];show match ZE k S v l m1 with| .error c=>_| .ok (a,m)=>_
       cases h3:ZE k S v l m1 with
       |error c=>rw[h3] at q;exact q
       |ok z=>rw[h3] at q;intro y1 y2;exact q y1 (by lia)
    |either e l=>
     dsimp only at q;unfold WS at w;refine rV (s:=0) (λ_ _ _ _=>rfl) sb (.cons e l) (k+1) n [] h (λj hj=>IH j hj) A (by unfold oS;exact#[w.1,w.2.2]) (by lia) Go (by simp) ?_;rw[nX];cases h1:ev k S v e n with
     |error c=>rw[h1] at q;exact q
     |ok z=>
      obtain⟨x,m1⟩:=z;rw[h1] at q;dsimp only at q ⊢;by_cases hx:x≠0
      .rw[FI hx] at q
       rw[FI (show jq 0 x=FS by simp [jq,hx])];intro y1 y2;exact q y1 (by lia)
      .rw[FF hx] at q
       rw[FF (show¬jq 0 x=FS by simp [jq,hx])];show match Ul k S v l m1 with| .error c=>_| .ok (a,m)=>_
       cases h3:Ul k S v l m1 with
       |error c=>rw[h3] at q;exact q
       |ok z=>rw[h3] at q;intro y1 y2;exact q y1 (by lia)
    |pick c x y=>
     dsimp only at q;unfold WS at w;refine HE.step Go (Ik V v G c _ h tl n A w.1 sb (by lia) ?_);cases h1:ev k S v c n with
     |error c=>rw[h1] at q;exact q
     |ok z=>
      obtain⟨p,m1⟩:=z;rw[h1] at q;intro b1 l1 h' A';dsimp only at q;by_cases hp:p≠0
      .rw[FI hp] at q
       refine HE.step (m':=kD x ((.pick c x y,[p])::ts) (h'::tl) m1) (by show FB (kD (if p≠0 then x else y) _ _ _)=_;rw[FI hp];rfl) (Ik V v G x _ h' tl m1 A' w.2.1 sb (by lia) ?_)
       cases h2:ev k S v x m1 with
       |error c=>rw[h2] at q;exact q
       |ok z=>
        rw[h2] at q;intro b2 l2 h2 A2;exact HE.step Go (q b2 (by lia) h2 A2)
      .rw[FF hp] at q
       refine HE.step (m':=kD y ((.pick c x y,[p])::ts) (h'::tl) m1) (by show FB (kD (if p≠0 then x else y) _ _ _)=_;rw[FF hp];rfl) (Ik V v G y _ h' tl m1 A' w.2.2 sb (by lia) ?_)
       cases h2:ev k S v y m1 with
       |error c=>rw[h2] at q;exact q
       |ok z=>
        rw[h2] at q;intro b2 l2 h2 A2;exact HE.step Go (q b2 (by lia) h2 A2)
    |sum y lo hi b=>
     dsimp only at q;unfold WS at w;refine HE.step Go (Ik V v G lo _ h tl n A w.2.1 sb (by lia) ?_);cases h1:ev k S v lo n with
     |error c=>rw[h1] at q;exact q
     |ok z=>
      obtain⟨p,m1⟩:=z;rw[h1] at q;intro b1 l1 h' A';refine HE.step Go (Ik V v G hi _ h' tl m1 A' w.2.2.1 sb (by lia) ?_);dsimp only at q;cases h2:ev k S v hi m1 with
      |error c=>rw[h2] at q;exact q
      |ok z=>
       obtain⟨r,m2⟩:=z;rw[h2] at q;intro b2 l2 h2 A2;dsimp only at q;refine HE.step (m':=EI (.sum y lo hi b) y b p r [] ts (h2::tl) m2) (qm (acc:=[]) (Gn 1)) (w6 sb w.1 b1 b2 w.2.2.2 k m2 [] 0 h2 IH' A2 (by lia) [01] (.inl #[Go,Go]) ?_);show match evSum k S v y (p+0) r b 0 m2 with| .error c=>_| .ok (a,m)=>_
       rw[Int.add_zero];cases h3:evSum k S v y p r b 0 m2 with
       |error c=>rw[h3] at q;exact q
       |ok z=>rw[h3] at q;intro y1 y2;exact q y1 (by lia)
end
end OS
namespace OS
open Vbemac
def WSx (F0:Fx (GK×FX)) (e:Exp):Prop:= ∃V G,WS V G e/\Sub G F0
structure DN (F0:Fx (GK×FX)) (t:dQ):Prop where
 ws:WSx F0 t.1
 ps: ∀x∈t.2,dE x
def zh (sc:Fx fo):Prop:= ∀s∈sc,∀y x,s y=FB x->dE x
def Gd (F0:Fx (GK×FX)):Mc->Prop
 | .go ts sc n=>(∀t∈ts,DN F0 t)/\zh sc/\sc.length+n<=10001
 | .done x sc n=>dE x/\zh sc/\sc.length+n<=10001
 | .err _=>True
def fY (h: ∀t∈ts,DN F0 t) (g:zh sc) (b:dE x) (sn:sc.length+n<=10001):Gd F0 (eS ts sc n x):=by
 cases ts with
 |nil=>exact#[b,g,sn]
 |cons t r=>
  refine#[λu hu=>?_,g,sn];rcases FU.mp hu with z|z
  .have:=h t (FL ..)
   rw[z];refine#[this.ws,λy hy=>?_];rcases Gr.mp hy with hy|hy
   .exact this.ps y hy
   .rw[Ga.mp hy];exact b
  .exact h u (FK _ z)
def fC (h: ∀t∈ts,DN F0 t) (g:zh sc) (w:WSx F0 e) (sn:sc.length+n<=10002):Gd F0 (kD e ts sc n):=by
 cases n with
 |zero=>trivial
 |succ n=>
  refine#[λu hu=>?_,g,by lia];rcases FU.mp hu with z|z
  .rw[z];exact#[w,λy hy=>nomatch hy]
  .exact h u z
theorem mI {V:Fx GK}{G:Fx (GK×FX)} : ∀ {l:Exps}{e:Exp},oS V G l->e∈lc l->WS V G e
 | .nil,_,_,h=>nomatch h
 | .cons a l,e,w,h=>by
  unfold oS at w;rcases FU.mp h with z|z
  .rw[z];exact w.1
  .exact mI w.2 z
theorem rX {L:Fx String}{V:Fx GK}{G:Fx (GK×FX)} : ∀ {r:Rest}{e:Exp},wm L V G r->e∈DO r->WS V G e
 | .nil,_,_,h=>nomatch h
 | .cons op a l,e,w,h=>by
  unfold wm at w;rcases FU.mp h with z|z
  .rw[z];exact w.2.1
  .exact rX w.2.2 z
def AV (h: ∀t∈(e,ps)::ts,DN F0 t) (g:zh sc) (sn:sc.length+n<=10001) (w: ∀o∈ops,WSx F0 o) (hm:pC s ops e ps ts sc n=FB m):Gd F0 m:=by
 have h': ∀t∈ts,DN F0 t:=λt ht=>h t (FK _ ht)
 unfold pC at hm;split at hm
 .cases hm;exact fY h' g (mM s).1 sn
 .split at hm
  .rename_i o ho
   cases hm;exact fC h g (w o (G8 ho)) (by lia)
  .cases hm;exact fY h' g (mM s).2 sn
def sP {a b v:Int}(h:ga s op a b= .ok v):dE v:=by
 unfold ga at h;split at h
 .cases h;exact gH _
 .split at h
  .cases h
  .rename_i e
   cases h;exact(qt e).1
def vY (h: ∀t∈(e,ps)::ts,DN F0 t) (g:zh sc) (sn:sc.length+n<=10001) (w: ∀o∈ops,WSx F0 o) (hm:lG s ops sgs e ps ts sc n=FB m):Gd F0 m:=by
 have h': ∀t∈ts,DN F0 t:=λt ht=>h t (FK _ ht)
 have h0:=h (e,ps) (FL ..)
 have go: ∀qs:Fx Int,(∀x∈qs,dE x)->(match ops[qs.length]? with
   |some o=>FB (kD o ((e,qs)::ts) sc n)
   |none=>qs.getLast?.map λa=>eS ts sc n a)=FB m->Gd F0 m:=λqs hq hm=>by
  split at hm
  .rename_i o ho
   cases hm;refine fC (λt ht=>?_) g (w o (G8 ho)) (by lia);rcases FU.mp ht with z|z
   .rw[z];exact#[h0.ws,hq]
   .exact h' t z
  .obtain⟨x,hx,rfl⟩:=GH.mp hm
   exact fY h' g (hq x (ME hx)) sn
 unfold lG at hm;dsimp only at hm;split at hm
 .cases hm
 .cases hm;trivial
 .rename_i qs he
  refine go qs (λx hx=>?_) hm;split at he
  .split at he
   .rename_i op a b _ ha hb
    have he:=F4 he;split at he
    .cases he
    .rename_i v hv
     cases he;rcases Gr.mp hx with hx|hx
     .exact h0.ps x (UL hx)
     .rw[Ga.mp hx];exact sP hv
   .cases he
  .cases he;exact h0.ps x hx
def By (g:zh sc) (b:dE x):zh (pj sc y x):=by
 cases sc with
 |nil=>exact g
 |cons s r=>
  intro t ht z v hv;unfold pj at ht;rcases FU.mp ht with e|e
  .rw[e] at hv
   dsimp only at hv;split at hv
   .cases hv;exact b
   .exact g s (FL ..) z v hv
  .exact g t (FK _ e) z v hv
def EG (h: ∀t∈(e,p::q::acc)::ts,DN F0 t) (g:zh sc) (sn:sc.length+n<=10001) (w:WSx F0 b) (hm:gP e y b p q acc ts sc n=FB m):Gd F0 m:=by
 have h': ∀t∈ts,DN F0 t:=λt ht=>h t (FK _ ht)
 have h0:=h (e,p::q::acc) (FL ..)
 have hp:dE p:=h0.ps p (FL ..)
 have hq:dE q:=h0.ps q (FK _ (FL ..))
 have ha: ∀x∈acc,dE x:=λx hx=>h0.ps x (FK _ (FK _ hx))
 unfold gP at hm;dsimp only at hm;split at hm
 .cases hm;trivial
 .rename_i as he
  have hs: ∀x∈as,dE x:=λx hx=>by
   split at he
   .split at he
    .cases he
    .rename_i v _ hv
     cases he;rcases Gr.mp hx with hx|hx
     .exact ha x (UL hx)
     .rw[Ga.mp hx];exact(bR hv).1
   .cases he;exact ha x hx
  split at hm
  .rename_i hle
   cases n with
   |zero=>cases hm;trivial
   |succ n=>
    cases sc with
    |nil=>cases hm
    |cons s0 sc=>
    cases hm;refine fC (λt ht=>?_) (By g (by unfold dE at *; lia)) w (by show(s0::sc).length+n<=10002;lia);rcases FU.mp ht with z|z
    .rw[z]
     refine#[h0.ws,λx hx=>?_];rcases FU.mp hx with z|hx
     .rw[z];exact hp
     .rcases FU.mp hx with z|hx
      .rw[z];exact hq
      .exact hs x hx
    .exact h' t z
  .cases hm
   refine fY h' g ?_ sn;cases z:as.getLast? with
   |none=>show dE 0;decide
   |some x=>exact hs x (ME z)
def E7 (FO:gF S F0) {m m':Mc}(h:Gd F0 m) (hm:eR S.funs m=FB m'):Gd F0 m':=by
 cases m with
 |done x sc n=>cases hm
 |err c=>cases hm
 |go ts sc n=>
  cases ts with
  |nil=>cases hm
  |cons t ts=>
   obtain⟨e,ps⟩:=t;obtain⟨h,g,sn⟩:=h;have h': ∀t∈ts,DN F0 t:=λt ht=>h t (FK _ ht)
   have h0:=h (e,ps) (FL ..);obtain⟨V,G,w,sb⟩:=h0.ws;unfold eR at hm;cases e with
   |num x=>cases hm;unfold WS at w;exact fY h' g (by unfold dE BIG;lia) sn
   |name x=>
    obtain⟨v,hv,rfl⟩:=GH.mp hm;refine fY h' g ?_ sn;unfold look at hv;cases sc with
    |nil=>cases hv
    |cons s r=>
     split at hv
     .rename_i a ha
      cases hv;exact g s (FL ..) x v ha
     .unfold fR at hv
      rw[Sf] at hv;cases z:(s::r).getLast? with
      |none=>rw[z] at hv;cases hv
      |some t=>rw[z] at hv;exact g t (ME z) x v hv
   |call f l=>
    dsimp only at hm;unfold WS at w;split at hm
    .rename_i o ho
     cases hm;exact fC h g #[V,G,mI w.2 (G8 ho),sb] (by lia)
    .split at hm
     .split at hm
      .cases hm;exact fY h' g (qw h0.ps) sn
      .cases hm
     .rename_i fu hf
      obtain⟨⟨p,hp,hl⟩,wl⟩:=w;split at hm
      .cases hm
       rcases FO.all f p (sb f p hp) with⟨g',hg,hn,⟨Kg,Fg,wg,sg,sf⟩,_,_⟩|⟨hg,_⟩
       .rw[hf] at hg
        cases hg;refine fC h (λs hs y x hx=>?_) #[_,Fg,wg,sf] (by rw[FW];lia);rcases FU.mp hs with z|z
        .rw[z] at hx
         obtain⟨a,ha,rfl⟩:=GH.mp hx;exact h0.ps _ (LF (K8 ha)).2
        .exact g s z y x hx
       .rw[hf] at hg;cases hg
      .cases sc with
       |nil=>cases hm
       |cons s0 sc=>
       obtain⟨v,hv,rfl⟩:=GH.mp hm;exact fY h' (λs hs=>g s (FK _ hs)) (h0.ps v (G8 hv)) (by rw[FW] at sn;lia)
   |neg e=>
    unfold WS at w;cases ps with
    |nil=>cases hm;exact fC h g #[V,G,w,sb] (by lia)
    |cons b r=>cases hm;exact fY h' g (wS (h0.ps b (FL ..))) sn
   |not e=>
    unfold WS at w;cases ps with
    |nil=>cases hm;exact fC h g #[V,G,w,sb] (by lia)
    |cons b r=>cases hm;exact fY h' g (gH _) sn
   |sums e r=>
    unfold WS at w;refine vY h g sn (λo ho=>?_) hm;rcases FU.mp ho with z|z
    .rw[z];exact#[V,G,w.1,sb]
    .exact#[V,G,rX w.2.2 z,sb]
   |prods e r=>
    unfold WS at w;refine vY h g sn (λo ho=>?_) hm;rcases FU.mp ho with z|z
    .rw[z];exact#[V,G,w.1,sb]
    .exact#[V,G,rX w.2.2 z,sb]
   |cmp op x y=>
    unfold WS at w;refine vY h g sn (λo ho=>?_) hm;rcases FU.mp ho with z|z
    .rw[z];exact#[V,G,w.2.1,sb]
    .rw[Ga.mp z];exact#[V,G,w.2.2,sb]
   |both e l=>
    unfold WS at w;refine AV h g sn (λo ho=>?_) hm;rcases FU.mp ho with z|z
    .rw[z];exact#[V,G,w.1,sb]
    .exact#[V,G,mI w.2.2 z,sb]
   |either e l=>
    unfold WS at w;refine AV h g sn (λo ho=>?_) hm;rcases FU.mp ho with z|z
    .rw[z];exact#[V,G,w.1,sb]
    .exact#[V,G,mI w.2.2 z,sb]
   |pick c x y=>
    unfold WS at w;dsimp only at hm;split at hm
    .cases hm;exact fC h g #[V,G,w.1,sb] (by lia)
    .rename_i p
     cases hm;refine fC h g ?_ (by lia);split
     .exact#[V,G,w.2.1,sb]
     .exact#[V,G,w.2.2,sb]
    .rename_i v
     cases hm;exact fY h' g (h0.ps _ (FK _ (FL ..))) sn
    .cases hm
   |sum y lo hi b=>
    unfold WS at w;dsimp only at hm;split at hm
    .cases hm;exact fC h g #[V,G,w.2.1,sb] (by lia)
    .cases hm;exact fC h g #[V,G,w.2.2.1,sb] (by lia)
    .exact EG h g sn #[y::V,G,w.2.2.2,sb] hm
end OS
namespace OS
open PySem PySem.Spec L2
open PyProof.Rows hiding St
variable {P:Gy}{w:Hf}{K:FC}{mg:Gf->FP FE}{base:Ho}{a:bi}
abbrev IsZ (h:Ho) (z TI TO T:FG) (b:GP):Prop:=
 h.get? z=FB { cls:= .type "zip",dict:=FM,data:= .fields [Ox T, .bool b, .bool Gc, .ref TI, .ref TO].toArray,slots:= [].toArray }
section
variable {prog:Gy}{A:Hm}{E:FE->FJ->Prop}{s:FJ}{z TI TO T i1 i2 l1 l2:FG}{b:GP}{k1 k2:FX}{xs ys:JN FE}{x y:FE}{oT:Jp}
def CI {a:FG}{Q:FP Jp->FJ->Prop}(h:Q (s.heap.get? a) s):Gk (model prog w) A (loadIfAlive a) Q E s:=λΓ p _=>by
 unfold loadIfAlive;rw[PySem.Sem.wp_loadIfAlive];exact h
def Df {Q:GP->FJ->Prop}(hz:IsZ s.heap z TI TO T b) (hT:s.heap.get? T=FB oT) (hQ: ∀h',IsZ h' z TI TO T FS->M4 z s.heap h'->Q Gc { s with heap:=h' }):Gk (model prog w) A (Nu (.ref z)) Q E s:=by
 unfold Nu;refine FV (wpAny_field hz Go (x:=Ox T) Go ?_);refine FV (CI ?_);rw[show((T:Int)).toNat=T from Go,hT];refine FV (wpAny_field hz Go (x:= .bool b) Go ?_);cases b with
 |true=>exact FV (Gu (Gu (hQ _ hz #[Go,λ_ _=>rfl])))
 |false=>exact FV (wpAny_setField_rec hz (by simp) λh' hz' hs=>Gu (hQ h' hz' hs))
def Do (hh:A.handled=FM) (D:Xm z TI TO i1 i2 l1 l2) (hz:IsZ s.heap z TI TO T b) (hT:s.heap.get? T=FB oT) (UG:Sn s.heap TI (.ref i1) (.ref i2))
  (h1:s.heap.IsListIter i1 l1 k1) (h2:s.heap.IsListIter i2 l2 k1) (Vf:s.heap.IsList l1 xs) (VC:s.heap.IsList l2 ys) {Q:FP FE->FJ->Prop}
  (hE:xs[k1]?=FM-> ∀h',(∀c o,c≠z->c≠i1->s.heap.get? c=FB o->h'.get? c=FB o)->Q FM { s with heap:=h' })
  (hQ: ∀x,xs[k1]?=FB x-> ∃y,ys[k1]?=FB y/\ ∀h',IsZ h' z TI TO T FS->h'.IsListIter i1 l1 (k1+1)->h'.IsListIter i2 l2 (k1+1)->Sn h' s.heap.objs.size x y->h'.objs.size=s.heap.objs.size+1->
   (∀c o,c≠z->c≠i1->c≠i2->s.heap.get? c=FB o->h'.get? c=FB o)->Q (FB (.ref s.heap.objs.size)) { s with heap:=h' }):
  Gk (model prog w) A (Sk (.ref z)) Q E s:=by
 have hTy:s.TypeIs (.ref z) "zip":=#[_,hz,Go];unfold Sk;refine FV (wpAny_attempt (wpAny_callSpecial?_slot (name:=Gf.ofString "__next__") hTy F.slot_zip_next (wpAny_call_entry F.slot_zip_next hTy F.entry_zip_next ?_ (F.args_zip_next_1 _))))
 show Gk _ _ (field (.ref z) 2>>=_) _ _ _
 refine FV (wpAny_field hz Go (x:= .bool Gc) Go ?_);show Gk _ _ (field (.ref z) 3>>=_) _ _ _;refine FV (wpAny_field hz Go (x:= .ref TI) Go ?_);refine FV (wpAny_seqItems UG Go ?_);refine FV (Df hz hT λh₁ hz₁ X5=>?_);refine FV ?_;simp only[<-JN.forIn_toList,Xh,RU];refine FV (FV (Ov ?_));show Gk _ _ (OU (.ref i1)>>=_) _ _ _;cases hx:xs[k1]? with
 |none=>
  refine FV (wpAny_nextOf_list_end hh (h1.extBut X5.extBut D.i1z) (Vf.extBut X5.extBut D.l1z) hx λh₂ e hs₂ he=>?_);obtain⟨o,ho,hc⟩:=he;exact FV (wpAny_isInstance (T:="StopIteration") (b:=FS) #[o,ho,hc] isSubtype_stop (Gu (hE hx _ λc o n1 n2 e=>hs₂ _ _ n2 (X5.extBut _ _ n1 e))))
 |some x=>
  obtain⟨y,hy,hQ⟩:=hQ x hx;refine FV (V3 (h1.extBut X5.extBut D.i1z) (Vf.extBut X5.extBut D.l1z) hx λh₂ h1₂ hs₂=>Gu (Gu (FV (FV (Ov ?_)))));show Gk _ _ (OU (.ref i2)>>=_) _ _ _;refine FV (V3 ((h2.extBut X5.extBut D.i2z).extBut hs₂.extBut D.i12.symm) ((VC.extBut X5.extBut D.l2z).extBut hs₂.extBut D.l2i1) hy λh₃ h2₃ hs₃=>Gu (Gu (Gu (FV (wpAny_newTuple (hsz:=by show 2<=GD;decide) (Gu #[_,Go,Gu ?_]))))));have hsz:h₃.objs.size=s.heap.objs.size:=by rw[hs₃.1,hs₂.1,X5.1]
  have up: ∀ {c:FG}{o:Jp}{q:Jp},h₃.get? c=FB o->(h₃.push q).get? c=FB o:=λe=>FY _ e
  rw[hsz];exact hQ _ (up (hs₃.extBut _ _ D.i2z.symm (hs₂.extBut _ _ D.i1z.symm hz₁))) ((h1₂.extBut hs₃.extBut D.i12).at λo e=>up e) (h2₃.at λo e=>up e) (by show Ho.get? _ _=_;rw[<-hsz];exact Hx _ Go) (by rw[Iq,hsz]) λc o n1 n2 n3 e=>up (hs₃.extBut _ _ n3 (hs₂.extBut _ _ n2 (X5.extBut _ _ n1 e)))
def ph:Ir (.type "zip") "keys"=pure FM:=am_miss_of_fast [00]
def lq:Ir (.type "zip") "__getattr__"=pure FM:=am_miss_of_fast [00]
def rE:entryFor table "zip.__getattribute__"=FB Builtin.«object.__getattribute__»:=
 entryFor_alias (id':="object.__getattribute__") (by kernel_rfl) [00] [00] (by kernel_rfl)
def abJ (a:FG) (vs:JN FE) (u:Tok):
  Meets (Builtin.«object.__getattribute__» #[[.ref a, .str "keys" u],[]]) (λA R s=>s.heap.get? a=FB { cls:= .type "zip",dict:=FM,data:= .fields vs,slots:= [].toArray } /\raisesAttr (.ref a) "keys" A R s):=
 Meets.of_wp λprog w A R s hs=>by
  obtain⟨hp,g,d,tk,os⟩:=s;obtain⟨hx,hs⟩:=hs;have hT:(⟨hp,g,d,tk,os⟩:FJ).TypeIs (.ref a) "zip":=#[_,hx,Go];have anh:=ph;unfold Builtin.«object.__getattribute__»
  repeat (any_goals (first|assumption|wp_step))
  exact wpAny_raiseAttrError hs.1 hs.2 (attrMsg_fits [00] [00])
def DA {a:FG}{vs:JN FE}{Q:FP FE->FJ->Prop}(hx:s.heap.get? a=FB { cls:= .type "zip",dict:=FM,data:= .fields vs,slots:= [].toArray }) (hA:A.handled=FM)
  (h: ∀h' tk,(∀b ob,s.heap.get? b=FB ob->h'.get? b=FB ob)->Q FM { s with heap:=h',toks:=tk }):Gk (model prog w) A (getAttr? (.ref a) "keys") Q E s:=by
 obtain⟨hp,g,d,tk,os⟩:=s;have hT: ∀UC,(⟨hp,g,d,UC,os⟩:FJ).TypeIs (.ref a) "zip":=λ_=>#[_,hx,Go]
 have f1:=sub_AttributeError
 have f3:=Mh.lookup
 have f4:=Mh.bind (.ref a)
 have f5:=lq;unfold getAttr? getAttrBy? getAttrBy
 repeat (any_goals (first|assumption|exact hT _|((with_reducible show Gk _ _ (call (Mt "zip.__getattribute__") _ _) _ _ _);refine call_meets Mh (hT _) rE (PySem.F.args_zip_getattribute_2 _ _) (abJ a vs _) #[hx,hA,λh' UC e hx'=>?_])|wp_step))
 obtain⟨t',u',he⟩:=hx'.there;show Gk _ _ (Zv _ _ _ _ _ _ _) _ _ _;unfold Zv
 repeat (any_goals (first|assumption|wp_step))
 all_goals first|exact h _ _ hx'.keeps|(dsimp only;repeat (any_goals (first|assumption|exact h _ _ hx'.keeps|wp_step)))
end
section
variable {prog:Gy}{A:Hm}{E:FE->FJ->Prop}{s:FJ}{z TI TO T i1 i2 l1 l2:FG}{b:GP}{k1 k2:FX}{xs ys:JN FE}{x y:FE}{oT:Jp}
def ZS (S z TI TO i1 i2:FG) (h:Ho):Prop:=(IsZip h z TI TO .none/\ ∃x y,Sn h TO x y)\/ ∃T oT b,IsZ h z TI TO T b/\h.get? T=FB oT/\T≠S/\T≠z/\T≠i1/\T≠i2
abbrev Fr (s:Ho) (l:Fx FG) (h':Ho):Prop:= ∀c o,c∉l->s.get? c=FB o->h'.get? c=FB o
def xc (hh:A.handled=FM) (D:Xm z TI TO i1 i2 l1 l2) (hz:ZS S z TI TO i1 i2 s.heap) (UG:Sn s.heap TI (.ref i1) (.ref i2)) (hS:S<s.heap.objs.size)
  (h1:s.heap.IsListIter i1 l1 k1) (h2:s.heap.IsListIter i2 l2 k1) (Vf:s.heap.IsList l1 xs) (VC:s.heap.IsList l2 ys) {Q:FP FE->FJ->Prop}
  (hE:xs[k1]?=FM-> ∀h',Fr s.heap [z,TO,i1,i2] h'->Q FM { s with heap:=h' })
  (hQ: ∀x,xs[k1]?=FB x-> ∃y,ys[k1]?=FB y/\ ∀h',ZS S z TI TO i1 i2 h'->h'.IsListIter i1 l1 (k1+1)->h'.IsListIter i2 l2 (k1+1)->Sn h' s.heap.objs.size x y->Fr s.heap [z,TO,i1,i2] h'->Q (FB (.ref s.heap.objs.size)) { s with heap:=h' }):
  Gk (model prog w) A (Sk (.ref z)) Q E s:=by
 have lt: ∀ {c:FG}{o:Jp},s.heap.get? c=FB o->s.heap.objs.size≠c:=λe=>L5 (Gq e)
 have fr: ∀ {h':Ho},(∀c o,c≠z->c≠TO->c≠i1->c≠i2->s.heap.get? c=FB o->h'.get? c=FB o)->Fr s.heap [z,TO,i1,i2] h':=λk c o n e=>by
  simp only[FU,HZ,or_false,Wj] at n;exact k c o n.1 n.2.1 n.2.2.1 n.2.2.2 e
 have j1:s.heap.objs.size≠i1:=by obtain⟨_,e,_⟩:=h1;exact lt e
 have j2:s.heap.objs.size≠i2:=by obtain⟨_,e,_⟩:=h2;exact lt e
 rcases hz with⟨hz,x0,y0,hTO⟩|⟨T,oT,b,hz,hT,n1,n2,n3,n4⟩
 .cases hx:xs[k1]? with
  |none=>exact wpAny_pyNext_zip_end hh D hz UG hTO h1 h2 Vf VC (.inl hx) λh' k=>hE hx h' (fr k)
  |some x=>
   obtain⟨y,hy,hQ⟩:=hQ x hx;exact wpAny_pyNext_zip_item D hz UG hTO h1 h2 Vf VC hx hy λh' a1 a2 a3 a4 a5 a6 k=>hQ h' (.inr #[_,_,Gc,a1,a5,L5 hS,lt hz,j1,j2]) a3 a4 a5 (fr k)
 .refine Do hh D hz hT UG h1 h2 Vf VC (λe h' k=>hE e h' (fr λc o m1 _ m3 _=>k c o m1 m3)) λx hx=>?_
  obtain⟨y,hy,hQ⟩:=hQ x hx;exact#[y,hy,λh' a1 a3 a4 a5 a6 k=>hQ h' (.inr #[T,oT,FS,a1,k _ _ n2 n3 n4 hT,n1,n2,n3,n4]) a3 a4 a5 (fr λc o m1 _ m3 m4=>k c o m1 m3 m4)]
def Bg {R:Result->FJ->Prop}(hh:A.handled=FM) (D:Xm z TI TO i1 i2 l1 l2) (nS:S∉[z,TO,i1,i2,TI,l1,l2]):
  ∀(rest:Fx (be×FE)) (k:FX) (acc:Fx (be×FE)) (ix:Int) (t:Tok) (s:FJ),xs.size=k+rest.length->acc.length+rest.length<=GD->
   (∀(j:FX) (q:be×FE),rest[j]?=FB q-> ∃u,xs[k+j]?=FB u/\ys[k+j]?=FB q.2/\jE q.1 u=FS)->
   ZS S z TI TO i1 i2 s.heap->Sn s.heap TI (.ref i1) (.ref i2)->s.heap.IsListIter i1 l1 k->s.heap.IsListIter i2 l2 k->s.heap.IsList l1 xs->s.heap.IsList l2 ys->s.heap.DictOf (aX prog w) S acc->
   (∀h' tk,h'.DictOf (aX prog w) S (merged acc rest)->Fr s.heap [S,z,TO,i1,i2] h'->R (.ok (.ret res)) { s with heap:=h',toks:=tk })->
   LX (model prog w) A (.builtin "dict.update.loop" #[[.ref S, .ref z, .int ix t,res],[]]) R s:=by
 simp only[FU,HZ,or_false,Wj] at nS;obtain⟨Sz,STO,Si1,Si2,STI,Sl1,Sl2⟩:=nS;intro rest
 induction rest with
 |nil=>
  intro k acc ix t s hsz hln ht hz UG h1 h2 Vf VC hm hR;refine codeAny_builtin tR ?_;rw[TM i6 _];show Gk _ A.in1 (Sk (.ref z)>>=_) _ _ s;refine FV (xc (A:=A.in1) hh D hz UG (by obtain⟨_,_,_,e,_⟩:=hm;exact Gq e) h1 h2 Vf VC (λ_ h' f=>?_) λx hx=>?_)
  .show Gk _ A.in1 (Builtin.Dict.addKeywords S []>>=_) _ _ _
   refine FV (Gu (Gu ?_));exact hR h' s.toks (hm.at λo e=>f _ o (by simp [Sz,STO,Si1,Si2]) e) λc o n e=>f c o (λz=>n (FK _ z)) e
  .rw[JN.getElem?_eq_none (show xs.size<=k from KH hsz)] at hx
   cases hx
 |cons q rest ih=>
  intro k acc ix t s hsz hln ht hz UG h1 h2 Vf VC hm hR;obtain⟨u,hb,hb2,hk⟩:=ht 0 q Go;rw[FW] at hsz hln;have hS:S<s.heap.objs.size:=by obtain⟨_,_,_,e,_⟩:=hm;exact Gq e
  refine codeAny_builtin tR ?_;rw[TM i6 _];show Gk _ A.in1 (Sk (.ref z)>>=_) _ _ s;refine FV (xc (A:=A.in1) hh D hz UG hS h1 h2 Vf VC [015] λx hx=>#[_,hb2,λh' z' i1' i2' pr f=>?_])
  .rw[show xs[k]?=FB u from hb] at e;cases e
  cases (show xs[k]?=FB u from hb).symm.trans hx;have gs: ∀ {c:FG}{o:Jp},c∉[z,TO,i1,i2]->s.heap.get? c=FB o->h'.get? c=FB o:=λn e=>f _ _ n e
  have hm1:h'.DictOf (aX prog w) S acc:=hm.at λo e=>gs (by simp [Sz,STO,Si1,Si2]) e
  show Gk _ A.in1 (holding [Gs s.heap.objs.size] _>>=_) _ _ _
  refine FV (Ov ?_);refine FV (wpAny_tryCatch ?_);unfold Builtin.Dict.pairItems;refine FV (V8 (T:="tuple") #[_,pr,Go] ?_);rw[FI (by first|decide|rfl|simp)]
  refine FV (wpAny_seqItems pr Go (Gu ?_));show Gk _ A.in1 (holding [u,q.2] (dictSet S u q.2)) _ _ _;refine Ov (wpAny_dictSet_pairs (knd:=aX prog w) (k:=q.1) hk hm1 (λh2' hm2 VY=>?_) (by lia));have up: ∀ {c:FG}{o:Jp},c≠S->h'.get? c=FB o->h2'.get? c=FB o:=λn e=>VY.extBut _ _ n e
  refine Gu #[plainId_quiet i6 _,ih (k+1) (stored acc q.1 q.2) (ix+1) 0 _ (show xs.size=k+1+rest.length by lia) ?_ (λj q' e=>?_) ?_ ?_ ?_ ?_ ?_ ?_ hm2 λh3 tk XZ k3=>?_]
  .have z:=stored_length_le acc q.1 q.2
   lia
  .rw[show k+1+j=k+(j+1) by lia]
   exact ht (j+1) q' e
  .rcases z' with⟨a1,x0,y0,a2⟩|⟨T,oT,b,a1,a2,n1,n2,n3,n4⟩
   .exact .inl #[up (Jf Sz) a1,x0,y0,up (Jf STO) a2]
   .exact .inr #[T,oT,b,up (Jf Sz) a1,up n1 a2,n1,n2,n3,n4]
  .exact up (Jf STI) (gs (by simp [D.TIz,D.TITO,D.TIi1,D.TIi2]) UG)
  .exact i1'.at λo e=>up (Jf Si1) e
  .exact i2'.at λo e=>up (Jf Si2) e
  .exact Vf.at λo e=>up (Jf Sl1) (gs (by simp [D.l1z,D.l1TO,D.l1i1,D.l1i2]) e)
  .exact VC.at λo e=>up (Jf Sl2) (gs (by simp [D.l2z,D.l2TO,D.l2i1,D.l2i2]) e)
  .exact hR h3 tk XZ λc o n e=>k3 c o n (up (λz=>n (by rw[z];exact FL)) (gs (λz=>n (FK _ z)) e))
def pE {Q:FE->FJ->Prop}(hh:A.handled=FM) (D:Xm z TI TO i1 i2 l1 l2) (hz:IsZip s.heap z TI TO .none) (hTO:Sn s.heap TO x y) (UG:Sn s.heap TI (.ref i1) (.ref i2))
  (h1:s.heap.IsListIter i1 l1 0) (h2:s.heap.IsListIter i2 l2 0) (Vf:s.heap.IsList l1 xs) (VC:s.heap.IsList l2 ys) (hsz:xs.size=o7.length) (hln:o7.length<=GD)
  (ht: ∀(j:FX) (q:be×FE),o7[j]?=FB q-> ∃u,xs[j]?=FB u/\ys[j]?=FB q.2/\jE q.1 u=FS)
  (h: ∀h' tk,h'.DictOf (aX prog w) s.heap.objs.size (merged [] o7)->Fr s.heap [z,TO,i1,i2] h'->Q (.ref s.heap.objs.size) { s with heap:=h',toks:=tk }):
  Gk (model prog w) A (call (.type "dict") [.ref z]) Q E s:=by
 refine callType_codes (Q₁:=λobj s₁=>obj= .ref s.heap.objs.size/\s₁= { s with heap:=s.heap.push { cls:= .type "dict",data:= .dict [].toArray } }) PySem.F.kt_called_dict (PySem.F.kt_typeCall_dict_1 _) PySem.F.entry_dict_init (kt_code_dict_new _ #[Go,Go]) ?_;rintro obj s₁ ⟨rfl,rfl⟩;have abK:(s.heap.push { cls:= .type "dict",data:= .dict [].toArray }).DictOf (aX prog w) s.heap.objs.size []:=T7 s.heap;have k0: ∀ {b:FG}{o:Jp},s.heap.get? b=FB o->(s.heap.push { cls:= .type "dict",data:= .dict [].toArray }).get? b=FB o:=λe=>FY _ e
 refine#[abK.typeIs,PySem.F.args_dict_init_2 _ _,?_];unfold Builtin.«dict.__init__»;refine FV ?_;unfold Builtin.Dict.selfAndRest;refine FV (wpAny_notOrdered_dict abK.typeIs ?_);show Gk _ _ (pure (s.heap.objs.size,[Gs z])) _ _ _;refine Gu ?_;show Gk _ _ (Q0 "dict.__init__" s.heap.objs.size (.ref z) [] .none) _ _ _;unfold Q0;refine FV (V8 (T:="zip") #[_,k0 hz,Go] ?_);rw[FI (by first|decide|rfl|simp)]
 refine FV (DA (k0 hz) hh λh1' tk1 hk1=>?_);rw[FI (show(FM:FP FE).isNone=FS from Go)];refine FV (wpAny_rule ?_);have up: ∀ {b:FG}{o:Jp},s.heap.get? b=FB o->h1'.get? b=FB o:=λe=>hk1 _ _ (k0 e)
 refine FV (wpAny_pyIter_zip (up hz) ?_);have ne: ∀ {b:FG}{o:Jp},s.heap.get? b=FB o->s.heap.objs.size≠b:=λe=>L5 (Gq e)
 have key:=Bg (prog:=prog) (w:=w) (A:=A.in1) (R:=wants (λr s₂=>r= .none/\Q (.ref s.heap.objs.size) s₂) E) (S:=s.heap.objs.size) (res:=IA) (xs:=xs) (ys:=ys) hh D
  (by
   obtain⟨_,e1,_⟩:=h1;obtain⟨_,e2,_⟩:=h2;obtain⟨_,e3,_⟩:=Vf;obtain⟨_,e4,_⟩:=VC;simp only[FU,HZ,or_false,Wj];exact#[ne hz,ne hTO,ne e1,ne e2,ne UG,ne e3,ne e4]) o7 0 [] 0 0 { s with heap:=h1',toks:=tk1 } (by rw[hsz,Ld]) (by rw[KP,Ld];exact hln)
  (λj q e=>by rw[Ld];exact ht j q e) (.inl #[up hz,_,_,up hTO]) (up UG) (h1.at λo e=>up e) (h2.at λo e=>up e) (Vf.at λo e=>up e) (VC.at λo e=>up e) (abK.at λo e=>hk1 _ _ e)
  (λh' tk XZ k=>#[Go,h h' tk XZ λb o n e=>k b o (λz=>(FU.mp z).elim (λz=>ne e z.symm) n) (up e)])
 first
  |exact Gu #[plainId_quiet i6 _,key]
  |exact FV (Gu (Gu #[plainId_quiet i6 _,key]))
end
section
variable {X:Cx}
theorem CH {P:Gy}{w:Hf} : ∀ {aD:Fx (be×V)}{Il X6:Fx FE},a8 (aD.map λq=>kV q.1) Il->a8 (aD.map (·.2)) X6-> ∃o7:Fx (be×FE),KV aD o7/\ ∀(j:FX) (q:be×FE),o7[j]?=FB q-> ∃u,Il[j]?=FB u/\X6[j]?=FB q.2/\jE q.1 u=FS
 |[],_,_,h1,h2=>by cases h1;cases h2;exact#[[], .nil,λj q e=>by simp at e]
 |kv::aD,_,_, .cons (b:=u) a1 r1, .cons (b:=y) a2 r2=>by
  obtain⟨o7,r,hp⟩:=CH (P:=P) (w:=w) r1 r2;refine#[(kv.1,y)::o7, .cons #[Go,a2] r,λj q e=>?_];cases j with
  |zero=>cases e;exact#[u,Go,Go,oU (P:=P) (w:=w) a1]
  |succ j=>exact hp j q e
def ve {e e2:HX}{ta:TA}{p p' pos NY:Pos}(hc:X.calm=FS) (hg:Gl X "zip") (hm:X.mg "zip"=FM) (hg':Gl X "dict") (QC:X.mg "dict"=FM) (ha:PA X [e,e2] ta)
  (hs:F9 [e,e2] X.env=[001]::F9 [e2] X.env) (Ng:(Jr pos (F9 [e2] X.env)).any (·.1)=Gc):
  PE X (.Call (.Name "dict" p') [.Call (.Name "zip" p) [e,e2] [] pos] [] NY) (λσ H Q=>ta σ H λvs H1=> ∃(a b:FG) (aD:Fx (be×V)),vs=[.ref a, .ref b]/\cD X.K H1 a (aD.map λq=>kV q.1)/\cD X.K H1 b (aD.map (·.2))/\ ∀d,H1 d=FM->Q (.ref d) (aI H1 d (.dK (fQ [] aD)))):=by
 rw[01];refine Call_ (lS I hg' QC (show LC "dict"=FB (.type "dict") by decide+kernel) (Kq ?_ Go Go));show Gk _ _ (spliced [(Gc,_)]) _ _ s;refine LD (Call_ (lS I hg hm yU (Kq (cc (ha pos pins s σ H _ I h) λus s1 ⟨vs,H1,I1,r1,q1⟩=>?_) hs Ng)));obtain⟨a,b,aD,ex,hqx,hqy,q⟩:=q1;subst ex;cases r1 with
 |cons r rr=>
  cases rr with
  |cons r' rr=>
   cases rr;cases r;cases r';obtain⟨Il,rv,p1,hz⟩:=I1.list hqx;obtain⟨X6,rv2,p2,_⟩:=I1.list hqy;have hi:Il.length=aD.length:=by rw[<-rv.length,FT]
   refine call_zip_2 p1.isList p2.isList λh' hz' UG hTO h1 h2 hsz hk=>LU ?_;obtain⟨o7,rel,hp⟩: ∃o7:Fx (be×FE),KV aD o7/\ ∀(j:FX) (q:be×FE),o7[j]?=FB q-> ∃u,Il[j]?=FB u/\X6[j]?=FB q.2/\jE q.1 u=FS:=CH (P:=X.prog) (w:=X.w) rv rv2;have pl:o7.length=aD.length:=rel.length.symm;refine pE (o7:=o7) (I1.ok.hd hc) (PySem.W.ktu_apart s1.heap.objs.size a b p1.lt p2.lt) hz' hTO UG h1 h2 (p1.isList.at λo e=>hk _ _ e) (p2.isList.at λo e=>hk _ _ e) (by simp [hi,pl]) (by rw[pl,<-hi,<-rv.length];exact hz) (λj q' e=>by simpa using hp j q' e) λh2' tk XZ k=>?_;have le:s1.heap.objs.size<=h'.objs.size:=by rw[hsz];exact Kr _ _
   have hm:(h'.objs.size == Jb)=Gc:=beq_eq_false_iff_ne.mpr (L5 (Gv I1.big le))
   have NX:(fQ [] aD).length<=GD:=by
    refine F7 (gB aD []) ?_;rw[KP,Ld,<-hi,<-rv.length];exact hz
   refine#[.ref h'.objs.size,aI H1 h'.objs.size (.dK (fQ [] aD)),I1.laid (t':=tk) (λc o e=>k c o (λz=>?_) (hk c o e)) le (show cx X.prog X.w _ _ _ (.dK (fQ [] aD)) from#[NX,hm,merged [] o7,KV.merge rel .nil,XZ]),Go,q _ (I1.IQ.fresh le)];have:=Gq e;simp only[FU,HZ,or_false] at z;lia
end
def Rfs (C:FG) (E:XK) (H:Hp) (c:Int):Prop:= ∀d,H d=FM->E (.ref C) (FB d) (aI H d (cn d (DZ c)))
def xcl (a:bi):Fx (Int×FG):=[(-11,a.JW),(-12,a.Lx),(-13,a.K3),(-14,a.K4),(-15,a.JX),(-16,a.L8)]
def pw (a:bi) (E:XK) (H:Hp) (c:Int):Prop:= ∀C,(c,C)∈xcl a->Rfs C E H c
def gC (c:Int):Fx V->Fx (Gf×V)->Prop:=λus fs=>us=[]/\fs=DZ c
def YZ {x Hy:Gf}{st:Stmt}{f C:FG}{fd:GQ}{c:Int}(F:o9 K x Hy st f fd) (S:ay ["self"] ["self"] (af st))
  (h: ∀(Hn:FE) (A:Hm) (outer:Fx Env) (s:FJ) (H:Hp) (p:FG) (Q:VK),bZ 1 (A.deeper [011])->dM C aic [.ref p, .int c] H Q E0->Bd (fg xR P w K mg base ["self"] Hy (af st) f Hn A outer s H E0).nox (bh st) { nx:=λ_ H'=>Q .Jm H',rt:=Q } [FB (.ref p)] H):
  bW P w K mg base xR 2 f fd ["self"] (dM C (gC c)):=by
 refine F.ok S (λvs H Q E h=>?_) (λHn A outer s H vs Q E hr z=>?_)
 .obtain⟨p,us,fs,rfl,⟨rfl,rfl⟩,_⟩:=h
  rfl
 .obtain⟨p,us,fs,rfl,⟨rfl,rfl⟩,hp,q⟩:=z
  exact h Hn A outer s H p Q hr #[p,_,_,Go,#[c,Go,Go],hp,q]
def iu (T:aV K mg a) (XC:XW K a):T.d_R.U P w mg base 2 (dM a.JW (gC (-11))):=
 YZ T.d_R.F alS λHn A outer s H p Q hr q=>#[_,ah (bf (eF (by rfl) T.Ig XC.rm (bJ T XC.MA) hr T.Wt.c.b .nil aR (aa (pv 0) (aa (dH cE ak) ag)))),_,Go,q]
def lg (T:aV K mg a) (XC:XW K a):T.d_S.U P w mg base 2 (dM a.Lx (gC (-12))):=
 YZ T.d_S.F alT λHn A outer s H p Q hr q=>#[_,ah (bf (eF (by rfl) T.Ig XC.rm (bJ T XC.Pu) hr T.Wt.c.b .nil aR (aa (pv 0) (aa (dH cE ak) ag)))),_,Go,q]
def jL (T:aV K mg a) (XC:XW K a):T.Z2.U P w mg base 2 (dM a.K3 (gC (-13))):=
 YZ T.Z2.F agW λHn A outer s H p Q hr q=>#[_,ah (bf (eF (by rfl) T.Ig XC.rm (bJ T XC.Ob) hr T.Wt.c.b .nil aR (aa (pv 0) (aa (dH cE ak) ag)))),_,Go,q]
def jS (T:aV K mg a) (XC:XW K a):T.Z3.U P w mg base 2 (dM a.K4 (gC (-14))):=
 YZ T.Z3.F agX λHn A outer s H p Q hr q=>#[_,ah (bf (eF (by rfl) T.Ig XC.rm (bJ T XC.Oc) hr T.Wt.c.b .nil aR (aa (pv 0) (aa (dH cE ak) ag)))),_,Go,q]
def iA (T:aV K mg a) (XC:XW K a):T.Z4.U P w mg base 2 (dM a.JX (gC (-15))):=
 YZ T.Z4.F agY λHn A outer s H p Q hr q=>#[_,ah (bf (eF (by rfl) T.Ig XC.rm (bJ T XC.MB) hr T.Wt.c.b .nil aR (aa (pv 0) (aa (dH cE ak) ag)))),_,Go,q]
def lN (T:aV K mg a) (XC:XW K a):T.Z5.U P w mg base 2 (dM a.L8 (gC (-16))):=
 YZ T.Z5.F agZ λHn A outer s H p Q hr q=>#[_,ah (bf (eF (by rfl) T.Ig XC.rm (bJ T XC.Pw) hr T.Wt.c.b .nil aR (aa (pv 0) (aa (dH cE ak) ag)))),_,Go,q]
def wkF (t:Int) (fa sl tl:FG) (r:V):Fx (Gf×V):=[("taken", .int t),("functions", .ref fa),("scopes", .ref sl),("tasks", .ref tl),("result",r)]
def xU (v:V) (p:FG):Fx (Gf×V):=[("exp",v),("parts", .ref p)]
structure pJ where
 wk:FG
 dw:FG
 fa:FG
 sl:FG
 tl:FG
 z:FX
structure uz where
 M:FG->Prop
 H:Hp
structure o8 where
 t:FG
 p:FG
 d:FG
 v:V
 ps:Fx Int
abbrev rZ:=FG×Fx (be×V)
def tkC (a:bi):Fx o8->Fx lU
 |[]=>[]
 |u::us=>(u.t, .ins a.MV u.d (xU u.v u.p))::(u.p, .lst (u.ps.map V.int))::tkC a us
def scC (ds:Fx rZ):Fx lU:=ds.map λd=>(d.1, .dK d.2)
abbrev wkL (a:bi) (c:pJ) (n:FX) (r:V) (ff:Fx (be×V)) (ds:Fx rZ) (us:Fx o8):Fx lU:=
 (c.wk, .ins a.HY c.dw (wkF (10000-(n:Int)) c.fa c.sl c.tl r))::(c.tl, .lst (us.map λu=>V.ref u.t).reverse)::(c.sl, .lst (ds.map λd=>V.ref d.1).reverse)::(c.fa, .dK ff)::(tkC a us++scC ds)
def E4 (a:bi) (B:uz) (F:J4) (ff:Fx (be×V)):Prop:=ff.length<=F.length/\ ∀f,(match F.find? λg=>g.1 == f with
  |some g=> ∃v,bQ ff (nk f)=FB v/\fb a B.M B.H (.func g.1 g.2.1 g.2.2) v
  |none=>bQ ff (nk f)=FM)
def abL (b:FX) (d:rZ) (s:fo):Prop:=(∀u,bQ d.2 (nk u)=(s u).map V.int)/\d.2.length<=b
def amw (a:bi) (B:uz) (u:o8) (t:dQ):Prop:=ax a B.M B.H t.1 u.v/\u.ps=t.2
structure Bn (z b:FX) (ts:Fx dQ) (sc:Fx fo) (n:FX):Prop where
 VZ:n<=10000
 tl: ∀i t,ts[i]?=FB t->t.2.length+i+n<=10000
 sl:sc.length+n<=10002
 b6:6<=b
 bn:b+5*n<=z
 zl:z<=60000
structure eW (a:bi) (B:uz) (H:Hp) (c:pJ) (F:J4) (r:V) (b:FX) (ff:Fx (be×V)) (ds:Fx rZ) (us:Fx o8) (ts:Fx dQ) (sc:Fx fo) (n:FX):Prop where
 O:Ow B.H (wkL a c n r ff ds us) H
 fn:E4 a B F ff
 sq:Paired (abL b) ds sc
 tk:Paired (amw a B) us ts
 bn:Bn c.z b ts sc n
inductive Wk (a:bi) (B:uz) (H:Hp) (c:pJ) (F:J4) (r:V) (b:FX) (ts:Fx dQ) (sc:Fx fo) (n:FX):Prop
 |mk {ff:Fx (be×V)}{ds:Fx rZ}{us:Fx o8}(_:eW a B H c F r b ff ds us ts sc n):Wk a B H c F r b ts sc n
def mQ (a:bi) (B:uz) (c:pJ) (F:J4) (N:Hp->Prop) (E:XK):Mc->Prop
 | .err k=> ∀H',aU B.H H'->pw a E H' k
 | .go ts sc n=> ∀H' r b,Wk a B H' c F r b ts sc n->N H'
 | .done x sc n=> ∀H' b,Wk a B H' c F (.int x) b [] sc n->N H'
def Bn.mono {z b m n:FX}{ts:Fx dQ}{sc:Fx fo}(h:Bn z b ts sc n) (hm:m<=n):Bn z b ts sc m:=#[by have:=h.VZ;lia,λi t e=>by have:=h.tl i t e;lia,by have:=h.sl;lia,h.b6,by have:=h.bn;lia,h.zl]
def Bn.len {z b n:FX}{ts:Fx dQ}{sc:Fx fo}(h:Bn z b ts sc n):ts.length+n<=10001:=by
 cases e:ts[ts.length-1]? with
 |none=>have:=Fx.getElem?_eq_none_iff.mp e;have:=h.VZ;lia
 |some t=>have:=h.tl _ t e;lia
def bF.fld {M:FG->Prop}{B H:Hp}{K:FC}{Q:VK}(i:bF M B C fs v) (s:aU B H) (cl:gT K C) (no:au K C f) (hl:fs.lookup f=FB u) (q:Q u H):cQ K f Q v H:=by
 obtain⟨p,dx,rfl,_,h⟩:=i;exact#[p,C,dx,_,u,Go,s _ _ h,cl,no,hl,q]
section
variable {H H':Hp}{Q:VK}
def eW.fld (W:eW a B H c F r b ff ds us ts sc n) (T:aV K mg a) (no:au K a.HY f) (hl:(wkF (10000-(n:Int)) c.fa c.sl c.tl r).lookup f=FB u) (q:Q u H):cQ K f Q (.ref c.wk) H:=#[c.wk,_,c.dw,_,u,Go,W.O.get 0 Go,T.II,no,hl,q]
def eW.own (W:eW a B H c F r b ff ds us ts sc n) (hm:m<=n) (h:H' c.wk=FB (.ins a.HY c.dw (wkF (10000-(m:Int)) c.fa c.sl c.tl r'))) (k: ∀b u,H b=FB u->b≠c.wk->H' b=FB u):eW a B H' c F r' b ff ds us ts sc m:=#[W.O.set (L1:=[]) h k,W.fn,W.sq,W.tk,W.bn.mono hm]
theorem eW.tl (W:eW a B H c F r b ff ds us ts sc n):H c.tl=FB (.lst (us.map λu=>V.ref u.t).reverse):=W.O.get 1 Go
def eW.tl1 (W:eW a B H c F r b ff ds (u::us) ts sc n):H c.tl=FB (.lst ((us.map λu=>V.ref u.t).reverse++[V.ref u.t])):=by
 rw[<-Hh];exact W.tl
theorem eW.ins (W:eW a B H c F r b ff ds us ts sc n):H c.wk=FB (.ins a.HY c.dw (wkF (10000-(n:Int)) c.fa c.sl c.tl r)):=W.O.get 0 Go
end
inductive oA (a:bi) (vs:Fx V) (H:Hp) (Q:VK) (E:XK):Prop
 |mk {B:uz}{c:pJ}{F:J4}{r:V}{b:FX}{ff:Fx (be×V)}{ds:Fx rZ}{us:Fx o8}{ts:Fx dQ}{sc:Fx fo}{n:FX}(_:vs=[.ref c.wk]) (_:eW a B H c F r b ff ds us ts sc n) (_:n=0->pw a E H (-13)) (_: ∀m,n=m+1-> ∀H',eW a B H' c F r b ff ds us ts sc m->Q .Jm H'):oA a vs H Q E
def ii (T:aV K mg a) (XC:XW K a):T.Wu.O P w mg base 4 (oA a):=by
 refine fW T.Wu.F ag5 [03] [02];obtain @⟨B,c,F,r,b,ff,ds,us,ts,sc,n,rfl,W,h0,h1⟩:=h;refine bI (jz (cr (bA 0 (W.fld T T.Mw Go #[_,aS (by rfl) T.SD,_,_,Go,Go,cq [015] λe=>?_])) Go))
 .exact aT (dZ eM XC.Ob (jL T XC) hr (by rfl) T.O5 T.Z2.c.b) #[Gn _,_,#[Go,Go],h0 (by lia) _ (.tail _ (.tail _ (.head _)))]
 .obtain⟨m,rfl⟩: ∃m,n=m+1:=#[n-1,by have:=W.bn.VZ;lia]
  refine eE (gU (pv 0) ak ox) #[c.wk,_,c.dw,_,_,Go,W.ins,T.II,T.Mw,Go,_,_,Go,Go,c.dw,_,W.ins,(by show 5<1000;decide),h1 m Go _ (W.own (LQ m) ?_ nG)];rw[ae,show(10000:Int)-(m:Int)=10000-((m+1:FX):Int)+1 by lia]
  rfl
section
variable {H H':Hp}
def eW.push (W:eW a B H c F r b ff ds us ts sc n) (ev:ax a B.M B.H e v) (hx:H x=FM) (hp:H p=FM) (ne:p≠x) (k:aU H H') (h1:H' x=FB (.ins a.MV dx (xU v p))) (h2:H' p=FB (.lst [])) (b1:Bn c.z b ts sc (n+1)):
  eW a B (aI H' c.tl (.lst ((us.map λu=>V.ref u.t).reverse++[.ref x]))) c F r b ff ds (#[x,p,dx,v,[]]::us) ((e,[])::ts) sc n:=by
 have O:=W.O.adds (N:=[(x, .ins a.MV dx (xU v p)),(p, .lst [])]) k (λy hy=>by
  rcases FU.mp hy with z|hy
  .rw[z];exact#[hx,h1]
  .rw[Ga.mp hy];exact#[hp,h2]) (GJ.mpr #[λz=>ne (Ga.mp z).symm,GJ.mpr #[nofun, .nil]])
 have O:=(O.perm ((Fx.perm_append_comm (l₁:=[_,_]) (l₂:=[_,_,_,_])).append_right _)).put (L1:=[_]) (o':= .lst ((us.map λu=>V.ref u.t).reverse++[.ref x]))
 rw[<-Hh] at O ⊢;refine#[O,W.fn,W.sq, .cons #[ev,Go] W.tk,W.bn.VZ,λi t e=>?_,W.bn.sl,W.bn.b6,W.bn.bn,W.bn.zl];cases i with
 |zero=>cases e;have:=b1.VZ;show 0+0+n<=10000;lia
 |succ i=>have:=b1.tl i t e;lia
def eW.pop (W:eW a B H c F r b ff ds (u::us) (t::ts) sc n):eW a B (aI H c.tl (.lst (us.map λu=>V.ref u.t).reverse)) c F r b ff ds us ts sc n:=by
 cases W.tk with
 |cons _ tk=>exact#[(W.O.put (L1:=[_])).sub (.cons₂ _ (.cons₂ _ (.cons₂ _ (.cons₂ _ (.cons _ (.cons _ (.refl _))))))),W.fn,W.sq,tk,W.bn.VZ,λi t e=>by have:=W.bn.tl (i+1) t e;lia,W.bn.sl,W.bn.b6,W.bn.bn,W.bn.zl]
def eW.parts (W:eW a B H c F r b ff ds (u::us) ((e,u.ps)::ts) sc n) (h:H' u.p=FB (.lst (ps.map V.int))) (k: ∀b o,H b=FB o->b≠u.p->H' b=FB o) (hl:ps.length+n<=10000):eW a B H' c F r b ff ds ({ u with ps:=ps } ::us) ((e,ps)::ts) sc n:=by
 cases W.tk with
 |cons h1 tk=>
  refine#[W.O.set (L1:=[_,_,_,_,_]) h k,W.fn,W.sq, .cons #[h1.1,Go] tk,W.bn.VZ,λi t e=>?_,W.bn.sl,W.bn.b6,W.bn.bn,W.bn.zl];cases i with
  |zero=>cases e;exact hl
  |succ i=>exact W.bn.tl (i+1) t e
theorem eW.grow (W:eW a B H c F r b ff ds us ts sc n) (k:aU H H'):eW a B H' c F r b ff ds us ts sc n:=#[W.O.grow k,W.fn,W.sq,W.tk,W.bn]
def eW.scs (W:eW a B H c F r b ff ds us ts sc n) (h:d∈ds):H d.1=FB (.dK d.2):=(W.O.at_ (d.1, .dK d.2) (.tail _ (.tail _ (.tail _ (.tail _ (HG _ (LY.mpr #[d,h,Go]))))))).1
theorem mf {α β:Type}{F:α->β->Prop} : ∀ {l:Fx α}{m:Fx β}{y:β},Paired F l m->m.getLast?=FB y-> ∃x,l.getLast?=FB x/\F x y
 |_,_,_, .nil,h=>by cases h
 |[x],[y],_, .cons r .nil,h=>by cases h;exact#[x,Go,r]
 |_::x::l,_::y::m,z, .cons r (.cons s t),h=>by
  rw[S8] at h;rw[S8];exact mf (.cons s t) h
theorem d9 {α β:Type}{F G:α->β->Prop} : ∀ {l:Fx α}{m:Fx β},Paired F l m->(∀x y,F x y->G x y)->Paired G l m
 |_,_, .nil,_=> .nil
 |_,_, .cons h t,g=> .cons (g _ _ h) (d9 t g)
end
inductive Ax (a:bi) (vs:Fx V) (H:Hp) (Q:VK) (_E:XK):Prop
 |mk (t dt:FG) (v:V) (_:vs=[.ref t,v]) (_:H t=FB (.ins a.MV dt [])) (_: ∀(p:FG) (H':Hp),H p=FM->p≠t->H' t=FB (.ins a.MV dt (xU v p))->H' p=FB (.lst [])->(∀b o,H b=FB o->b≠t->H' b=FB o)->Q .Jm H'):Ax a vs H Q _E
def qJ (T:aV K mg a):T.Z9.U P w mg base 1 (Ax a):=by
 refine T.Z9.F.ok ag3 [03] [02];obtain⟨t,dt,v,rfl,ht,q⟩:=h;refine aT (b5 (pv 0) (pv 1) Go) #[t,_,dt,_,Go,ht,T.P4,T.QW,FX.zero_lt_succ _,eE (b5 (pv 0) (iQ ag) Go) #[Gn _,λp hp=>?_]];have np:p≠t:=λz=>by rw[z,ae] at hp;cases hp
 rw[ac np] at hp;exact#[t,_,dt,_,Go,(by rw[ac np.symm,ae]),T.P4,T.NC,(by show 1<1000;decide),q p _ hp np ae (by rw[ac np,ae]) λb o e nb=>by rw[ac nb,ac (aj e hp),ac nb];exact e]
inductive xY (a:bi) (vs:Fx V) (H:Hp) (Q:VK) (E:XK):Prop
 |mk {B:uz}{c:pJ}{F:J4}{r:V}{b:FX}{ff:Fx (be×V)}{ds:Fx rZ}{us:Fx o8}{ts:Fx dQ}{sc:Fx fo}{n:FX}{e:FN}{v:V}(_:vs=[.ref c.wk,v]) (_:eW a B H c F r b ff ds us ts sc n) (_:ax a B.M B.H e v) (_:mQ a B c F (Q .Jm) E (kD e ts sc n)):xY a vs H Q E
def su (T:aV K mg a) (XC:XW K a):T.Xs.O P w mg base 5 (xY a):=by
 refine fW T.Xs.F ag8 [03] [02];obtain @⟨B,c,F,r,b,ff,ds,us,ts,sc,n,e,v,rfl,W,ev,g⟩:=h;refine aT (bf (bV (pv 0) T.II T.Wu.c (ii T XC) hr aA)) #[c.wk,c.dw,_,Go,W.ins,Go, .mk Go W (λz=>?_) λm z H1 W1=>?_]
 .rw[z] at g
  exact g H W.O.same
 .subst z
  refine iH [09] (λ_ q=>W1.fld T T.Jn Go q) W1.tl #[_,h9 T.XX (qJ T) [06] (by rfl) T.Xq T.Z9.c.b .nil aR (aa (pv 1) ag),λx dx hx VA ne=>#[x,dx,v,Go,ae,λp H2 hp np h1 h2 k=>#[Go,?_]]];have hp:=hp;rw[ac np] at hp;have pd:p≠dx:=λz=>by rw[z,ae] at hp;cases hp
  rw[ac pd] at hp;have sm:aU H1 H2:=λb o e=>k b o (by rw[ac (aj e hx),ac (aj e VA)];exact e) (aj e hx);exact#[_,sm _ _ W1.tl,by rw[Hc,FT,aZ W1.tk,IE];have:=W1.bn.len;lia,cg (g _ r b #[W1.push ev hx hp np sm h1 h2 W.bn])]
inductive tj (a:bi) (vs:Fx V) (H:Hp) (Q:VK) (E:XK):Prop
 |mk {B:uz}{c:pJ}{F:J4}{r:V}{b:FX}{ff:Fx (be×V)}{ds:Fx rZ}{u:o8}{us:Fx o8}{t:dQ}{ts:Fx dQ}{sc:Fx fo}{n:FX}{x:Int}(_:vs=[.ref c.wk, .int x]) (_:eW a B H c F r b ff ds (u::us) (t::ts) sc n) (_:mQ a B c F (Q .Jm) E (eS ts sc n x)):tj a vs H Q E
def z6 (T:aV K mg a):T.aac.U P w mg base 1 (tj a):=by
 refine T.aac.F.ok ag9 [03] [02];obtain @⟨B,c,F,r,b,ff,ds,u,us,t,ts,sc,n,x,rfl,W,g⟩:=h;have tl:=W.tl1;refine bB #[_,Dz JD SO SQ Bf [09],W.fld T T.Jn Go #[.inl #[Go,_,cD.of tl],c.tl,_, .ref u.t,Go,Go,tl,by simp,?_]];rw[UM];have W1:=W.pop;have tk:=W1.tk;have ul:=aZ tk;refine cw (cS fS (iJ T.KW W1.tl [09] (λ_ q=>W1.fld T T.Jn Go q) (cP #[_,_,Go,Go,_,Go,?_])));rw[Hc,FT];cases tk with
 |nil=>exact bG (eE (b5 (pv 0) (pv 1) Go) #[c.wk,_,c.dw,_,Go,W1.ins,T.II,T.Ma,(by show 5<1000;decide),g _ b #[W1.own (F5 n) ae nG]])
 | @cons v t1 us ts h tk=>
  obtain⟨e1,ps⟩:=t1;obtain rfl:v.ps=ps:=h.2;refine cq (λ_=>?_) λz=>F6 z (by rw[FW];lia);have hp:=W1.O.get 5 Go;have b1:=W.bn.tl 1 _ Go;refine eE (bf (xX JD K9 La i8 (ai (cO bC [09] (dH cE ak) [002]) Go) (aa (pv 1) ag))) (W1.fld T T.Jn Go #[_,Go,c.tl,_,_,V.ref v.t,Go,Go,cD.of W1.tl1,eG _ _,v.t,_,v.d,_,V.ref v.p,Go,W1.O.get 4 Go,T.P4,T.NC,Go, .inl #[Go,_,cD.of hp],v.p,_,_,Go,Go,hp,by rw[FT,IE];lia,g _ r b #[W1.parts (ps:=v.ps++[x]) ?_ nG (by rw[Gb];show v.ps.length+1+n<=10000;lia)]]);rw[ae,Hk]
  rfl
section
variable {H H':Hp}
def eW.sl1 (W:eW a B H c F r b ff (d::ds) us ts sc n):H c.sl=FB (.lst ((ds.map λd=>V.ref d.1).reverse++[V.ref d.1])):=by
 rw[<-Hh];exact W.O.get 2 Go
def eW.amx {s:fo}(W:eW a B H c F r b ff (d::ds) us ts (s::sc) n) (hb:b+1+5*n<=c.z):eW a B (aI H d.1 (.dK (dB d.2 (nk y) (.int x)))) c F r (b+1) ff ((d.1,dB d.2 (nk y) (.int x))::ds) us ts (pj (s::sc) y x) n:=by
 have O:Ow B.H ((_::_::_::_::tkC a us)++(d.1, .dK d.2)::scC ds) H:=W.O;cases W.sq with
 |cons h sq=>
  refine#[O.put,W.fn, .cons #[λu=>?_,F7 (cG _ _ _) (Ic h.2)] (d9 sq λ_ _ z=>#[z.1,NZ z.2]),W.tk,W.bn.VZ,W.bn.tl,W.bn.sl,NZ W.bn.b6,hb,W.bn.zl];rw[gX];show _=FP.map V.int (if u=y then FB x else s u)
  by_cases hu:u=y
  .rw[FI (by rw[hu]),FI hu];rfl
  .rw[FF λz=>hu (eD (J1 z)),FF hu];exact h.1 u
def eW.pushS {s:fo}(W:eW a B H c F r b ff ds us ts sc n) (hq:H q=FM) (k:aU H H') (h:H' q=FB (.dK kk)) (hs:abL b (q,kk) s) (hl:sc.length+1+n<=10002):eW a B (aI H' c.sl (.lst ((ds.map λd=>V.ref d.1).reverse++[.ref q]))) c F r b ff ((q,kk)::ds) us ts (s::sc) n:=by
 have O:=W.O.adds (N:=[(q, .dK kk)]) k (λy hy=>by rw[Ga.mp hy];exact#[hq,h]) (GJ.mpr #[nofun, .nil])
 have O:Ow B.H (_::_::_::_::(tkC a us++(q, .dK kk)::scC ds)) H':=O.perm (WW (l₁:=_::_::_::_::tkC a us)).symm
 have O:=O.put (L1:=[_,_]) (o':= .lst ((ds.map λd=>V.ref d.1).reverse++[.ref q]))
 rw[<-Hh] at O ⊢;exact#[O,W.fn, .cons hs W.sq,W.tk,W.bn.VZ,W.bn.tl,hl,W.bn.b6,W.bn.bn,W.bn.zl]
def eW.amy {s:fo}(W:eW a B H c F r b ff (d::ds) us ts (s::sc) n):eW a B (aI H c.sl (.lst (ds.map λd=>V.ref d.1).reverse)) c F r b ff ds us ts sc n:=by
 cases W.sq with
 |cons _ sq=>exact#[(W.O.put (L1:=[_,_])).sub (.cons₂ _ (.cons₂ _ (.cons₂ _ (.cons₂ _ ((Fx.sublist_cons_self _ _).append_left _))))),W.fn,sq,W.tk,W.bn.VZ,W.bn.tl,by have:sc.length+1+n<=10002:=W.bn.sl;lia,W.bn.b6,W.bn.bn,W.bn.zl]
end
inductive qB (a:bi) (vs:Fx V) (H:Hp) (Q:VK) (_E:XK):Prop
 |mk {B:uz}{c:pJ}{F:J4}{r:V}{b:FX}{ff:Fx (be×V)}{ds:Fx rZ}{us:Fx o8}{ts:Fx dQ}{sc:Fx fo}{n:FX}{y:Fy}{x:Int}(_:vs=[.ref c.wk, .str (sb y)]) (_:eW a B H c F r b ff ds us ts sc n) (_:look sc y=FB x) (_:Q (.int x) H):qB a vs H Q _E
def uj (T:aV K mg a):T.aab.U P w mg base 1 (qB a):=by
 refine T.aab.F.ok ag7 [03] [02];obtain @⟨B,c,F,r,b,ff,ds,us,ts,sc,n,y,x,rfl,W,hl,q⟩:=h;have sq:=W.sq;cases sq with
 |nil=>cases hl
 | @cons d s ds sc hd sq=>
 have k1:=W.scs (d:=d) (.head _)
 have fl: ∀ {Q:VK},Q (.ref c.sl) H->cQ K "scopes" Q (.ref c.wk) H:=λq=>W.fld T T.Kh Go q
 have at1: ∀ {Q:VK},Q (.ref d.1) H->cQ K "scopes" (λx H1=>tUn (rU λi=> .int (-i)) (tC (.int 1)) [FB (.ref c.wk),FB (.str (sb y))] H1 λu H2=>Bq K x u H2 Q) (.ref c.wk) H:=λq=>fl #[_,Go,c.sl,_,_,V.ref d.1,Go,Go,cD.of W.sl1,eG _ _,q]
 have lk:look (s::sc) y=(match s y with|some a=>FB a|none=>fR (s::sc) y):=rfl
 refine bI #[_,fD (n6 (dv hr) (pv 1) (cO bC [09] (dH cE ak) [002])),at1 #[d.1,_,Go,gD.k (k:=nk y) k1,_,Go,?_]];rw[hd.1,IG];have g:=gD.k (k:=nk y) k1;rw[hd.1] at g;cases hs:s y with
 |some z=>
  rw[lk,hs] at hl;cases hl;rw[hs] at g;exact b8 (aN #[_,kX (dv hr) (cO bC [09] (dH cE ak) [002]) (pv 1) [002],at1 #[d.1, .int x,Go,g,q]])
 |none=>
  rw[lk,hs] at hl;have hl:fR (s::sc) y=FB x:=hl;cases z:(s::sc).getLast? with
  |none=>simp at z
  |some z'=>
  obtain⟨e,h1,h2⟩:=mf (.cons hd sq) z;have:fR (s::sc)=z':=by unfold fR;rw[Sf,z];rfl
  rw[this] at hl;have j1:=W.scs (ME h1);have g:=gD.k (k:=nk y) j1;rw[h2.1,hl] at g;have h0:((d::ds).map λd=>V.ref d.1).reverse[0]?=FB (V.ref e.1):=by
   rw[<-Fx.head?_eq_getElem?,Fx.head?_reverse,Fx.getLast?_map,h1]
   rfl
  exact bG (aN #[_,kX (dv hr) (cO bC [09] ak [002]) (pv 1) [002],fl #[c.sl,_,_,V.ref e.1,Go,Go,cD.of (W.O.get 2 Go),bv (j:=0) h0,e.1, .int x,Go,g,q]])
inductive BB (a:bi) (vs:Fx V) (H:Hp) (Q:VK) (_E:XK):Prop
 |mk {B:uz}{c:pJ}{F:J4}{r:V}{b:FX}{ff:Fx (be×V)}{d:rZ}{ds:Fx rZ}{us:Fx o8}{ts:Fx dQ}{s:fo}{sc:Fx fo}{n:FX}{y:Fy}{x:Int}(_:vs=[.ref c.wk, .str (sb y), .int x]) (_:eW a B H c F r b ff (d::ds) us ts (s::sc) n) (_:b+1+5*n<=c.z) (_: ∀H',eW a B H' c F r (b+1) ff ((d.1,dB d.2 (nk y) (.int x))::ds) us ts (pj (s::sc) y x) n->Q .Jm H'):BB a vs H Q _E
def kT (T:aV K mg a):T.Xr.U P w mg base 1 (BB a):=by
 refine T.Xr.F.ok ag6 [03] [02];obtain @⟨B,c,F,r,b,ff,d,ds,us,ts,s0,sc,n,y,x,rfl,W,hb,q⟩:=h;cases W.sq with
 |cons hd _=>exact eE (ie (dv hr) (cO bC (ai (pv 0) Go) (dH cE ak) (λ_ _=>rfl)) (pv 1) (pv 2) Go) (W.fld T T.Kh Go #[_,Go,c.sl,_,_,V.ref d.1,Go,Go,cD.of W.sl1,eG _ _,d.1,_,Go,uc.k (k:=nk y) (W.scs (.head _)) (by rw[IE];have:=hd.2;have:=W.bn.zl;lia),q _ (W.amx hb)])
def n8:kZ X (Qs .FloorDiv) (rI (λ_ j=>j≠0/\j.natAbs.log2<9000) λi j=> .int (i.fdiv j)):=opI λ_ _ _ _ _ _ _ hc q=>floordiv_int hc.1 q (.inl (PyProof.noPylong_of_log2 hc.2))
def zD {l:Fx Int} : ∀ {us:Fx FE},a8 (l.map V.int) us-> ∃xs:JN (Int×Tok),us.toArray=Lo xs/\xs.toList.map (·.1)=l:=by
 induction l with
 |nil=>intro us h;cases h;exact#[[].toArray,by simp [Lo],Go]
 |cons i l ih=>
  intro us h;cases h with
  |cons h1 h2=>
   obtain⟨t,rfl⟩:=h1;obtain⟨xs,e1,e2⟩:=ih h2;refine#[#[(i,t)::xs.toList],?_,by rw[<-e2];rfl];unfold Lo at e1 ⊢;have e1:=GO Tb e1;rw[We] at e1;apply JN.ext';rw[We];simp only[Ge];rw[<-e1]
def uH {pins:Fx (FG×Jp)}{σ:L2.St}{H:Hp}{s:FJ}{p:FG}{l:Fx Int}(I:aE X pins σ H s) (h:H p=FB (.lst (l.map V.int))): ∃xs:JN (Int×Tok),s.heap.IsList p (Lo xs)/\xs.toList.map (·.1)=l:=by
 obtain⟨z,Il,n,r,hl,e⟩:=I.aa5 h;obtain⟨xs,e1,e2⟩:=zD r;exact#[xs,#[_,e,Go,n,by rw[<-e1]],e2]
def zO (hc:X.calm=FS):gY X (.builtin "min") (λxs H Q=> ∃p i j,xs=[.ref p]/\H p=FB (.lst [.int i, .int j])/\Q (.int (min i j)) H):=by
 intro pins s σ H xs us Q I r h;obtain⟨p,i,j,rfl,hp,q⟩:=h;obtain⟨u,rfl,r1⟩:=nZ r;cases r1;obtain⟨as,l,e⟩:=uH (l:=[i,j]) I hp;obtain⟨as⟩:=as;obtain⟨⟨i',t⟩,⟨j',t'⟩,rfl⟩: ∃x y,as=[x,y]:=by
  match as,e with
  |[x,y],_=>exact#[x,y,Go]
 obtain⟨rfl,rfl⟩:i=i'/\j=j':=by simpa [eq_comm] using e
 refine min_intList (I.ok.hd hc) l (by show 0<2;decide) λv h' tk hv k=>#[.int (min i j),H,I.kept k,?_,q];by_cases hij:j<i
 .have e:M5 (λx y=>decide (MQ [(i,t),(j,t')].toArray x<MQ [(i,t),(j,t')].toArray y)) 1=1:=by simp [M5,MQ,hij]
  have hv:(Lo [(i,t),(j,t')].toArray)[M5 (λx y=>decide (MQ [(i,t),(j,t')].toArray x<MQ [(i,t),(j,t')].toArray y)) 1]?=FB v:=hv
  rw[e] at hv;have hv:KQ j t'=v:=by simpa [Lo] using hv
  exact#[t',by rw[<-hv,Int.min_def,FF (by lia)]]
 .have e:M5 (λx y=>decide (MQ [(i,t),(j,t')].toArray x<MQ [(i,t),(j,t')].toArray y)) 1=0:=by simp [M5,MQ,hij]
  have hv:(Lo [(i,t),(j,t')].toArray)[M5 (λx y=>decide (MQ [(i,t),(j,t')].toArray x<MQ [(i,t),(j,t')].toArray y)) 1]?=FB v:=hv
  rw[e] at hv;have hv:KQ i t=v:=by simpa [Lo] using hv
  exact#[t,by rw[<-hv,Int.min_def,FI (by lia)]]
def zT (hc:X.calm=FS):gY X (.builtin "max") (λxs H Q=> ∃p i j,xs=[.ref p]/\H p=FB (.lst [.int i, .int j])/\Q (.int (max i j)) H):=by
 intro pins s σ H xs us Q I r h;obtain⟨p,i,j,rfl,hp,q⟩:=h;obtain⟨u,rfl,r1⟩:=nZ r;cases r1;obtain⟨as,l,e⟩:=uH (l:=[i,j]) I hp;obtain⟨as⟩:=as;obtain⟨⟨i',t⟩,⟨j',t'⟩,rfl⟩: ∃x y,as=[x,y]:=by
  match as,e with
  |[x,y],_=>exact#[x,y,Go]
 obtain⟨rfl,rfl⟩:i=i'/\j=j':=by simpa [eq_comm] using e
 refine max_intList (I.ok.hd hc) l (by show 0<2;decide) λv h' tk hv k=>#[.int (max i j),H,I.kept k,?_,q];by_cases hij:j>i
 .have e:M5 (λx y=>decide (MQ [(i,t),(j,t')].toArray x>MQ [(i,t),(j,t')].toArray y)) 1=1:=by simp [M5,MQ,hij]
  have hv:(Lo [(i,t),(j,t')].toArray)[M5 (λx y=>decide (MQ [(i,t),(j,t')].toArray x>MQ [(i,t),(j,t')].toArray y)) 1]?=FB v:=hv
  rw[e] at hv;have hv:KQ j t'=v:=by simpa [Lo] using hv
  exact#[t',by rw[<-hv,Int.max_def,FI (by lia)]]
 .have e:M5 (λx y=>decide (MQ [(i,t),(j,t')].toArray x>MQ [(i,t),(j,t')].toArray y)) 1=0:=by simp [M5,MQ,hij]
  have hv:(Lo [(i,t),(j,t')].toArray)[M5 (λx y=>decide (MQ [(i,t),(j,t')].toArray x>MQ [(i,t),(j,t')].toArray y)) 1]?=FB v:=hv
  rw[e] at hv;have hv:KQ i t=v:=by simpa [Lo] using hv
  refine#[t,?_];rw[<-hv,Int.max_def];by_cases z:i<=j
  .rw[FI z,show j=i by lia]
  .rw[FF z]
def Bw (ho:op∈Hb) (h:ee x s):decide (V.str (dJ op)=V.str x)=decide (op=s):=by
 obtain⟨rfl,hs⟩:=h;exact decide_eq_decide.mpr #[λz=>wT op ho s hs (V.str.inj z),λz=>by rw[z]]
def jy {X:Cx}{H:Hp}(ho:op∈Hb) (l:ee v s) (yes:op=s->Pe X e (FB (.str (dJ op))::σ) H D.rt) (no:op≠s->Bd X ss D (FB (.str (dJ op))::σ) H) (n0:X.N[0]?=FB ("sign":Gf):=by rfl) (v0:o6 X.env.scope "sign":=by exact Hs Go):
  Bd X (.If (.Compare (.Name "sign" p1) [.Eq] [.Constant (.str v) j p2] p3) [.Return (FB e) p4] [] p5::ss) D (FB (.str (dJ op))::σ) H:=
 bI (cS bS (bA 0 (YN #[Go,_,Go,by rw[Bw ho l];exact cq (λz=>aN (yes z)) no]) n0 v0))
def DP {α:Type}{Q:α->Prop}{c:Prop} [Decidable c] {x y:α}(q:Q (if c then x else y)):(c->Q x)/\(¬c->Q y):=#[λh=>by rw[FI h] at q;exact q,λh=>by rw[FF h] at q;exact q]
def zE (op:Fy) (b:Int):GP:=b !=0||!(decide (op=Fz "/")||decide (op=Fz "%"))
def nM (op:Fy) (a b:Int):Int:=if op=Fz "+" then a+b else if op=Fz "-" then a-b else if op=Fz "*" then a*b else if op=Fz "/" then a.fdiv b else if op=Fz "%" then a.fmod b else Of (M6 op a b)
def ro (a:Int):Prop:= -(2 ^ 64)<a/\a<2 ^ 64
def xD:ee "+" (Fz "+")/\ee "-" (Fz "-")/\ee "*" (Fz "*")/\ee "/" (Fz "/")/\ee "/rest" (Fz "%")/\ee "==" (Fz "==")/\ee "!=" (Fz "!=")/\ee "<=" (Fz "<=")/\ee ">=" (Fz ">=")/\ee "<" (Fz "<"):=#[[008],[008],[008],[008],[008],[008],[008],[008],[008],[008]]
inductive Ct (vs:Fx V) (H:Hp) (Q:VK) (_E:XK):Prop
 |mk (op:Fy) (b:Int) (_:vs=[.str (dJ op), .int b]) (_:op∈Hb) (_: ∀H',aU H H'->Q (.bl (zE op b)) H'):Ct vs H Q _E
def amz (T:aV K mg a):T.d_T.U P w base 1 Ct:=by
 refine T.d_T.F.ok alU [03] [02];obtain⟨op,b,rfl,ho,q⟩:=h;refine#[_,(ah (aH (Dc (cf qf (pv 1) ak (aG _)) (iK (cf kN (pv 0) (BU (aa dI (aa dI ag))) Go))))),?_];refine [013];rw[cj];unfold zE at q;by_cases hb:b=0
 .subst hb
  refine bG ?_;refine#[by show 2<=GD;decide,λp hp=>#[p,_,Go, .inr (qQ.of ae),Go,Go,?_]];have e:uL (.str (dJ op)) [.str "/", .str "/rest"]=(decide (op=Fz "/")||decide (op=Fz "%")):=by
   rw[<-Bw ho xD.2.2.2.1,<-Bw ho xD.2.2.2.2.1];show(("/":Gf) == dJ op||(("/rest":Gf) == dJ op||false))=_
   have b: ∀x:Gf,(x == dJ op)=decide (V.str (dJ op)=V.str x):=λx=>by
    rw[HB,beq_iff_eq,GB];exact#[λz=>by rw[z],λz=>(V.str.inj z).symm]
   rw[PL,b,b]
  show Q (.bl (!uL (.str (dJ op)) [.str "/", .str "/rest"])) _
  rw[e];exact q _ (bH hp)
 .rw[Gp hb]
  refine b8 ?_;have z:=q H λ_ _ e=>e
  rw[show(b !=0)=FS from bne_iff_ne.mpr hb] at z;exact z
inductive BY (vs:Fx V) (H:Hp) (Q:VK) (_E:XK):Prop
 |mk (op:Fy) (x y:Int) (_:vs=[.str (dJ op), .int x, .int y]) (_:op∈Hb) (_:Q (.bl (M6 op x y)) H):BY vs H Q _E
def amA (T:aV K mg a):T.d_V.U P w base 1 BY:=by
 refine T.d_V.F.ok alW [03] [02];obtain⟨op,x,y,rfl,ho,q⟩:=h;obtain⟨_,_,_,_,_,l1,l2,l3,l4,l5⟩:=xD;unfold M6 at q;have q:=DP (Q:=λz=>Q (.bl z) H) q
 refine jy ho l1 (λe=>#[_,cf bS (pv 1) (pv 2) (aG _),Go,by rw[cj];exact q.1 e]) λe=>?_;have q:=DP (Q:=λz=>Q (.bl z) H) (q.2 e)
 refine jy ho l2 (λe=>#[_,cf qf (pv 1) (pv 2) (aG _),Go,by rw[cj,<-decide_not];exact q.1 e]) λe=>?_;have q:=DP (Q:=λz=>Q (.bl z) H) (q.2 e)
 refine jy ho l3 (λe=>#[_,cf dN (pv 1) (pv 2) (aG _),_,_,Go,Go,q.1 e]) λe=>?_;have q:=DP (Q:=λz=>Q (.bl z) H) (q.2 e)
 refine jy ho l4 (λe=>#[_,cf xf (pv 1) (pv 2) (aG _),_,_,Go,Go,q.1 e]) λe=>?_;have q:=DP (Q:=λz=>Q (.bl z) H) (q.2 e)
 exact jy ho l5 (λe=>#[_,cf io (pv 1) (pv 2) (aG _),_,_,Go,Go,q.1 e]) λe=>aN #[_,cf fS (pv 1) (pv 2) (aG _),_,_,Go,Go,q.2 e]
def mW (h:ro j):j.natAbs.log2<9000:=by
 by_cases z:j.natAbs=0
 .rw[z];decide
 .refine FX.lt_trans ((FX.log2_lt z).mpr (show j.natAbs<2 ^ 65 by unfold ro at h;lia)) [01]
inductive Y0 (vs:Fx V) (H:Hp) (Q:VK) (_E:XK):Prop
 |mk (op:Fy) (x y:Int) (_:vs=[.str (dJ op), .int x, .int y]) (_:op∈Hb) (_:ro x) (_:ro y) (_:zE op y=FS) (_:Q (.int (nM op x y)) H):Y0 vs H Q _E
def amB (T:aV K mg a):T.d_U.U P w base 2 Y0:=by
 have G_V:=amA (P:=P) (w:=w) (base:=base) T;refine T.d_U.F.ok alV [03] [02];obtain⟨op,x,y,rfl,ho,bx,b_y,hh,q⟩:=h;obtain⟨l1,l2,l3,l4,l5,_⟩:=xD
 have y0:op=Fz "/"\/op=Fz "%"->y≠0:=λo z=>by
  rw[z] at hh;rcases o with o|o
  .rw[o] at hh;exact F6 hh [00]
  .rw[o] at hh;exact F6 hh [00]
 unfold nM at q;have q:=DP (Q:=λz=>Q (.int z) H) q
 refine jy ho l1 (λe=>#[_,bM dW (pv 1) (pv 2),_,_,Go,Go,q.1 e]) λe=>?_;have q:=DP (Q:=λz=>Q (.int z) H) (q.2 e)
 refine jy ho l2 (λe=>#[_,bM cv (pv 1) (pv 2),_,_,Go,Go,q.1 e]) λe=>?_;have q:=DP (Q:=λz=>Q (.int z) H) (q.2 e)
 refine jy ho l3 (λe=>#[_,bM rR (pv 1) (pv 2),_,_,Go,Go, .inl bx,q.1 e]) λe=>?_;have q:=DP (Q:=λz=>Q (.int z) H) (q.2 e)
 refine jy ho l4 (λe=>#[_,bM n8 (pv 1) (pv 2),_,_,Go,Go,#[y0 (.inl e),mW b_y],q.1 e]) λe=>?_;have q:=DP (Q:=λz=>Q (.int z) H) (q.2 e)
 refine jy ho l5 (λe=>#[_,bM EF (pv 1) (pv 2),_,_,Go,Go,y0 (.inr e),q.1 e]) λe=>?_;refine aN #[_,dD (de (aF G_V hr (by rfl) T.d_V.c aR (aa (pv 0) (aa (pv 1) (aa (pv 2) ag))))) ak ak,op,x,y,Go,ho,_,Go,?_];have q:=q.2 e;unfold Of at q;cases hc:M6 op x y with
 |true=>rw[hc] at q;exact b8 q
 |false=>rw[hc] at q;exact bG q
inductive aij (vs:Fx V) (H:Hp) (Q:VK) (_E:XK):Prop
 |mk (x:Int) (_:(vs=[.str "-", .int x]/\Q (.int (-x)) H)\/(vs=[.str "!", .int x]/\Q (.int (Of (x == 0))) H)):aij vs H Q _E
def aik (T:aV K mg a):T.Z6.U P w base 1 aij:=by
 refine T.Z6.F.ok ag0 (λvs H Q E h=>?_) [02]
 .obtain⟨x,⟨rfl,_⟩|⟨rfl,_⟩⟩:=h
  .rfl
  .rfl
 .obtain⟨x,⟨rfl,q⟩|⟨rfl,q⟩⟩:=h
  .refine#[_,(ao (b4 (aL bS (pv 0) dI (aG _)) (ah (aH (bM cv ak (pv 1)))) aY)
    (ah (aH (dD (aL bS (pv 1) ak (aG _)) ak ak)))),?_]
   refine#[Go,_,Go,aQ (λ_=>?_) λe=>F6 e [00]];exact#[_,_,Go,Go,by show Q (.int (0-x)) H;rw[Int.zero_sub];exact q]
  .refine#[_,(ao (b4 (aL bS (pv 0) dI (aG _)) (ah (aH (bM cv ak (pv 1)))) aY)
    (ah (aH (dD (aL bS (pv 1) ak (aG _)) ak ak)))),?_]
   refine#[Go,_,Go,aQ (λe=>F6 e [00]) λ_=>?_];refine [013];rw[cj];unfold Of at q;by_cases hx:x=0
   .rw[show(x == 0)=FS from beq_iff_eq.mpr hx] at q
    rw[GL hx];exact b8 q
   .rw[show(x == 0)=Gc from beq_eq_false_iff_ne.mpr hx] at q
    rw[Gp hx];exact bG q
inductive pP (vs:Fx V) (H:Hp) (Q:VK) (_E:XK):Prop
 |mk (s:FX) (x:Int) (_:vs=[.int s, .int x]) (_:Q (.bl (jq s x)) H):pP vs H Q _E
def ail (T:aV K mg a):T.Z8.U P w base 1 pP:=by
 refine T.Z8.F.ok ag2 [03] [02];obtain⟨st,x,rfl,q⟩:=h;refine#[_,(ao (b4 (aL bS (pv 0) (aS (by rfl) T.Uu) (aG _)) (ah (aH (cf bS (pv 1) ak (aG _)))) aY)
   (ah (aH (cf qf (pv 1) ak (aG _))))),?_]
 refine [013];rw[cj];unfold jq at q;rw[05]
 .rw[FI (by have:=Gj e;lia)] at q
  exact#[Go,by rw[cj];exact q]
 .rw[FF (by have:=Gw e;lia)] at q
  exact#[Go,by rw[cj];exact q]
inductive Dy (vs:Fx V) (H:Hp) (Q:VK) (_E:XK):Prop
 |mk (s:FX) (_:vs=[.int s]) (_:Q (.int (nP s)) H):Dy vs H Q _E
def aim (T:aV K mg a):T.d_W.U P w base 1 Dy:=by
 refine T.d_W.F.ok alX [03] [02];obtain⟨st,rfl,q⟩:=h;refine#[_,(ah (aH (dD (aL bS (pv 0) (aS (by rfl) T.Uu) (aG _)) ak ak))),?_];refine [013];rw[cj];unfold nP at q;rw[05]
 .rw[FI (by have:=Gj e;lia)] at q
  exact q
 .rw[FF (by have:=Gw e;lia)] at q
  exact q
inductive Cu (vs:Fx V) (H:Hp) (Q:VK) (_E:XK):Prop
 |mk (f:Fy) (p:FG) (l:Fx Int) (k:Fy×FX) (_:vs=[.str (sb f), .ref p]) (_:H p=FB (.lst (l.map V.int))) (_:(LR.find? λg=>g.1 == f)=FB k) (_:l.length=k.2) (_:Q (.int (WX f l)) H):Cu vs H Q _E
def Y1 (h:x=sb s):decide (V.str (sb f)=V.str x)=decide (f=s):=by
 rw[h];exact decide_eq_decide.mpr #[λz=>eD (V.str.inj z),λz=>by rw[z]]
def ain (T:aV K mg a):T.Z7.U P w base 1 Cu:=by
 refine T.Z7.F.ok ag1 [03] [02];obtain⟨f,p,l,k,rfl,hp,hk,hl,q⟩:=h;refine#[_,(ao (b4 (aL bS (pv 0) dI (aG _)) (ah (aH (br (zO Go) (by rfl) T.afW boot_min (aa (pv 1) ag)))) aY)
   (ao (b4 (aL bS (pv 0) dI (aG _)) (ah (aH (br (zT Go) (by rfl) T.afV boot_max (aa (pv 1) ag)))) aY)
   (ah (aH (br tO (by rfl) T.Yz boot_abs (aa (cO bC (pv 1) ak [002]) ag)))))),?_]
 unfold WX at q;dsimp only at q;have kf:k.1=f:=by have:=RE hk;exact beq_iff_eq.mp this
 have km:=K8 hk
 have kk:k=(Fz "min",2)\/k=(Fz "max",2)\/k=(Fz "abs",1):=by
  unfold LR at km
  simpa using km
 refine [013];rw[Y1 (s:=Fz "min") [00]];rw[05]
 .have e:=Gj e
  rw[FI e] at q;have:l.length=2:=by
   rcases kk with z|z|z
   .rw[hl,z]
   .rw[hl,z]
   .rw[z] at kf;rw[e] at kf;exact F6 kf [00]
  match l,this with
  |[i,j],_=>exact#[p,i,j,Go,hp,q]
 have e1:=Gw e;rw[FF e1] at q;refine [013];rw[Y1 (s:=Fz "max") [00]];rw[05]
 .have e:=Gj e
  rw[FI e] at q;have:l.length=2:=by
   rcases kk with z|z|z
   .rw[hl,z]
   .rw[hl,z]
   .rw[z] at kf;rw[e] at kf;exact F6 kf [00]
  match l,this with
  |[i,j],_=>exact#[p,i,j,Go,hp,q]
 have e2:=Gw e;rw[FF e2] at q
 have:l.length=1:=by
  rcases kk with z|z|z
  .rw[z] at kf;exact F6 kf.symm e1
  .rw[z] at kf;exact F6 kf.symm e2
  .rw[hl,z]
 match l,this with
 |[i],_=>exact#[p,_,_,V.int i,Go,Go,cD.of hp,bv (j:=0) Go,i,Go,q]
inductive Y2 (a:bi) (vs:Fx V) (H:Hp) (Q:VK) (E:XK):Prop
 |mk (x:Int) (_:vs=[.int x]) (_:(dE x->Q (.int x) H)) (_:(¬dE x->Rfs a.Lx E H (-12))):Y2 a vs H Q E
def aio (T:aV K mg a) (XC:XW K a):T.d_x.O P w base 4 (Y2 a):=by
 have G_S:=lg (P:=P) (w:=w) (base:=base) T XC;refine fW T.d_x.F al1 [03] [02];obtain⟨x,rfl,h1,h2⟩:=h;refine#[_,(ao (b4 (aL fS (br tO (by rfl) T.Yz boot_abs (aa (pv 0) ag)) (aS (by rfl) T.Uv) (aG _)) (ah (dZ eM XC.Pu G_S [017] (by rfl) T.QO T.d_S.c.b)) aY)
   (ah (aH (pv 0)))),?_]
 refine#[_,Go,_,_,Go,Go,_,Go,?_];rw[05]
 .have e:=Gj e
  exact#[by show 0<=9;decide,_,#[Go,Go],h2 λz=>by unfold dE KY at z;split at e<;>lia]
 .have e:=Gw e
  exact h1 (by unfold dE KY;split at e<;>lia)
inductive Y3 (a:bi) (vs:Fx V) (H:Hp) (Q:VK) (E:XK):Prop
 |mk (op:Fy) (s:FX) (x y:Int) (_:vs=[.str (dJ op), .int x, .int y]) (_:op∈Hb) (_:dE x) (_:dE y) (_:(s=2 ↔ op∈["==","!=","<=",">=","<",">"].map Fz)) (_:(s≠2->op∈["+","-","*","/","%"].map Fz)) (_:(match ga s op x y with
  | .error k=> ∀H',aU H H'->pw a E H' k
  | .ok z=> ∀H',aU H H'->Q (.int z) H')):Y3 a vs H Q E
def BR (h:op∈["==","!=","<=",">=","<",">"].map Fz):op≠Fz "+"/\op≠Fz "-"/\op≠Fz "*"/\op≠Fz "/"/\op≠Fz "%":=by
 revert op
 decide+kernel
def aip (T:aV K mg a) (XC:XW K a):T.aae.O P w base 5 (Y3 a):=by
 have G_T:=amz (P:=P) (w:=w) (base:=base) T
 have G_U:=amB (P:=P) (w:=w) (base:=base) T
 have G_x:=aio (P:=P) (w:=w) (base:=base) T XC
 have G_R:=iu (P:=P) (w:=w) (base:=base) T XC;refine fW T.aae.F ahe [03] [02];obtain⟨op,st,x,y,rfl,ho,bx,b_y,h2,hn,q⟩:=h;refine#[_,(ao (b4 (k6 (de (aF G_T [017] (by rfl) T.d_T.c aR (aa (pv 0) (aa (pv 2) ag))))) (ah (dZ eM XC.MA G_R [017] (by rfl) T.NM T.d_R.c.b)) aY)
   (ah (aH (aF G_x [017] (by rfl) T.d_x.c aA (aa (aF G_U [017] (by rfl) T.d_U.c aR (aa (pv 0) (aa (pv 1) (aa (pv 2) ag)))) ag))))),?_]
 refine#[op,y,Go,ho,λH1 s1=>#[_,Go,?_]];have bx':ro x:=by unfold dE KY at bx;unfold ro;lia
 have amC:ro y:=by unfold dE KY at b_y;unfold ro;lia
 cases hh:zE op y with
 |false=>
  refine b8 ?_;unfold zE at hh;rw[MF] at hh;have y0:y=0:=by simpa using hh.1
  have od:op=Fz "/"\/op=Fz "%":=by have:=hh.2;rw[Qh,MP,GB,GB] at this;exact this
  have n2:st≠2:=λz=>by
   have:=BR (h2.mp z);rcases od with z|z
   .exact this.2.2.2.1 z
   .exact this.2.2.2.2 z
  have ec:ga st op x y= .error (-11):=by
   unfold ga Yg;rw[FF n2,y0];rcases od with z|z
   .rw[z,FF [00],FF [00],FF [00],FI Go]
   .rw[z,FF [00],FF [00],FF [00],FI Go]
  rw[ec] at q;exact#[by show 0<=9;decide,_,#[Go,Go],q H1 s1 _ (.head _)]
 |true=>
  refine bG ?_;refine#[op,x,y,Go,ho,bx',amC,hh,?_];have key:ga st op x y=if dE (nM op x y) then .ok (nM op x y) else .error (-12):=by
   unfold ga;by_cases z:st=2
   .rw[FI z]
    obtain⟨e1,e2,e3,e4,e5⟩:=BR (h2.mp z);have:nM op x y=Of (M6 op x y):=by unfold nM;rw[FF e1,FF e2,FF e3,FF e4,FF e5]
    rw[this,FI (gH _)]
   .rw[FF z]
    have y0:op=Fz "/"\/op=Fz "%"->y≠0:=λo=>by
     unfold zE at hh;intro w0;rw[w0] at hh;rcases o with o|o
     .rw[o] at hh;exact F6 hh [00]
     .rw[o] at hh;exact F6 hh [00]
    have ck: ∀v:Int,(match WY v 0 with
      | .error c=> .error c
      | .ok (v,_)=> .ok v)=if dE v then(.ok v:Except Int Int) else .error (-12):=λv=>by
     unfold WY;by_cases h:dE v
     .rw[FI h,FI h]
     .rw[FF h,FF h]
    unfold Yg nM;by_cases e1:op=Fz "+"
    .rw[FI e1,FI e1];exact ck _
    rw[FF e1,FF e1];by_cases e2:op=Fz "-"
    .rw[FI e2,FI e2];exact ck _
    rw[FF e2,FF e2];by_cases e3:op=Fz "*"
    .rw[FI e3,FI e3];exact ck _
    rw[FF e3,FF e3];by_cases e4:op=Fz "/"
    .rw[FF (y0 (.inl e4)),FI e4,FI e4];exact ck _
    rw[FF e4];have e5:op=Fz "%":=by
     have:=hn z;simp only[Ge,QK,FU,HZ,or_false] at this;rcases this with z|z|z|z|z
     .exact F6 z e1
     .exact F6 z e2
     .exact F6 z e3
     .exact F6 z e4
     .exact z
    rw[FF (y0 (.inr e5)),FF e4,FI e5];exact ck _
  rw[key] at q;refine#[_,Go,λhb=>?_,λhb=>?_]
  .rw[FI hb] at q
   exact q H1 s1
  .rw[FF hb] at q
   exact q H1 s1 _ (.tail _ (.head _))
structure GX (X:Cx) (a:bi) (E:XK):Prop where
 T:aV X.K X.mg a
 C:XW X.K a
 hr:bZ 5 X.A
 up:dn (gb X.prog X.w) X E
 nd:X.N.Nodup
 n0:X.N[0]?=FB ("worker":Gf)
 v0:o6 X.env.scope "worker"
 n2:X.N[2]?=FB ("parts":Gf)
 v2:o6 X.env.scope "parts"
structure pG (a:bi) (H:Hp) (B:uz) (c:pJ) (S:IC) (F0:Fx (Fy×FX)) (r:V) (b:FX) (ff:Fx (be×V)) (ds:Fx rZ) (u:o8) (us:Fx o8) (e:FN) (ts:Fx dQ) (sc:Fx fo) (n:FX):Prop where
 FO:gF S F0
 gd:Gd F0 (.go ((e,u.ps)::ts) sc n)
 W:eW a B H c S.funs r b ff ds (u::us) ((e,u.ps)::ts) sc n
inductive aiq (a:bi) (ok:IC->FN->Fx Int->Prop) (vs:Fx V) (H:Hp) (Q:VK) (E:XK):Prop
 |mk {B:uz}{c:pJ}{S:IC}{F0:Fx (Fy×FX)}{r:V}{b:FX}{ff:Fx (be×V)}{ds:Fx rZ}{u:o8}{us:Fx o8}{e:FN}{ts:Fx dQ}{sc:Fx fo}{n:FX}{m:Mc}(_:vs=[.ref c.wk,u.v, .ref u.p]) (_:ok S e u.ps) (_:pG a H B c S F0 r b ff ds u us e ts sc n) (_:eR S.funs (.go ((e,u.ps)::ts) sc n)=FB m) (_:mQ a B c S.funs (Q .Jm) E m):aiq a ok vs H Q E
section
variable {H H':Hp}
def pG.ev (G:pG a H B c S F0 r b ff ds u us e ts sc n):ax a B.M B.H e u.v:=by
 cases G.W.tk with
 |cons h _=>exact h.1
def pG.hp (G:pG a H B c S F0 r b ff ds u us e ts sc n):H u.p=FB (.lst (u.ps.map V.int)):=G.W.O.get 5 Go
def pG.psB (G:pG a H B c S F0 r b ff ds u us e ts sc n): ∀x∈u.ps,dE x:=(G.gd.1 (e,u.ps) FL).ps
theorem pG.ws (G:pG a H B c S F0 r b ff ds u us e ts sc n):WSx F0 e:=(G.gd.1 (e,u.ps) FL).ws
def pG.len (G:pG a H B c S F0 r b ff ds u us e ts sc n):u.ps.length+n<=10000:=G.W.bn.tl 0 _ Go
theorem pG.grow (G:pG a H B c S F0 r b ff ds u us e ts sc n) (k:aU H H'):pG a H' B c S F0 r b ff ds u us e ts sc n:=#[G.FO,G.gd,G.W.grow k]
def pG.part (G:pG a H B c S F0 r b ff ds u us e ts sc n) (h:H' u.p=FB (.lst (ps.map V.int))) (k: ∀b o,H b=FB o->b≠u.p->H' b=FB o) (hl:ps.length<=u.ps.length) (hb: ∀x∈ps,dE x):pG a H' B c S F0 r b ff ds { u with ps:=ps } us e ts sc n:=by
 refine#[G.FO,#[λt ht=>?_,G.gd.2],G.W.parts h k (by have:=G.len;lia)];rcases FU.mp ht with z|z
 .rw[z];exact#[G.ws,hb]
 .exact G.gd.1 t (FK _ z)
end
abbrev pD (P:Gy) (w:Hf) (K:FC) (mg:Gf->FP FE) (base:Ho) (a:bi) (k:FX) (f:FG) (fd:GQ) (y:Gf) (ok:IC->FN->Fx Int->Prop):Prop:=bW P w K mg base (gb P w) k f fd ["worker",y,"parts"] (aiq a ok)
def re {x Hy y:Gf}{st:Stmt}{f:FG}{fd:GQ}{N:Fx Gf}{ok:IC->FN->Fx Int->Prop}(T:aV K mg a) (XC:XW K a) (hk:5<=k) (F:o9 K x Hy st f fd) (S:ay N ["worker",y,"parts"] (af st))
  (J3: ∀(Hn:FE) (A:Hm) (outer:Fx Env) (s:FJ) (H:Hp) (B:uz) (c:pJ) (S:IC) (F0:Fx (Fy×FX)) (r:V) (b:FX) (ff:Fx (be×V)) (ds:Fx rZ) (u:o8) (us:Fx o8) (e:FN) (ts:Fx dQ) (sc:Fx fo) (n:FX) (m:Mc) (Q:VK) (E:XK),bZ k (A.deeper [011])->ok S e u.ps->pG a H B c S F0 r b ff ds u us e ts sc n->eR S.funs (.go ((e,u.ps)::ts) sc n)=FB m->mQ a B c S.funs (Q .Jm) E m->
   let X:=fg (gb P w) P w K mg base N Hy (af st) f Hn A outer s H E
   let D:eI:= { nx:=λ_ H'=>Q .Jm H',rt:=Q }
   GX X a E->Bd X (bh st) D (L2.start N [.ref c.wk,u.v, .ref u.p]) H):pD P w K mg base a (k+1) f fd y ok:=by
 refine fW F S [03] [02];obtain @⟨B,c,S',F0,r,b,ff,ds,u,us,e,ts,sc,n,m,rfl,ho,G,hm,g⟩:=h;have vis: ∀g∈[("worker":Gf),y,"parts"],o6 (af st) g:=λg hg=>(S.par g hg).elim .inl λz=> .inr (.inl z)
 have pre:=S.pre;refine J3 Hn A outer s H B c S' F0 r b ff ds u us e ts sc n m Q E hr ho G hm g #[T,XC,hr.mono hk,aA,S.nd,?_,vis _ (.head _),?_,vis _ (.tail _ (.tail _ (.head _)))]
 .match N,pre with
  |x::_,e=>exact GO FB (JZ e).1
 .match N,pre with
  |_::_::x::_,e=>exact GO FB (JZ (JZ (JZ e).2).2).1
section
variable {X:Cx}{E:XK}{B:uz}{c:pJ}{F:J4}{r:V}{b:FX}{ff:Fx (be×V)}{ds:Fx rZ}{u:o8}{us:Fx o8}{t:dQ}{ts:Fx dQ}{sc:Fx fo}{n:FX}{D:eI}{σ:L2.St}{H:Hp}{e:HX}{p1 p2 p3 p4 p5:Pos}
def fj (Y:GX X a E) (q:Pe X e (FB (.ref c.wk)::σ) H λv H1=> ∃(o:FN) (us:Fx o8) (ts:Fx dQ),eW a B H1 c F r b ff ds us ts sc n/\ax a B.M B.H o v/\mQ a B c F (D.nx (FB (.ref c.wk)::σ)) E (kD o ts sc n)) (W:eW a B H c F r b ff ds us ts sc n) (hp:iB p2 p4:=by rfl) (KN:F9 [e] X.env=[[001]]:=by rfl):
  Bd X [.Expr (.Call (.Attribute (.Name "worker" p1) "begin" p2) [e] [] p4) p5] D (FB (.ref c.wk)::σ) H:=
 eE (bf (cB (dR Y.n0 Y.v0) Y.T.II Y.T.Xs.c (su Y.T Y.C) Y.hr Y.up (aa dA ag KN) KN Go (eN hp (by rw[KN];rfl))) Go) #[c.wk,c.dw,_,Go,W.ins,Go,q.mono λv H1 ⟨o,us,ts,W1,ev,g⟩=> .mk Go W1 ev g]
def AF {N:Hp->Prop}{E':XK}(g:mQ a B c F N E (eS ts sc n x)):mQ a B c F N E' (eS ts sc n x):=by
 cases ts<;>exact g
def dh (Y:GX X a E) (W:eW a B H c F r b ff ds us ts sc n) (q:Pe X e (FB (.ref c.wk)::σ) H λv H1=> ∃(x:Int) (ds:Fx rZ) (u:o8) (us:Fx o8) (t:dQ) (ts:Fx dQ) (sc:Fx fo),v= .int x/\eW a B H1 c F r b ff ds (u::us) (t::ts) sc n/\mQ a B c F (D.nx (FB (.ref c.wk)::σ)) E (eS ts sc n x)) (hp:iB p2 p4:=by rfl) (KN:F9 [e] X.env=[[001]]:=by rfl):
  Bd X [.Expr (.Call (.Attribute (.Name "worker" p1) "finish" p2) [e] [] p4) p5] D (FB (.ref c.wk)::σ) H:=
 eE (bf (cB (dR Y.n0 Y.v0) Y.T.II Y.T.aac.c (z6 Y.T) (Y.hr.mono [01]) aR (aa dA ag KN) KN Go (eN hp (by rw[KN];rfl))) Go) #[c.wk,c.dw,_,Go,W.ins,Go,q.mono λv H1 ⟨x,ds,u,us,t,ts,sc,hv,W1,g⟩=>by subst hv;exact .mk Go W1 (AF g)]
def dL {Q:VK}(Y:GX X a E) (hp:H p=FB (.lst xs)) (q:Q (.int xs.length) H) (hg:Gl X "len":=by rfl):Pe X (.Call (.Name "len" p1) [.Name "parts" p3] [] p2) (FB (.ref c.wk)::FB v::FB (.ref p)::σ) H Q:=iJ Y.T.KW hp (dR Y.n2 Y.v2) [05] q hg
end
theorem jH {α β:Type}{F:α->β->Prop} : ∀ {l:Fx α}{m:Fx β}{i:FX}{y:β},Paired F l m->m[i]?=FB y-> ∃x,l[i]?=FB x/\F x y
 |_,_,_,_, .nil,h=>by cases h
 |_,_,0,_, .cons r t,h=>#[_,Go,by obtain rfl:=F4 h;exact r]
 |_,_,i+1,_, .cons r t,h=>jH (i:=i) t h
def air {a:bi}{M:FG->Prop}{H:Hp}{e x:FN}(he:e= .neg x\/e= .not x) (h:ax a M H e v): ∃sg u,bF M H a.Ll [("sign", .str sg),("operand",u)] v/\ax a M H x u/\(sg="-"/\e= .neg x\/sg="!"/\e= .not x):=by
 rcases he with rfl|rfl
 .unfold ax at h
  obtain⟨u,h1,h2⟩:=h;exact#[_,u,h1,h2, .inl #[Go,Go]]
 .unfold ax at h
  obtain⟨u,h1,h2⟩:=h;exact#[_,u,h1,h2, .inr #[Go,Go]]
def amD (T:aV K mg a) (XC:XW K a):pD P w K mg base a 6 a.f_9 a.aeM "unary" λ_ e _=> ∃x,e= .neg x\/e= .not x:=by
 refine re T XC [01] T.d_9.F al0 λHn A outer s H B c S F0 r b ff ds u us e ts sc n m Q E hr ho G hm g=>?_;intro X D Y;obtain⟨x,he⟩:=ho;have W:=G.W;obtain⟨sg,w,i,hw,un⟩:=air he G.ev;refine cw (jz (dL Y G.hp (cP #[_,_,Go,Go,?_])));rw[FT];have hp:=G.hp;generalize Xe:u.ps=ps at hm hp;cases ps with
 |nil=>
  refine b8 (fj Y (cr (bA 1 (i.fld W.O.same T.PV T.NO Go #[x,_,_,W,hw,?_])) Go) W);rcases un with⟨_,rfl⟩|⟨_,rfl⟩
  .cases hm;rw[Xe];exact g
  .cases hm;rw[Xe];exact g
 |cons y ys=>
  refine bG (dh Y W (bN (aP (cr (bA 1 (i.fld W.O.same T.PV T.O7 Go (aP (lA (bA 2 (cP #[u.p,_,_,V.int y,Go,Go,cD.of hp,bv (j:=0) Go,cH #[y,?_]])) [002])))) Go)) (aik T) [06] T.Z6.c aR));rcases un with⟨rfl,rfl⟩|⟨rfl,rfl⟩
  .cases hm
   exact .inl #[Go,_,_,_,_,_,_,_,Go,W,g]
  .cases hm
   exact .inr #[Go,_,_,_,_,_,_,_,Go,W,g]
def ais (T:aV K mg a) (XC:XW K a):pD P w K mg base a 6 a.ad5 a.Ys "choice" λ_ e _=> ∃x y z,e= .pick x y z:=by
 refine re T XC [01] T.afP.F ahf λHn A outer s H B c S F0 r b ff ds u us e ts sc n m Q E hr ho G hm g=>?_;intro X D Y;obtain⟨x,y,z,rfl⟩:=ho;have W:=G.W;have ev:=G.ev;unfold ax at ev;obtain⟨u1,u2,u3,i,e1,e2,e3⟩:=ev;have hp:=G.hp;refine cw (jz (dL Y hp (cP #[_,_,Go,Go,?_])));rw[FT];generalize Xe:u.ps=ps at hm hp;have bg: ∀ {p1 p2 p3 p4 p5 p6:Pos}{f:Gf}{o:FN}{v:V},([("condition",u1),("chosen",u2),("otherwise",u3)]:Fx (Gf×V)).lookup f=FB v->au K a.KU f->ax a B.M B.H o v->mQ a B c S.funs (Q .Jm) E (kD o ((.pick x y z,u.ps)::ts) sc n)->(p2.endLine == p4.line)=FS->Bd X [.Expr (.Call (.Attribute (.Name "worker" p1) "begin" p2) [.Attribute (.Name "choice" p3) f p6] [] p4) p5] D [FB (.ref c.wk),FB u.v,FB (.ref u.p)] H:=λhl no ev g hp=>fj Y (cr (bA 1 (i.fld W.O.same T.Qw no hl #[_,_,_,W,ev,g])) Go) W hp
 match ps,hm with
 |[],hm=>cases hm;exact b8 (bg Go T.MH e1 (by rw[Xe];exact g) Go)
 |[t],hm=>
  cases hm;refine bG (cw (jz (dL Y hp (cP #[_,_,Go,Go,bG (cw (cS qf (lA (bA 2 (cP #[u.p,_,_,V.int t,Go,Go,cD.of hp,bv (j:=0) Go,cP [013]])) [002])))]))));rw[cj];by_cases ht:t=0
  .rw[FF (λw=>w ht)] at g
   rw[GL ht];exact bG (bg Go T.MI e3 (by rw[Xe];exact g) Go)
  .rw[FI ht] at g
   rw[Gp ht];exact b8 (bg Go T.NQ e2 (by rw[Xe];exact g) Go)
 |[t,t'],hm=>
  cases hm;exact bG (cw (jz (dL Y hp (cP #[_,_,Go,Go,b8 (dh Y W (lA (bA 2 (cP #[u.p,_,_,V.int t',Go,Go,cD.of hp,bv (j:=1) Go,_,_,_,_,_,_,_,Go,W,g])) [002]))]))))
 |_::_::_::_,hm=>cases hm
def lW:FN->FP (FX×Fx FN×Fx Fy)
 | .sums e r=>FB (3,e::DO r,An r)
 | .prods e r=>FB (4,e::DO r,An r)
 | .cmp op x y=>FB (2,[x,y],[op])
 | .both e l=>FB (1,e::lc l,(lc l).map λ_=>Fz "&&")
 | .either e l=>FB (0,e::lc l,(lc l).map λ_=>Fz "||")
 |_=>FM
section
variable {M:FG->Prop}{H:Hp}
theorem mO: ∀ {l:Kt}{us:Fx V},cy a M H l us->Paired (λu e=>ax a M H e u) us (lc l)
 | .nil,us,h=>by unfold cy at h;rw[h];exact .nil
 | .cons e l,us,h=>by
  unfold cy at h;obtain⟨u,vs,rfl,h1,h2⟩:=h;exact .cons h1 (mO h2)
theorem rM: ∀ {l:Q3}{us ss:Fx V},dF a M H l us ss->Paired (λu e=>ax a M H e u) us (DO l)/\ss=(An l).map λo=>V.str (dJ o)
 | .nil,us,ss,h=>by unfold dF at h;rw[h.1,h.2];exact#[.nil,Go]
 | .cons op e l,us,ss,h=>by
  unfold dF at h;obtain⟨u,vs,ts,rfl,rfl,h1,h2⟩:=h;obtain⟨g1,g2⟩:=rM h2;exact#[.cons h1 g1,by rw[g2];rfl]
inductive abM (a:bi) (M:FG->Prop) (H:Hp) (s:FX) (ops:Fx FN) (sgs:Fx Fy) (v:V):Prop
 |mk (oq gq:V) (us:Fx V) (_:bF M H a.Kd [("strength", .int s),("operands",oq),("signs",gq)] v) (_:b9 M H us oq) (_:Paired (λu e=>ax a M H e u) us ops) (_:b9 M H (sgs.map λo=>V.str (dJ o)) gq):abM a M H s ops sgs v
def nA {e:FN}{v:V}{s:FX}{ops:Fx FN}{sgs:Fx Fy}(h:ax a M H e v) (hc:lW e=FB (s,ops,sgs)):abM a M H s ops sgs v:=by
 have sg: ∀(t:Fy) (x:Gf) (l:Kt) (us:Fx V),dJ t=x->us.length=(lc l).length->us.map (λ_=>V.str x)=((lc l).map λ_=>t).map λo=>V.str (dJ o):=λt x l us e hl=>by
  rw[J9,<-e,Xj,hl];exact(Xj ..).symm
 cases e with
 |sums e r=>
  unfold ax at h;cases hc;obtain⟨_,_,u,us,ss,h1,h2,h3,h4,h5⟩:=h;obtain⟨g1,g2⟩:=rM h5;exact#[_,_,_,h1,h2, .cons h4 g1,by rw[<-g2];exact h3]
 |prods e r=>
  unfold ax at h;cases hc;obtain⟨_,_,u,us,ss,h1,h2,h3,h4,h5⟩:=h;obtain⟨g1,g2⟩:=rM h5;exact#[_,_,_,h1,h2, .cons h4 g1,by rw[<-g2];exact h3]
 |cmp op x y=>
  unfold ax at h;cases hc;obtain⟨_,_,u1,u2,h1,h2,h3,h4,h5⟩:=h;exact#[_,_,_,h1,h2, .cons h4 (.cons h5 .nil),h3]
 |both e l=>
  unfold ax at h;cases hc;obtain⟨_,_,u,us,h1,h2,h3,h4,h5⟩:=h;have g1:=mO h5;exact#[_,_,_,h1,h2, .cons h4 g1,by rw[<-sg (Fz "&&") "&&" l us [00] (aZ g1)];exact h3]
 |either e l=>
  unfold ax at h;cases hc;obtain⟨_,_,u,us,h1,h2,h3,h4,h5⟩:=h;have g1:=mO h5;exact#[_,_,_,h1,h2, .cons h4 g1,by rw[<-sg (Fz "||") "||" l us [00] (aZ g1)];exact h3]
 |_=>cases hc
def m7 {F:J4}{e:FN}{s:FX}{ops:Fx FN}{sgs:Fx Fy}(hc:lW e=FB (s,ops,sgs)) (ps:Fx Int) (ts:Fx dQ) (sc:Fx fo) (n:FX):eR F (.go ((e,ps)::ts) sc n)=if s<=1 then pC s ops e ps ts sc n else lG s ops sgs e ps ts sc n:=by
 cases e<;>cases hc<;>rfl
end
def zW {s:FX}{ops:Fx FN}{sgs:Fx Fy}(h:sgs[qs.length]?=FM):lG s ops sgs e (qs++[x,y]) ts sc n=FM:=by
 unfold lG;dsimp only;rw[show(qs++[x,y]).length=qs.length+2 by simp,FI (by lia),Nw,h]
theorem wD {L:Fx String}{V:Fx Fy}{G:Fx (Fy×FX)} : ∀ {l:Q3}{op:Fy},wm L V G l->op∈An l->op∈L.map Fz
 | .nil,_,_,h=>nomatch h
 | .cons o x l,op,w,h=>by
  unfold wm at w;rcases FU.mp h with z|z
  .rw[z];exact w.1
  .exact wD w.2.2 z
def rW:(∀o∈["+","-"].map Fz,o∈Hb/\o∉["==","!=","<=",">=","<",">"].map Fz/\o∈["+","-","*","/","%"].map Fz)/\(∀o∈["*","/","%"].map Fz,o∈Hb/\o∉["==","!=","<=",">=","<",">"].map Fz/\o∈["+","-","*","/","%"].map Fz)/\(∀o∈["==","!=","<=",">=","<",">"].map Fz,o∈Hb):=by decide+kernel
def yx {s:FX}{ops:Fx FN}{sgs:Fx Fy}{op:Fy}(w:WSx F0 e) (hc:lW e=FB (s,ops,sgs)) (h2: ¬s<=1) (ho:op∈sgs):op∈Hb/\(s=2 ↔ op∈["==","!=","<=",">=","<",">"].map Fz)/\(s≠2->op∈["+","-","*","/","%"].map Fz):=by
 obtain⟨V,G,w,_⟩:=w;cases e with
 |sums e l=>
  cases hc;unfold WS at w;have z:=rW.1 op (wD w.2.2 ho);exact#[z.1,#[(λy=>by cases y),λy=>F6 y z.2.1],λ_=>z.2.2]
 |prods e l=>
  cases hc;unfold WS at w;have z:=rW.2.1 op (wD w.2.2 ho);exact#[z.1,#[(λy=>by cases y),λy=>F6 y z.2.1],λ_=>z.2.2]
 |cmp o x y=>
  cases hc;unfold WS at w;rw[Ga.mp ho];exact#[rW.2.2 _ w.1,#[λ_=>w.1,λ_=>rfl],λz=>F6 Go z]
 |both e l=>cases hc;exact F6 (F5 1) h2
 |either e l=>cases hc;exact F6 (Gn 1) h2
 |_=>cases hc
section
variable {E:XK}{H:Hp}{Q:VK}
def wF (Y:GX X a E) (C:abM a B.M B.H s ops sgs v) (W:eW a B H c F r b ff ds (u::us) ((e,u.ps)::ts) sc n) (lt: ∀o,ops[u.ps.length]?=FB o->mQ a B c F (D.nx (FB (.ref c.wk)::FB v::FB (.ref u.p)::σ)) E (kD o ((e,u.ps)::ts) sc n)) (ge:ops[u.ps.length]?=FM->Bd X UD D (FB (.ref c.wk)::FB v::FB (.ref u.p)::σ) H)
  (hg:Gl X "len":=by rfl) (n1:X.N[1]?=FB ("chain":Gf):=by rfl) (v1:o6 X.env.scope "chain":=by exact Hs Go) (h2:(q1.endLine == q2.line)=FS:=by rfl):
  Bd X [.If (.Compare (.Call (.Name "len" p1) [.Name "parts" p2] [] p3) [.Lt] [.Call (.Name "len" p4) [.Attribute (.Name "chain" p5) "operands" p6] [] p7] p8) [.Expr (.Call (.Attribute (.Name "worker" q4) "begin" q1) [.Subscript (.Attribute (.Name "chain" q3) "operands" p9) (.Call (.Name "len" q5) [.Name "parts" q6] [] q7) q8] [] q2) q9] UD q0] D (FB (.ref c.wk)::FB v::FB (.ref u.p)::σ) H:=by
 obtain⟨oq,gq,Px,i,⟨o,rfl,_,ho⟩,pr,_⟩:=C;have ho:=W.O.same _ _ ho;have hp:=W.O.get 5 Go;have fl: ∀ {Q:VK},Q (.ref o) H->cQ X.K "operands" Q v H:=λq=>i.fld W.O.same Y.T.NP Y.T.Nk Go q
 refine cw (cS io (dL Y hp (iJ Y.T.KW ho (ai (dR n1 v1) Go) (λ_ q=>fl q) #[_,_,Go,Go,_,Go,cq (λz=>?_) λz=>ge (Js ?_)] hg) hg) Go)
 .rw[FT,aZ pr] at z
  have lt':u.ps.length<ops.length:=by lia
  obtain⟨w,hw,ew⟩:=jH pr (HS lt');exact fj Y (lA (cr (bA 1 (fl (dL Y hp #[o,_,_,w,Go,Go,cD.of ho,by rw[FT];exact bv hw,_,_,_,W,ew,lt _ (HS lt')] hg)) n1 v1) Go) [002]) W h2
 .rw[FT,aZ pr] at z
  lia
end
def ait (T:aV K mg a) (XC:XW K a):pD P w K mg base a 6 a.ad3 a.Yq "chain" λ_ e _=> ∃s ops sgs,lW e=FB (s,ops,sgs)/\s<=1:=by
 refine re T XC [01] T.afN.F ahc λHn A outer s H B c S F0 r b ff ds u us e ts sc n m Q E hr ho G hm g=>?_;intro X D Y;obtain⟨st,ops,sgs,hc,hs⟩:=ho;have W:=G.W;rw[m7 hc,FI hs] at hm;have C:=nA G.ev hc;obtain⟨oq,gq,Px,i,_⟩:=id C;have fl: ∀ {Q:VK},Q (.int st) H->cQ K "strength" Q u.v H:=λq=>i.fld W.O.same T.NP T.LM Go q
 unfold pC at hm;refine abi (Z:= ¬u.ps.getLast?.any (jq st)=FS) (λna=>wF Y C W (λo ho=>?_) λho=>?_) λUD=>DF (cS fS (dL Y G.hp (cP #[_,_,Go,Go,_,Go,?_])))
 .rw[FF na,ho] at hm
  cases hm;exact g
 .rw[FF na,ho] at hm
  cases hm;exact dh Y W (A9 cv (cP (bN (aP (cr (bA 1 (fl (cH #[st,Go,_,_,Go,Go,_,_,_,_,_,_,_,Go,W,g]))) Go)) (aim T) [06] T.d_W.c aR)))
 .rcases Ub u.ps with z|⟨qs,y,z⟩
  .rw[z]
   exact bG (bG (UD (by rw[z];exact FA)))
  .rw[Uc] at z
   have hp:=G.hp;rw[z,Hk] at hp;rw[z,FT,Gb];refine cq (λ_=>?_) λz=>F6 z (by show¬ ¬(0:Int)<((qs.length+1:FX):Int);lia)
   refine du (bN (aP (cr (bA 1 (fl (aP (lA (bA 2 #[_,dH cE ak,_,Go,u.p,_,_,V.int y,Go,Go,cD.of hp,eG _ _,cH #[st,y,Go,_,Go,aQ (λey=>?_) λey=>UD (by rw[z];simp [ey])]]) [002])))) Go)) (ail T) [06] T.Z8.c aR);rw[z,FI (by simp [ey])] at hm;cases hm;exact dh Y W (bN (aP (cr (bA 1 (fl (cH #[st,Go,_,_,_,_,_,_,_,Go,W,g]))) Go)) (aim T) [06] T.d_W.c aR)
def uw {α:Type}(l:Fx α) (h:2<=l.length): ∃qs x y,l=qs++[x,y]:=by
 refine#[l.take (l.length-2),l[l.length-2],l[l.length-1],?_];have t1:=Ua (l.length-2) l;have t2:l.drop (l.length-2)=[l[l.length-2],l[l.length-1]]:=by
  rw[HL (by lia),HL (by lia),KC (by lia)]
  congr 2
  congr 1
  lia
 rw[t2] at t1;exact t1.symm
def AC {H:Hp}{Q:VK}{te:TE}(he:PE X e te) (hv: ∀R:VK,R (.ref p) H->te σ H R) (h:H p=FB (.lst (xs++[v]))) (q:Q v (aI H p (.lst xs))) (hb:Ja e "pop" X.env (eval e X.env)=eval e X.env:=by rfl) (hp:iB p1 p2:=by rfl):Pe X (.Call (.Attribute e "pop" p1) [] [] p2) σ H Q:=
 #[_,Dz JD SO SQ Bf he hb hp,hv _ #[.inl #[Go,_,cD.of h],p,_,v,Go,Go,h,by simp,by rw[UM];exact q]]
def aiu (T:aV K mg a) (XC:XW K a):pD P w K mg base a 6 a.ad4 a.Yr "chain" λ_ e _=> ∃s ops sgs,lW e=FB (s,ops,sgs)/\ ¬s<=1:=by
 refine re T XC [01] T.afO.F ahd λHn A outer s H B c S F0 r b ff ds u us e ts sc n m Q E hr ho G hm g=>?_;intro X D Y;obtain⟨st,ops,sgs,hc,hs⟩:=ho;rw[m7 hc,FF hs] at hm;have C:=nA G.ev hc;refine gi (λσ' H'=> ∃(ps:Fx Int) (y:FP V),σ'=[FB (.ref c.wk),FB u.v,FB (.ref u.p),y]/\pG a H' B c S F0 r b ff ds { u with ps:=ps } us e ts sc n/\rk ops e ps ts sc n=FB m) ?_ (cS fS (dL Y G.hp (cP #[_,_,Go,Go,_,Go,?_])))
 .rintro σ' H' ⟨ps,y,rfl,G',QC⟩
  refine wF (u:= { u with ps:=ps }) Y C G'.W (λo ho=>?_) λho=>?_
  .have ho:ops[ps.length]?=FB o:=ho
   unfold rk at QC;rw[ho] at QC;cases QC;exact g
  .have ho:ops[ps.length]?=FM:=ho
   unfold rk at QC;rw[ho] at QC;obtain⟨x,hx,rfl⟩:=GH.mp QC;obtain⟨qs,rfl⟩: ∃qs,ps=qs++[x]:=Fx.getLast?_eq_some_iff.mp hx;have WQ:=G'.hp;rw[Hk] at WQ;exact dh Y G'.W (lA (bA 2 #[_,dH cE ak,_,Go,u.p,_,_,V.int x,Go,Go,cD.of WQ,eG _ _,_,_,_,_,_,_,_,Go,G'.W,g]) [002])
 .rw[FT]
  refine cq (λz=>?_) λz=>#[u.ps,FM,Go,G,by rw[<-hm];exact(oN (by lia)).symm];obtain⟨qs,x,y,ep⟩:=uw u.ps (by lia);have hp:H u.p=FB (.lst ((qs++[x]).map V.int++[V.int y])):=by rw[G.hp,ep];simp
  rw[ep] at hm;cases X0:sgs[qs.length]? with
  |none=>rw[zW X0] at hm;cases hm
  |some op=>
   rw[sN X0] at hm;obtain⟨o1,o2,o3⟩:=yx G.ws hc hs (G8 X0);have bx:dE x:=G.psB x (by simp [ep]);have bY:dE y:=G.psB y (by simp [ep]);have mem: ∀z∈qs++[x],dE z:=λz hz=>G.psB z (by rw[ep];simp only[Gr,FU,HZ,or_false] at hz ⊢; rcases hz with h|h;exact .inl h;exact .inr (.inl h))
   have g1:pG a (aI H u.p (.lst ((qs++[x]).map V.int))) B c S F0 r b ff ds { u with ps:=qs++[x] } us e ts sc n:=G.part ae nG (by simp [ep]) mem;refine aO 3 Y.nd (AC (pv 2) [05] hp ?_)
   have WO:=g1.hp
   have WO:aI H u.p (.lst ((qs++[x]).map V.int)) u.p=FB (.lst (qs.map V.int++[V.int x])):=by rw[ae,Hk];rfl
   obtain⟨oq,gq,Px,i,_,_,⟨sq,rfl,_,hsq⟩⟩:=C;refine iH (pv 2) [05] WO (bN (aP (lA (cr (bA 1 (i.fld g1.W.O.same T.NP T.OC Go (A9 cv (dL Y WO (cP #[_,_,Go,Go,sq,_,_,V.str (dJ op),Go,Go,cD.of (g1.W.O.same _ _ hsq),?_,aP (lA (bA 2 #[_,dH cE ak,_,Go,u.p,_,_,V.int x,Go,Go,cD.of WO,eG _ _,aP (bA 3 (cH #[op,st,x,y,Go,o1,bx,bY,o2,o3,?_]))]) [002])]))))) Go) [002])) (aip T XC) hr T.aae.c aA)
   .rw[Gb,FT,show(((qs.length+[V.int x].length:FX):Int)-1)=((qs.length:FX):Int) by show((qs.length+1:FX):Int)-1=_;lia]
    exact bv (by rw[GR,X0];rfl)
   .cases hk:ga st op x y with
    |error k=>
     rw[hk] at hm;cases hm;exact λH' sm=>g H' λb o z=>sm b o (g1.W.O.same b o z)
    |ok z=>
     rw[hk] at hm;have gl:=G.len;rw[ep,Gb] at gl;have gl:qs.length+2+n<=10000:=gl;intro H2 s2;refine#[_,s2 _ _ WO,by rw[Gb,FT,IE];show qs.length+1<_;lia,cg #[qs++[x,z],FB (.int y),Go,?_,hm]];refine G.part (by rw[ae];simp) (λb o e nb=>?_) (by simp [ep]) λw hw=>?_
     .rw[ac nb];exact s2 b o (nG b o e nb)
     .have hw:w∈qs++[x]\/w=z:=by
       simp only[Gr,FU,HZ,or_false] at hw ⊢;rcases hw with h|h|h
       .exact .inl (.inl h)
       .exact .inl (.inr h)
       .exact .inr h
      rcases hw with hw|hw
      .exact mem w hw
      .rw[hw];exact sP hk
def aiv (T:aV K mg a) (XC:XW K a):pD P w K mg base a 7 a.ad2 a.Yp "chain" λ_ e _=> ∃x,lW e=FB x:=by
 refine re T XC [01] T.afM.F ahb λHn A outer s H B c S F0 r b ff ds u us e ts sc n m Q E hr ho G hm g=>?_;intro X D Y;obtain⟨⟨st,ops,sgs⟩,hc⟩:=ho;obtain⟨oq,gq,Px,i,_⟩:=nA G.ev hc;refine cw #[_,aL kY [010] (BU (aa (aS (by rfl) T.WB) (aa (aS (by rfl) T.Uu) ag))) Go,i.fld G.W.O.same T.NP T.LM Go #[by show 2<=GD;decide,λt ht=>#[t,_,Go, .inr (qQ.of ae),Go,Go,_,Go,?_]]];have G:=G.grow (bH (o:= .tup [.int 0, .int 1]) ht);show if uL (.int st) [.int 0, .int 1]=FS then _ else _
 have e0:uL (.int st) [.int 0, .int 1]=decide (st<=1):=by
  show((0:Int) == (st:Int)||((1:Int) == (st:Int)||false))=_
  rw[PL,HB,MP,beq_iff_eq,beq_iff_eq,GB];lia
 rw[e0];have args: ∀ {sp:Sp}{x:Gf}{k:FX}{f:FG}{fd:GQ}{p1 p2 p3 p4 p5 p6:Pos},bW P w K mg base (gb P w) k f fd ["worker","chain","parts"] sp->bZ k X.A->CD K mg x f fd ["worker","chain","parts"]->Gl X x->(x == [003])=Gc->sp [.ref c.wk,u.v, .ref u.p] (aI H t (.tup [.int 0, .int 1])) (λ_ H'=>Q .Jm H') E->Bd X [.Expr (.Call (.Name x p1) [.Name "worker" p2, .Name "chain" p3, .Name "parts" p4] [] p5) p6] D [FB (.ref c.wk),FB u.v,FB (.ref u.p)] (aI H t (.tup [.int 0, .int 1])):=λG hr d hg hx q=>fm (bN (aP (bA 0 (aP (bA 1 (aP (bA 2 (cH q))))))) G hr d aA hg hx) Go
 exact cq (λs1=>args (ait T XC) hr T.afN.c Go [01] (.mk Go #[st,ops,sgs,hc,s1] G hm g)) λs1=>args (aiu T XC) hr T.afO.c Go [01] (.mk Go #[st,ops,sgs,hc,s1] G hm g)
section
open Vbemac (checked)
def mt3 (e:FN) (y:Fy) (b:FN) (p q:Int) (acc:Fx Int) (t:FX) (r:Fx dQ) (sc:Fx fo) (n:FX):FP Mc:=if p+(t:Int)<=q then(match n with
   |0=>FB (.err (-13))
   |n+1=>(match sc with
    |[]=>FM
    |h::tl=>FB (kD b ((e,p::q::acc)::r) (pj (h::tl) y (p+(t:Int))) n)))
  else FB (eS r sc n (acc.getLast?.getD 0))
def wn (h:acc.length<=1):gP e y b p q acc ts sc n=mt3 e y b p q acc acc.length ts sc n:=by
 unfold gP mt3;dsimp only;rw[FF (by lia)]
 all_goals rfl
def vg:gP e y b p q (acc++[x,z]) ts sc n=(match checked (x+z) 0 with
  | .error c=>FB (.err c)
  | .ok (d,_)=>mt3 e y b p q (acc++[x,d]) (acc.length+2) ts sc n):=by
 have l: ∀d,(acc++[x,d]).length=acc.length+2:=λd=>by simp
 unfold gP mt3;dsimp only;rw[l,FI (by lia),Nw,show(acc++[x,z]).getD acc.length 0=x by simp [Jl],show acc.length+2-1=acc.length+1 from Go,show(acc++[x,z]).getD (acc.length+1) 0=z by simp [Jl],
  show(acc++[x,z]).take (acc.length+1)=acc++[x] by rw[Q8,JL (LQ _)];simp]
 cases checked (x+z) 0 with
 |error c=>rfl
 |ok d=>
  obtain⟨d,_⟩:=d;dsimp only;rw[G9]
  rfl
def aiw (T:aV K mg a) (XC:XW K a):pD P w K mg base a 6 a.ad7 a.Yu "summed" λ_ e ps=> ∃y lo hi x p q acc,e= .sum y lo hi x/\ps=p::q::acc:=by
 refine re T XC [01] T.afR.F ahh λHn A outer s H B c S F0 r b ff ds u us e ts sc n m Q E hr ho G hm g=>?_;intro X D Y;obtain⟨y,lo,hi,x,p0,q0,acc,rfl,ep⟩:=ho;have ev:=G.ev;unfold ax at ev;obtain⟨u1,u2,u3,i,_,_,e3⟩:=ev;have hp:=G.hp;have psB:=G.psB;have gl:=G.len;rw[ep] at hm hp psB gl;have gl:acc.length+2+n<=10000:=gl;have hm:gP (.sum y lo hi x) y x p0 q0 acc ts sc n=FB m:=hm;refine aO 3 Y.nd (A9 cv (dL Y hp (cP #[_,_,Go,Go,?_])));rw[FT,show(((p0::q0::acc).length:FX):Int)-2=((acc.length:FX):Int) by rw[FW,FW];lia];refine gi (λσ' H'=> ∃(as:Fx Int) (o:FP V),σ'=[FB (.ref c.wk),FB u.v,FB (.ref u.p),FB (.int (acc.length:FX)),o]/\as.length=acc.length/\pG a H' B c S F0 r b ff ds { u with ps:=p0::q0::as } us (.sum y lo hi x) ts sc n/\mt3 (.sum y lo hi x) y x p0 q0 as acc.length ts sc n=FB m) ?_ (cS fS (bA 3 (cP #[_,_,Go,Go,_,Go,cq (λz0=>?_) λz0=>#[acc,FM,Go,Go,?_,by rw[<-hm];exact(wn (by lia)).symm]])))
 .rintro σ' H' ⟨as,o,rfl,la,G',QC⟩
  have WQ:=G'.hp
  have W:=G'.W;refine cw (cS dN (A9 dW (lA (bA 2 (cP #[u.p,_,_,V.int p0,Go,Go,cD.of WQ,bv (j:=0) Go,bA 3 #[_,_,Go,Go,lA (bA 2 (cP #[u.p,_,_,V.int q0,Go,Go,cD.of WQ,bv (j:=1) Go,_,_,Go,Go,_,Go,cq (λe0=>?_) λe0=>?_])) [002]]])) [002])))
  .unfold mt3 at QC
   rw[FI e0] at QC;refine aT (bf (bV (pv 0) T.II T.Wu.c (ii T XC) [06] aA)) #[c.wk,c.dw,_,Go,W.ins,Go, .mk Go W (λz=>?_) λn' z H1 W1=>?_]
   .rw[z] at QC
    cases QC;exact g H' W.O.same
   .rw[z] at QC
    have sq:=W1.sq;cases sq with
    |nil=>cases QC
    | @cons d s0 ds sc h0 sq=>
    cases QC;have bn:=W.bn.bn;exact bB #[_,cB (pv 0) T.II T.Xr.c (kT T) [06] aR (aa [010] (aa (bM dW (cO bC (pv 2) ak [002]) (pv 3)) ag)),c.wk,c.dw,_,Go,W1.ins,Go,i.fld W1.O.same T.Qx T.QQ Go #[u.p,_,_,V.int p0,Go,Go,cD.of (W1.O.get 5 Go),bv (j:=0) Go,_,_,Go,Go, .mk Go W1 (by lia) λH2 W2=>fj Y (cr (bA 1 (i.fld W2.O.same T.Qx T.QS Go #[x,_,_,W2,e3,g])) Go) W2]]
  .unfold mt3 at QC
   rw[FF e0] at QC;cases QC;refine dh Y W #[_,dD (aL fS (pv 3) ak (aG _)) (cO bC (pv 2) (dH cE ak) [002]) ak,_,_,Go,Go,_,Go,cq (λe1=>?_) λe1=>?_]
   .rcases Ub as with z|⟨qs,zz,z⟩
    .rw[z] at la;have la:0=acc.length:=la;lia
    rw[Uc] at z;subst z;have hp2:H' u.p=FB (.lst ((p0::q0::qs).map V.int++[V.int zz])):=by rw[WQ];simp
    rw[show(qs++[zz]).getLast?.getD 0=zz by simp] at g;exact#[_,Go,u.p,_,_,V.int zz,Go,Go,cD.of hp2,eG _ _,_,_,_,_,_,_,_,Go,W,g]
   .have:as=[]:=Rf (by lia)
    subst this;exact#[_,_,_,_,_,_,_,Go,W,g]
 .obtain⟨qs,xx,z,rfl⟩:=uw acc (by lia)
  rw[vg] at hm;have WQ:H u.p=FB (.lst ((p0::q0::(qs++[xx])).map V.int++[V.int z])):=by rw[hp];simp
  have sub: ∀w∈p0::q0::(qs++[xx]),dE w:=λw hw=>psB w (by
   simp only[FU,Gr,HZ,or_false] at hw ⊢;rcases hw with h|h|h|h
   .exact .inl h
   .exact .inr (.inl h)
   .exact .inr (.inr (.inl h))
   .exact .inr (.inr (.inr (.inl h))))
  have g1:=G.part (H':=aI H u.p (.lst ((p0::q0::(qs++[xx])).map V.int))) (ps:=p0::q0::(qs++[xx])) ae nG (by rw[ep];simp) sub
  have WO:aI H u.p (.lst ((p0::q0::(qs++[xx])).map V.int)) u.p=FB (.lst ((p0::q0::qs).map V.int++[V.int xx])):=by rw[ae];simp
  refine aO 4 Y.nd (AC (pv 2) [05] WQ (iH (pv 2) [05] WO (bN (aP (A9 dW (lA (bA 2 #[_,dH cE ak,_,Go,u.p,_,_,V.int xx,Go,Go,cD.of WO,eG _ _,bA 4 #[_,_,Go,Go,cH #[xx+z,Go,λhb=>?_,λhb=>?_]]]) [002]))) (aio T XC) [06] T.d_x.c aA)))
  .rw[show checked (xx+z) 0= .ok (xx+z,0) by unfold checked;exact FI hb] at hm
   refine#[_,WO,by rw[Gb,FT,IE];simp only[FW,Gb,KP] at gl ⊢; lia,cg #[qs++[xx,xx+z],FB (.int z),Go,by simp,?_,by rw[show(qs++[xx,z]).length=qs.length+2 by simp];exact hm]];refine G.part (by rw[ae];simp) (λb o e nb=>by rw[ac nb,ac nb];exact e) (by rw[ep];simp) λw hw=>?_;have hw:w∈p0::q0::(qs++[xx])\/w=xx+z:=by
    simp only[FU,Gr,HZ,or_false] at hw ⊢;rcases hw with h|h|h|h|h
    .exact .inl (.inl h)
    .exact .inl (.inr (.inl h))
    .exact .inl (.inr (.inr (.inl h)))
    .exact .inl (.inr (.inr (.inr h)))
    .exact .inr h
   rcases hw with hw|hw
   .exact sub w hw
   .rw[hw];exact hb
  .rw[show checked (xx+z) 0= .error (-12) by unfold checked;exact FF hb] at hm
   cases hm;exact g _ g1.W.O.same _ (.tail _ (.head _))
 .rw[<-ep];exact G
def aix (T:aV K mg a) (XC:XW K a):pD P w K mg base a 7 a.ad6 a.Yt "summed" λ_ e _=> ∃y lo hi x,e= .sum y lo hi x:=by
 refine re T XC [01] T.afQ.F ahg λHn A outer s H B c S F0 r b ff ds u us e ts sc n m Q E hr ho G hm g=>?_;intro X D Y;obtain⟨y,lo,hi,x,rfl⟩:=ho;have W:=G.W;have ev:=G.ev;unfold ax at ev;obtain⟨u1,u2,u3,i,e1,e2,_⟩:=ev;have hp:=G.hp;have hm0:=hm;refine cw (jz (dL Y hp (cP #[_,_,Go,Go,?_])));rw[FT];generalize Xe:u.ps=ps at hm hp
 match ps,hm with
 |[],hm=>cases hm;exact b8 (fj Y (cr (bA 1 (i.fld W.O.same T.Qx T.PX Go #[lo,_,_,W,e1,by rw[Xe];exact g])) Go) W)
 |[t],hm=>cases hm;exact bG (cw (jz (dL Y hp (cP #[_,_,Go,Go,b8 (fj Y (cr (bA 1 (i.fld W.O.same T.Qx T.QR Go #[hi,_,_,W,e2,by rw[Xe];exact g])) Go) W)]))))
 |p0::q0::acc,hm=>
  refine cq (λe0=>F6 e0 (by rw[FW,FW];lia)) λ_=>cw (jz (dL Y hp (cP #[_,_,Go,Go,?_])));rw[FT];exact cq (λe0=>F6 e0 (by rw[FW,FW];lia)) λ_=>fm (bN (aP (bA 0 (aP (bA 1 (aP (bA 2 (cH (.mk Go #[y,lo,hi,x,p0,q0,acc,Go,Xe] G hm0 g)))))))) (aiw T XC) hr T.afR.c aA) Go
end
theorem nN: ∀(m acc:Fx (be×V)),(m.map λq:be×V=>q.1).Nodup->bQ (fQ acc m) k=(match bQ m k with
  |some v=>FB v
  |none=>bQ acc k)
 |[],acc,_=>rfl
 |p::m,acc,nd=>by
  obtain⟨n1,n2⟩:=GJ.mp nd;show bQ (fQ (dB acc p.1 p.2) m) k=_;rw[nN m _ n2,gX];by_cases e:p.1=k
  .have:bQ m k=FM:=by
    unfold bQ;rw[Qg.mpr λx hx z=>n1 (by show p.1∈_;rw[e,<-Gj z];exact Lj (f:=λq:be×V=>q.1) hx)]
    rfl
   rw[this,ci e,FI e.symm]
  .rw[b7 e,FF (λz=>e z.symm)]
abbrev aD (ps:Fx Fy) (l:Fx Int):Fx (be×V):=(ps.zip l).map λq=>(nk q.1, .int q.2)
theorem B6: ∀ {ps:Fx Fy}{l:Fx Int},ps.Nodup->((aD ps l).map λq:be×V=>q.1).Nodup
 |[],_,_=> .nil
 |_::_,[],_=> .nil
 |p::ps,x::l,nd=>by
  obtain⟨n1,n2⟩:=GJ.mp nd;refine GJ.mpr #[λhm=>?_,B6 n2];obtain⟨q,hq,e⟩:=LY.mp hm;obtain⟨y,hy,rfl⟩:=LY.mp hq;exact n1 ((show y.1=p from eD (J1 e))▸(LF hy).1)
def abN {ps:Fx Fy}{l:Fx Int}(nd:ps.Nodup) (h6:ps.length<=6) {b:FX}(hb:6<=b) (q:FG):abL b (q,fQ [] (aD ps l)) (u9 ps l):=by
 refine#[λu=>?_,?_]
 .show bQ (fQ [] (aD ps l)) (nk u)=_
  rw[nN _ _ (B6 nd)];have:bQ (aD ps l) (nk u)=(u9 ps l u).map V.int:=by
   unfold bQ u9 aD;rw[Fx.find?_map,WZ,WZ]
   congr 1
   congr 1
   funext x
   exact(decide_eq_decide.mpr #[λz=>eD (J1 z),λz=>by rw[z]]).trans (GP.beq_eq_decide_eq ..).symm
  rw[this];cases u9 ps l u<;>rfl
 .refine F7 (gB _ _) ?_
  simp [aD,Xi];lia
def amE (T:aV K mg a) (XC:XW K a):pD P w K mg base a 7 a.f_8 a.aeL "call" λ_ e _=> ∃f l,e= .call f l:=by
 refine re T XC [01] T.d_8.F alZ λHn A outer s H B c S F0 r b ff ds u us e ts sc n m Q E hr ho G hm g=>?_;intro X D Y;obtain⟨f,l,rfl⟩:=ho;have W:=G.W;have ev:=G.ev;unfold ax at ev;obtain⟨_,Px,i,⟨aq,rfl,_,h2⟩,h3⟩:=ev;have pr:=mO h3;have ha:=W.O.same _ _ h2;have hp:=G.hp;have nm: ∀ {H:Hp}{Q:VK},aU B.H H->Q (.str (sb f)) H->cQ K "name" Q u.v H:=λk q=>i.fld k T.Ra T.PU Go q
 have ar: ∀ {Q:VK},Q (.ref aq) H->cQ K "arguments" Q u.v H:=λq=>i.fld W.O.same T.Ra T.Nj Go q
 have wf: ∀ {Q:VK},Q (.ref c.fa) H->cQ K "functions" Q (.ref c.wk) H:=λq=>W.fld T T.K6 Go q
 unfold eR at hm;dsimp only at hm;refine aO 3 Y.nd (iJ T.KW ha [010] (λ_ q=>ar q) (cw (cS io (dL Y hp (bA 3 #[_,_,Go,Go,_,Go,?_])))));rw[FT,aZ pr];refine cq (λz=>?_) λz=>?_
 .have lt:u.ps.length<(lc l).length:=by lia
  rw[HS lt] at hm;cases hm;obtain⟨v,hv,ew⟩:=jH pr (HS lt);exact fj Y (lA (cr (bA 1 (ar (dL Y hp #[aq,_,_,v,Go,Go,cD.of ha,by rw[FT];exact bv hv,_,_,_,W,ew,g]))) Go) [002]) W
 .rw[Js (by lia)] at hm
  have f2:=W.fn.2 f;obtain⟨V0,G0,ws,sb0⟩:=G.ws;unfold WS at ws;obtain⟨⟨k,hk,hk2⟩,_⟩:=ws
  have FO:=G.FO.all f k (sb0 f k hk);refine cw #[_,fD (ja (dv hr) [010] [09]),nm W.O.same (wf #[c.fa,_,Go,gD.k (k:=nk f) (W.O.get 3 Go),_,Go,?_])];cases hf:S.funs.find? λg=>g.1 == f with
  |none=>
   rw[hf] at f2 hm FO;dsimp only at f2 hm;rw[f2];refine b8 ?_;split at hm
   .rename_i hl
    cases hm;rcases FO with⟨g',hg,_⟩|⟨_,hb⟩
    .cases hg
    .exact dh Y W (bN (aP (cr (bA 1 (nm W.O.same (aP (bA 2 (cH #[f,u.p,u.ps,k,Go,hp,hb,by rw[hl,hk2],_,_,_,_,_,_,_,Go,W,g]))))) Go)) (ain T) [06] T.Z7.c aR)
   .cases hm
  |some fu=>
   rw[hf] at f2 hm FO;dsimp only at f2 hm;obtain⟨v,f2,f3⟩:=f2;rw[f2];refine bG (cw (jz (dL Y hp (bA 3 #[_,_,Go,Go,?_]))));rw[FT];refine cq (λz=>?_) λz=>?_
   .have hl:u.ps.length=(lc l).length:=by lia
    rw[FI hl] at hm;cases hm;rcases FO with⟨g',hg,gl,gf⟩|⟨hg,_⟩
    .cases hg
     obtain⟨q,w,i2,⟨pq,rfl,_,h4⟩,h5⟩:=f3;have g1:=gD.k (k:=nk f) (W.O.get 3 Go);have g1:gD H c.fa (kV (nk f)) (FB v):=by rw[<-f2];exact g1
     have le:fu.2.1.length=u.ps.length:=by rw[gl,hl,hk2]
     have e1:(aD fu.2.1 u.ps).map (λq=>kV q.1)=gI fu.2.1:=by
      unfold gI aD;rw[J9,show((λq:be×V=>kV q.1) ∘ λq:Fy×Int=>(nk q.1,V.int q.2))=(λp=>V.str (sb p)) ∘ Prod.fst from Go,<-J9,Fx.map_fst_zip (KH le)]
     have e2:(aD fu.2.1 u.ps).map (λq:be×V=>q.2)=u.ps.map V.int:=by
      unfold aD;rw[J9,show((λq:be×V=>q.2) ∘ λq:Fy×Int=>(nk q.1,V.int q.2))=V.int ∘ Prod.snd from Go,<-J9,Fx.map_snd_zip (KH le.symm)]
     refine aO 4 Y.nd #[_,kX (dv hr) [09] [010] [002],wf (nm W.O.same #[c.fa,v,Go,g1,?_])];refine iH [09] (λ_ q=>W.fld T T.Kh Go q) (W.O.get 2 Go) #[_,ve Go (by rfl) T.afX (by rfl) T.WH (aa (ai (pv 4) Go) (aa (pv 2) ag)) Go Go,i2.fld W.O.same T.Rp T.Nm Go #[pq,u.p,aD fu.2.1 u.ps,Go,by rw[e1];exact cD.of (W.O.same _ _ h4),by rw[e2];exact cD.of hp,λd hd=>#[_,bH hd _ _ (W.O.get 2 Go),?_,?_]]]
     .rw[Hc,FT,aZ W.sq,IE]
      have:=W.bn.sl;lia
     .have W1:=W.pushS hd (bH hd) ae (abN (l:=u.ps) gf.nd gf.le W.bn.b6 d) (by have:=G.gd.2.2;lia)
      exact fj Y (cr (bA 4 (i2.fld W1.O.same T.Rp T.Rq Go #[fu.2.2,_,_,W1,h5,g])) Go) W1
    .cases hg
   .rw[FF (by lia)] at hm
    have sq:=W.sq;cases sq with
    |nil=>cases hm
    | @cons d s0 ds sc h0 sq=>
    obtain⟨x,hx,rfl⟩:=GH.mp hm;have W1:=W.amy;refine bB (AC [09] (λ_ q=>W.fld T T.Kh Go q) W.sl1 (dh Y W1 (lA (bA 2 (bA 3 #[u.p,_,_,V.int x,Go,Go,cD.of (W1.O.get 5 Go),bv (by rw[GR,hx];rfl),_,_,_,_,_,_,_,Go,W1,g])) [002])))
inductive Nd1 (a:bi) (M:FG->Prop) (H:Hp) (i:FX) (v:V):Prop
 |mk {C:FG}{fs:Fx (Gf×V)}(_:bF M H C fs v) (_:(yM a)[i]?=FB C):Nd1 a M H i v
def cidx:FN->FX
 | .num _=>0
 | .name _=>1
 | .call _ _=>2
 | .neg _=>3
 | .not _=>3
 | .pick _ _ _=>5
 | .sum _ _ _ _=>6
 |_=>4
def wQ {a:bi}{M:FG->Prop}{H:Hp}{e:FN}{v:V}(h:ax a M H e v):Nd1 a M H (cidx e) v:=by
 cases e<;>unfold ax at h
 .exact#[h,Go]
 .exact#[h,Go]
 .obtain⟨_,_,h,_⟩:=h;exact#[h,Go]
 .obtain⟨_,h,_⟩:=h;exact#[h,Go]
 .obtain⟨_,h,_⟩:=h;exact#[h,Go]
 .obtain⟨_,_,_,_,_,h,_⟩:=h;exact#[h,Go]
 .obtain⟨_,_,_,_,_,h,_⟩:=h;exact#[h,Go]
 .obtain⟨_,_,_,_,h,_⟩:=h;exact#[h,Go]
 .obtain⟨_,_,_,_,h,_⟩:=h;exact#[h,Go]
 .obtain⟨_,_,_,_,h,_⟩:=h;exact#[h,Go]
 .obtain⟨_,_,_,h,_⟩:=h;exact#[h,Go]
 .obtain⟨_,_,_,h,_⟩:=h;exact#[h,Go]
section
variable {M:FG->Prop}{B H:Hp}{te:TE}{R:GP->Hp->Prop}
def uU (N:mJ X.K a) (n:X.mg "isinstance"=FM) (h:Nd1 a M B i v) (sm:aU B H) (hj:(yM a)[j]?=FB C) (hm:X.mg c=FB (.ref C)) (he:PE X e te) (hv: ∀Q:VK,Q v H->te σ H Q) (q:R (decide (i=j)) H) (hg:Gl X "isinstance":=by rfl) (hc:Gl X c:=by rfl) (hx:(c == [003])=Gc:=by decide) (KN:F9 [e, .Name c p2] X.env=[001]::F9 [.Name c p2] X.env:=by rfl):
  Pt X (.Call (.Name "isinstance" p1) [e, .Name c p2] [] p3) σ H R:=by
 obtain @⟨C',fs,⟨p,dx,rfl,_,z⟩,hC⟩:=h;have i7:i<15:=(GG.mp hC).1;have j7:j<15:=(GG.mp hj).1;have k:=GO (λl:Fx (Fx (FP GP))=>(l[i]?.bind λr=>r[j]?)) N.kit
 have k:HM X.K (.ref C') (.ref C)=FB (decide (i=j)):=by simpa [hC,hj,MS i7,MS j7] using k
 exact du #[_,br li hg n S9 (aa he (aa (ip hc hm hx) ag) KN) [01] [01] KN Go,hv _ #[_,C,_,_,Go,(N.ty _ (G8 hC)).of (sm _ _ z),k,_,Go,q]]
end
def amF (T:aV K mg a) (XC:XW K a) (KX:mJ K a):pD P w K mg base a 8 a.f_7 a.aeK "exp" λ_ _ _=>True:=by
 refine re T XC [01] T.d_7.F alY λHn A outer s H B c S F0 r b ff ds u us e ts sc n m Q E hr _ G hm g=>?_;intro X D Y;have W:=G.W;have ev:=G.ev;have nd:=wQ ev;have is: ∀ {cl:Gf}{C:FG}{A UD:Fx Stmt}{p1 p2 p3 p4 p5:Pos}(j:FX),mg cl=FB (.ref C)->(yM a)[j]?=FB C->Gl X cl->(cl == [003])=Gc->(cidx e=j->Bd X A D [FB (.ref c.wk),FB u.v,FB (.ref u.p)] H)->(cidx e≠j->Bd X UD D [FB (.ref c.wk),FB u.v,FB (.ref u.p)] H)->Bd X [.If (.Call (.Name "isinstance" p1) [.Name "exp" p2, .Name cl p3] [] p4) A UD p5] D [FB (.ref c.wk),FB u.v,FB (.ref u.p)] H:=λj hm hj hg hx yes no=>cw (uU KX T.LP nd W.O.same hj hm (pv 1) [05] (cq yes no) (by rfl) hg hx)
 have go: ∀ {sp:Sp}{x y:Gf}{k:FX}{f:FG}{fd:GQ}{p1 p2 p3 p4 p5 p6:Pos},bW P w K mg base (gb P w) k f fd ["worker",y,"parts"] sp->k<=7->CD K mg x f fd ["worker",y,"parts"]->Gl X x->(x == [003])=Gc->sp [.ref c.wk,u.v, .ref u.p] H (λ_ H'=>Q .Jm H') E->Bd X [.Expr (.Call (.Name x p1) [.Name "worker" p2, .Name "exp" p3, .Name "parts" p4] [] p5) p6] D [FB (.ref c.wk),FB u.v,FB (.ref u.p)] H:=λG hk d hg hx q=>fm (bN (aP (bA 0 (aP (bA 1 (aP (bA 2 (cH q))))))) G (hr.mono hk) d aA hg hx) Go
 refine is 0 T.R8 Go Go [01] (λz=>?_) λz0=>?_
 .obtain⟨x,rfl⟩: ∃x,e= .num x:=by cases e<;>first|exact#[_,Go]|cases z
  unfold ax at ev;cases hm;exact dh Y W (cr (bA 1 (ev.fld W.O.same T.Qv T.Og Go #[_,_,_,_,_,_,_,Go,W,g])) Go)
 refine is 1 T.UY Go Go [01] (λz=>?_) λz1=>?_
 .obtain⟨x,rfl⟩: ∃x,e= .name x:=by cases e<;>first|exact#[_,Go]|cases z
  unfold ax at ev;obtain⟨y,hy,rfl⟩:=GH.mp (show(look sc x).map (eS ts sc n)=FB m from hm);exact dh Y W #[_,cB (pv 0) T.II T.aab.c (uj T) [06] aR (aa [010] ag),c.wk,c.dw,_,Go,W.ins,Go,ev.fld W.O.same T.Sr T.PR Go (.mk Go W hy #[_,_,_,_,_,_,_,Go,W,g])]
 refine is 2 T.UZ Go Go [01] (λz=>go (amE T XC) [01] T.d_8.c Go [01] (.mk Go ?_ G hm g)) λz2=>?_
 .cases e<;>first|exact#[_,_,Go]|cases z
 refine is 3 T.Tf Go Go [01] (λz=>go (amD T XC) [01] T.d_9.c Go [01] (.mk Go ?_ G hm g)) λz3=>?_
 .cases e<;>first|exact#[_, .inl Go]|exact#[_, .inr Go]|cases z
 refine is 4 T.Tg Go Go [01] (λz=>go (aiv T XC) [01] T.afM.c Go [01] (.mk Go ?_ G hm g)) λz4=>?_
 .cases e<;>first|exact#[_,Go]|cases z
 refine is 5 T.R9 Go Go [01] (λz=>go (ais T XC) [01] T.afP.c Go [01] (.mk Go ?_ G hm g)) λz5=>?_
 .cases e<;>first|exact#[_,_,_,Go]|cases z
 refine go (aix T XC) [01] T.afQ.c Go [01] (.mk Go ?_ G hm g);cases e<;>first|exact F6 Go z0|exact F6 Go z1|exact F6 Go z2|exact F6 Go z3|exact F6 Go z4|exact F6 Go z5|exact#[_,_,_,_,Go]
end OS
namespace OS
open Vbemac
def aiy (S:Scope) (V:Fx GK) (v:Env) (r:Res Int) (n:FX):Mc->Prop
 | .err c=>r= .error c
 | .go _ _ _=>False
 | .done x sc m=>r= .ok (x,m)/\m<n/\ ∃h,sc=[h]/\Ag S V v [h]
def Ee {h:fo}(FO:gF S F0) (A:Ag S V v [h]) (w:WS V G e) (sb:Sub G F0) (hk:3*n+1<=k):HE S.funs (aiy S V v (ev k S v e n) n) (kD e [] [h] n):=by
 refine abI FO k V v G e [] h [] n A w sb hk ?_;unfold abH;cases ev k S v e n with
 |error c=>exact Go
 |ok x=>exact λ_ hm h A=>#[0, .here #[Go,hm,h,Go,A]]
end OS
namespace OS
open PySem PySem.Spec L2
open PyProof.Rows hiding St
variable {P:Gy}{w:Hf}{K:FC}{mg:Gf->FP FE}{base:Ho}{a:bi}
inductive Au (a:bi) (vs:Fx V) (H:Hp) (Q:VK) (E:XK):Prop
 |mk {B:uz}{c:pJ}{S:IC}{F0 G:Fx (Fy×FX)}{r:V}{b:FX}{s:fo}{n k:FX}{e:FN}{v:V}{U:Fx Fy}{en:HJ}(_:vs=[.ref c.wk,v]) (_:gF S F0) (_:WS U G e) (_:Sub G F0) (_:Ag S U en [s]) (_:zh [s]) (_:Wk a B H c S.funs r b [] [s] n) (_:ax a B.M B.H e v) (_:3*n+1<=k)
  (_: ∀x,Mf k S en e n= .error x-> ∀H',aU B.H H'->pw a E H' x) (_: ∀x m,Mf k S en e n= .ok (x,m)->m<n->dE x-> ∀H' b s,Ag S U en [s]->zh [s]->Wk a B H' c S.funs (.int x) b [] [s] m->Q (.int x) H'):Au a vs H Q E
def Far (a:bi) (B:uz) (c:pJ) (S:IC) (F0:Fx (Fy×FX)) (f:Mc->Prop) (i:FX) (H:Hp):Prop:= ∃m,me S.funs f m i/\Gd F0 m/\(match m with
 | .err _=>False
 | .go ts sc n=>ts≠[]/\ ∃r b,Wk a B H c S.funs r b ts sc n
 | .done x sc n=> ∃b,Wk a B H c S.funs (.int x) b [] sc n)
def qF {f:Mc->Prop}(h:me F f (.go ts sc n) j) (ng: ∀ts sc n,¬f (.go ts sc n)): ∃m i,eR F (.go ts sc n)=FB m/\me F f m i/\j=i+1:=by
 cases h with
 |here h=>exact F6 h (ng ts sc n)
 |step h1 h2=>exact#[_,_,h1,h2,Go]
def sV {a:bi}{f:Mc->Prop}{E:XK}{N:Hp->Prop}(ng: ∀ts sc n,¬f (.go ts sc n)) (he: ∀x,f (.err x)-> ∀H',aU B.H H'->pw a E H' x) (hi:me S.funs f m i) (gd:Gd F0 m) (q: ∀H,Far a B c S F0 f i H->N H):mQ a B c S.funs N E m:=by
 cases m with
 |err k=>
  cases hi with
  |here h=>exact he k h
  |step h _=>cases h
 |go ts sc n=>
  refine λH' r b W=>q H' #[_,hi,gd,λz=>?_,r,b,W];obtain⟨m,_,hm,_⟩:=qF hi ng;rw[z] at hm;cases hm
 |done x sc n=>exact λH' b W=>q H' #[_,hi,gd,b,W]
def sF (T:aV K mg a) (XC:XW K a) (KX:mJ K a):T.aad.O P w mg base 9 (Au a):=by
 refine fW T.aad.F aha [03] [02];obtain @⟨B,c,S,F0,G,r,b,s,n,k,e,v,U,en,rfl,FO,ws,sb,Ag0,gs,⟨W⟩,ev0,hk,qe,qo⟩:=h;obtain⟨j,hj⟩:=Ee FO Ag0 ws sb hk;generalize hf:aiy S U en (Mf k S en e n) n=f at hj;have ng: ∀ts sc n,¬f (.go ts sc n):=λts sc n z=>by rw[<-hf] at z;exact z
 have he: ∀x,f (.err x)-> ∀H',aU B.H H'->pw a E H' x:=λx z=>by rw[<-hf] at z;exact qe x z
 have gd0:Gd F0 (kD e [] [s] n):=fC (λt ht=>nomatch ht) gs #[U,G,ws,sb] (by have:=W.bn.VZ;show 1+n<=10002;lia)
 refine aT (bf (cB (pv 0) T.II T.Xs.c (su T XC) [06] aA (aa (pv 1) ag))) #[c.wk,c.dw,_,Go,W.ins,Go, .mk Go W ev0 (sV ng he hj gd0 λH1 h1=>?_)];refine fZ Jz (λi σ H=>σ=[FB (.ref c.wk),FB v]/\Far a B c S F0 f i H) j #[Go,h1] ?_;rintro i σ H2 ⟨rfl,m',QC,gd,hW⟩;cases m' with
 |err k=>exact hW.elim
 |done x sc2 n2=>
  obtain⟨b2,⟨W2⟩⟩:=hW;have tk:=W2.tk;cases tk;refine cS fS (iJ T.KW W2.tl [09] (λ_ q=>W2.fld T T.Jn Go q) (cP #[_,_,Go,Go,_,Go,bG ?_]));cases QC with
  |step h _=>cases h
  |here h=>
   rw[<-hf] at h;obtain⟨h1,h2,s',rfl,A'⟩:=h;exact aN (cr (bA 0 (W2.fld T T.Ma Go (qo x n2 h1 h2 gd.1 H2 b2 s' A' gd.2.1 #[W2]))) Go)
 |go ts sc2 n2=>
  obtain⟨ne,r2,b2,⟨W2⟩⟩:=hW;obtain⟨m3,i3,s3,h3,rfl⟩:=qF QC ng;have tk:=W2.tk;cases tk with
  |nil=>exact F6 Go ne
  | @cons u t us ts ht tk=>
  obtain⟨e2,ps⟩:=t;obtain rfl:u.ps=ps:=ht.2;have tsk: ∀ {Q:VK},Q (.ref u.t) H2->cQ K "tasks" (λx H1=>tUn (rU λi=> .int (-i)) (tC (.int 1)) [FB (.ref c.wk),FB v] H1 λy H2=>Bq K x y H2 Q) (.ref c.wk) H2:=λq=>W2.fld T T.Jn Go #[_,Go,c.tl,_,_,V.ref u.t,Go,Go,cD.of W2.tl1,eG _ _,q]
  have h4:=W2.O.get 4 Go;refine cS fS (iJ T.KW W2.tl [09] (λ_ q=>W2.fld T T.Jn Go q) (cP #[_,_,Go,Go,_,Go,?_]))
  rw[Hc,FT,FW];refine cq (λ_=>?_) λz=>F6 z (by lia);refine fm #[_,aF (amF T XC KX) hr (by rfl) T.d_7.c aA (aa (pv 0) (aa (ai (cO bC [09] (dH cE ak) [002]) Go) (aa (ai (cO bC [09] (dH cE ak) [002]) Go) ag))),tsk #[u.t,_,u.d,_,u.v,Go,h4,T.P4,T.QW,Go,tsk #[u.t,_,u.d,_,V.ref u.p,Go,h4,T.P4,T.NC,Go, .mk Go HD #[FO,gd,W2] s3 (sV ng he h3 (E7 FO gd s3) λH3 h=>#[i3,Ib _,Go,h])]]] Go
end OS
namespace OS
open Vbemac
def Ft (t:Nf):Prop:= ∀x∈t,∀n,x.1= .num n->n<1000000000000000000
theorem Ft.drop (h:Ft t) (k:FX):Ft (t.drop k):=λx hx=>h x (UO hx)
def Po {α:Type}(p:P α) (Q:α->Prop):Prop:= ∀t a r,Ft t->p t= .ok (a,r)->Q a/\Ft r
section
variable {α β:Type}{p:P α}{Q:α->Prop}{R:β->Prop}
def Po.bind {f:α->P β}(h:Po p Q) (g: ∀a,Q a->Po (f a) R):Po (p>>=f) R:=by
 intro t b r nb e;have e':(match p t with
  | .error z=> .error z
  | .ok (a,s)=>f a s)=Except.ok (b,r):=by
  rw[<-e];show _=(p t>>=λx=>f x.1 x.2)
  cases p t<;>rfl
 cases z:p t with
 |error c=>rw[z] at e';cases e'
 |ok x=>
  rw[z] at e';obtain⟨q,n⟩:=h t x.1 x.2 nb z;exact g x.1 q x.2 b r n e'
theorem Po.pure {a:α}(h:Q a):Po (pure a:P α) Q:=by
 intro t b r nb e;cases e;exact#[h,nb]
def Po.mono {Q':α->Prop}(h:Po p Q) (g: ∀a,Q a->Q' a):Po p Q':=λt a r nb e=>#[g a (h t a r nb e).1,(h t a r nb e).2]
def Po.fail:Po (F8 n:P α) Q:=λt a r nb e=>by unfold F8 at e;cases e
def Po.ite {c:Nf->GP}{p q:P α}(h1:Po p Q) (h2:Po q Q):Po (λt=>if c t=FS then p t else q t) Q:=λt a r nb e=>by
 dsimp only at e;split at e
 .exact h1 t a r nb e
 .exact h2 t a r nb e
end
def dG:Po next λ_=>True:=λt a r nb e=>by unfold next at e;cases e;exact#[trivial,nb.drop 1]
def f9 (w:String):Po (key w) λ_=>True:=λt a r nb e=>by
 unfold key at e;split at e
 .cases e;exact#[trivial,nb.drop 1]
 .unfold F8 at e;cases e
def bK (w:String):Po (sign w) λ_=>True:=λt a r nb e=>by
 unfold sign at e;split at e
 .cases e;exact#[trivial,nb.drop 1]
 .unfold F8 at e;cases e
def jb (w:String):Po (ifSign w) λ_=>True:=λt a r nb e=>by
 unfold ifSign at e;split at e
 .cases e;exact#[trivial,nb.drop 1]
 .cases e;exact#[trivial,nb]
def zq (d:FX):Po (deeper d) λ_=>True:=λt a r nb e=>by
 unfold deeper at e;split at e
 .unfold F8 at e;cases e
 .cases e;exact#[trivial,nb]
def lD (l:Fx String):Po (L6 l) λo=> ∀s,o=FB s->s∈l.map text:=λt a r nb e=>by
 unfold L6 at e;split at e
 .split at e
  .rename_i h
   cases e;exact#[λs z=>by cases z;exact GN.mp h,nb.drop 1]
  .cases e;exact#[λs z=>(nomatch z),nb]
 .cases e;exact#[λs z=>(nomatch z),nb]
def jN:Po anyName λ_=>True:=λt a r nb e=>by
 unfold anyName at e;split at e
 .split at e
  .unfold F8 at e;cases e
  .cases e;exact#[trivial,nb.drop 1]
 .unfold F8 at e;cases e
def dX (K:Known):Po (newName K) λx=>x∉K.values/\(∀g∈K.funs,g.1≠x):=λt a r nb e=>by
 unfold newName at e;split at e
 .cases e
 .rename_i w s h
  split at e
  .unfold F8 at e;cases e
  .rename_i hk
   cases e;unfold Known.taken at hk;rw[MP,Wj] at hk;exact#[#[λz=>hk.1 (GN.mpr z),λg hg z=>hk.2 (Ms.mpr #[g,hg,by rw[z];exact Ht _])],(jN t _ _ nb h).2]
structure PoA (k:FX):Prop where
 expr: ∀d K,Po (expr k d K) (WS K.values K.funs)
 moreOr: ∀d K,Po (moreOr k d K) (oS K.values K.funs)
 ands: ∀d K,Po (ands k d K) (WS K.values K.funs)
 moreAnd: ∀d K,Po (moreAnd k d K) (oS K.values K.funs)
 compared: ∀d K,Po (compared k d K) (WS K.values K.funs)
 added: ∀d K,Po (added k d K) (WS K.values K.funs)
 moreAdded: ∀d K,Po (moreAdded k d K) (wm ["+","-"] K.values K.funs)
 times: ∀d K,Po (times k d K) (WS K.values K.funs)
 moreTimes: ∀d K,Po (moreTimes k d K) (wm ["*","/","%"] K.values K.funs)
 unary: ∀d K,Po (unary k d K) (WS K.values K.funs)
 primary: ∀d K,Po (primary k d K) (WS K.values K.funs)
 arguments: ∀d K n,1<=n->Po (arguments k d K n) λl=>oS K.values K.funs l/\(lc l).length=n
theorem wA: ∀k,PoA k
 |0=>by
  refine#[?_,?_,?_,?_,?_,?_,?_,?_,?_,?_,?_,?_]<;>intros<;>first|(unfold Gg;exact Po.fail)|(unfold Xn;exact Po.fail)|(unfold ZI;exact Po.fail)|(unfold W0;exact Po.fail)|(unfold Wf;exact Po.fail)|(unfold Yh;exact Po.fail)|(unfold VO;exact Po.fail)|(unfold Yi;exact Po.fail)|(unfold VP;exact Po.fail)|(unfold Hl;exact Po.fail)|(unfold He;exact Po.fail)|(unfold QI;exact Po.fail)
 |k+1=>by
  have I:=wA k;refine#[λd K=>?_,λd K=>?_,λd K=>?_,λd K=>?_,λd K=>?_,λd K=>?_,λd K=>?_,λd K=>?_,λd K=>?_,λd K=>?_,λd K=>?_,λd K n hn=>?_]
  .unfold Gg
   refine Po.ite ?_ ?_
   .refine(zq d).bind λe _=>dG.bind λ_ _=>(I.expr e K).bind λc wc=>(f9 _).bind λ_ _=>(I.expr e K).bind λx wx=>(f9 _).bind λ_ _=>(I.expr e K).bind λy wy=>Po.pure ?_
    unfold WS;exact#[wc,wx,wy]
   .refine(I.ands d K).bind λx wx=>(I.moreOr d K).bind λl wl=>Po.pure ?_
    cases l with
    |nil=>exact wx
    |cons y s=>dsimp only;unfold WS;exact#[wx,#[y,s,Go],wl]
  .unfold Xn
   refine(jb _).bind λm _=>?_;split
   .refine(I.ands d K).bind λx wx=>(I.moreOr d K).bind λl wl=>Po.pure ?_
    unfold oS;exact#[wx,wl]
   .refine Po.pure ?_
    unfold oS;trivial
  .unfold ZI
   refine(I.compared d K).bind λx wx=>(I.moreAnd d K).bind λl wl=>Po.pure ?_;cases l with
   |nil=>exact wx
   |cons y s=>dsimp only;unfold WS;exact#[wx,#[y,s,Go],wl]
  .unfold W0
   refine(jb _).bind λm _=>?_;split
   .refine(I.compared d K).bind λx wx=>(I.moreAnd d K).bind λl wl=>Po.pure ?_
    unfold oS;exact#[wx,wl]
   .refine Po.pure ?_
    unfold oS;trivial
  .unfold Wf
   refine(I.added d K).bind λx wx=>(lD _).bind λs hs=>?_;cases s with
   |none=>exact Po.pure wx
   |some op=>
    refine(I.added d K).bind λy wy=>Po.pure ?_;unfold WS;exact#[hs op Go,wx,wy]
  .unfold Yh
   refine(I.times d K).bind λx wx=>(I.moreAdded d K).bind λl wl=>Po.pure ?_;cases l with
   |nil=>exact wx
   |cons op y s=>dsimp only;unfold WS;exact#[wx,#[op,y,s,Go],wl]
  .unfold VO
   refine(lD _).bind λs hs=>?_;cases s with
   |none=>refine Po.pure ?_;unfold wm;trivial
   |some op=>
    refine(I.times d K).bind λy wy=>(I.moreAdded d K).bind λr wr=>Po.pure ?_;unfold wm;exact#[hs op Go,wy,wr]
  .unfold Yi
   refine(I.unary d K).bind λx wx=>(I.moreTimes d K).bind λl wl=>Po.pure ?_;cases l with
   |nil=>exact wx
   |cons op y s=>dsimp only;unfold WS;exact#[wx,#[op,y,s,Go],wl]
  .unfold VP
   refine(lD _).bind λs hs=>?_;cases s with
   |none=>refine Po.pure ?_;unfold wm;trivial
   |some op=>
    refine(I.unary d K).bind λy wy=>(I.moreTimes d K).bind λr wr=>Po.pure ?_;unfold wm;exact#[hs op Go,wy,wr]
  .unfold Hl
   refine Po.ite ?_ (Po.ite ?_ (I.primary d K))
   .intro t a r nb e
    dsimp only at e;split at e
    .rename_i n hn
     cases e;have nn:n<1000000000000000000:=by
      unfold peek at hn;cases z:(t.drop 1).head? with
      |none=>rw[z] at hn;cases hn
      |some y=>rw[z] at hn;exact nb y (UO (Wa z)) n hn
     exact#[by unfold WS;unfold WS;exact nn,nb.drop 2]
    .refine(show Po (deeper d>>=λe=>next>>=λ_=>Hl k e K>>=λa=>pure (.neg a):P Exp) (WS K.values K.funs) from ?_) t a r nb e
     exact(zq d).bind λe _=>dG.bind λ_ _=>(I.unary e K).bind λx wx=>Po.pure (by unfold WS;exact wx)
   .exact(zq d).bind λe _=>dG.bind λ_ _=>(I.unary e K).bind λx wx=>Po.pure (by unfold WS;exact wx)
  .unfold He
   intro t a r nb e;dsimp only at e;split at e
   .rename_i n hn
    cases e;have nn:n<1000000000000000000:=by
     unfold peek at hn;cases z:t.head? with
     |none=>rw[z] at hn;cases hn
     |some y=>rw[z] at hn;exact nb y (Wa z) n hn
    exact#[by unfold WS;exact nn,nb.drop 1]
   .split at e
    .refine(show Po (deeper d>>=λe=>next>>=λ_=>Gg k e K>>=λa=>sign ")">>=λ_=>pure a:P Exp) (WS K.values K.funs) from ?_) t a r nb e
     exact(zq d).bind λe _=>dG.bind λ_ _=>(I.expr e K).bind λx wx=>(bK _).bind λ_ _=>Po.pure wx
    .unfold F8 at e;cases e
   .rename_i w hw
    split at e
    .refine(show Po (deeper d>>=λe=>next>>=λ_=>sign "(">>=λ_=>newName K>>=λx=>key "in">>=λ_=>Gg k e K>>=λlo=>sign "..">>=λ_=>Gg k e K>>=λhi=>sign ":">>=λ_=>Gg k e (K.with x)>>=λa=>sign ")">>=λ_=>pure (.sum x lo hi a):P Exp) (WS K.values K.funs) from ?_) t a r nb e
     refine(zq d).bind λe _=>dG.bind λ_ _=>(bK _).bind λ_ _=>(dX K).bind λx wx=>(f9 _).bind λ_ _=>(I.expr e K).bind λlo wlo=>(bK _).bind λ_ _=>(I.expr e K).bind λhi whi=>(bK _).bind λ_ _=>(I.expr e (K.with x)).bind λy wy=>(bK _).bind λ_ _=>Po.pure ?_;unfold WS;exact#[wx.1,wlo,whi,wy]
    split at e
    .unfold F8 at e;cases e
    split at e
    .rename_i f hf
     have fw:f.1=w:=by have:=RE hf;exact beq_iff_eq.mp this
     refine(show Po (deeper d>>=λe=>next>>=λ_=>sign "(">>=λ_=>(if f.2=0 then(sign ")">>=λ_=>pure (.call w .nil)) else(QI k e K f.2>>=λl=>pure (.call w l)):P Exp)) (WS K.values K.funs) from ?_) t a r nb e
     refine(zq d).bind λe _=>dG.bind λ_ _=>(bK _).bind λ_ _=>?_;split
     .rename_i h0
      refine(bK _).bind λ_ _=>Po.pure ?_;unfold WS;exact#[#[f,hf,h0.symm],by unfold oS;trivial]
     .rename_i h0
      refine(I.arguments e K f.2 (by lia)).bind λl wl=>Po.pure ?_;unfold WS;exact#[#[f,hf,wl.2],wl.1]
    .split at e
     .rename_i hv
      cases e;exact#[by unfold WS;exact GN.mp hv,nb.drop 1]
     .unfold F8 at e;cases e
   .unfold F8 at e;cases e
  .unfold QI
   refine Po.ite Po.fail ((I.expr d K).bind λx wx=>?_);split
   .rename_i h1
    refine Po.ite Po.fail ((bK _).bind λ_ _=>Po.pure ?_);refine#[by unfold oS;exact#[wx,by unfold oS;trivial],?_];show 1=n;lia
   .rename_i h1
    refine Po.ite Po.fail ((bK _).bind λ_ _=>(I.arguments d K (n-1) (by lia)).bind λl wl=>Po.pure ?_);refine#[by unfold oS;exact#[wx,wl.1],?_];show(lc l).length+1=n;rw[wl.2];lia
end OS
namespace OS
open Vbemac
theorem tF: ∀(w:GK) (n k:FX),(∀c∈w,digit c=FS)->n<10 ^ k->w.foldl (λn c=>10*n+(c.toNat-48)) n<10 ^ (k+w.length)
 |[],n,k,_,h=>h
 |c::w,n,k,hd,h=>by
  rw[Fx.foldl_cons];have hc:c.toNat<=57:=by
   have:=hd c (FL ..);unfold digit at this;rw[GI,GB,GB] at this;exact Jx.le_iff_toNat_le.mp this.2
  have z:=tF w (10*n+(c.toNat-48)) (k+1) (λx hx=>hd x (FK _ hx)) (by rw[FX.pow_succ];lia)
  rw[show k+(c::w).length=k+1+w.length by rw[FW];lia];exact z
theorem tI: ∀(l:GK),∀c∈l.takeWhile digit,digit c=FS
 |[],_,h=>nomatch h
 |x::l,c,h=>by
  rw[Kk] at h;split at h
  .rename_i hx
   rcases FU.mp h with z|z
   .rw[z];exact hx
   .exact tI l c z
  .cases h
theorem lO: ∀(k:FX) (p:Pos) (b:GK),Ft (lex k p b)
 |0,p,b=>by intro x hx n e;unfold lex at hx;rw[Ga.mp hx] at e;cases e
 |k+1,p,[]=>by intro x hx n e;unfold lex at hx;rw[Ga.mp hx] at e;cases e
 |k+1,p,c::r=>by
  have one: ∀ {y:Tok}{t:Nf},(∀n,y= .num n->n<1000000000000000000)->Ft t->Ft ((y,p)::t):=λh1 h2 x hx n e=>by
   rcases FU.mp hx with z|z
   .rw[z] at e;exact h1 n e
   .exact h2 x z n e
  have nil:Ft []:=λx hx=>nomatch hx
  unfold lex;split
  .exact lO k _ _
  split
  .exact lO k _ _
  split
  .dsimp only
   split
   .exact one (λn e=>nomatch e) nil
   .exact one (λn e=>nomatch e) (lO k _ _)
  split
  .dsimp only
   split
   .exact one (λn e=>nomatch e) nil
   .rename_i h
    refine one (λn e=>?_) (lO k _ _);cases e;have z:=tF ((c::r).takeWhile digit) 0 0 (tI _) [01];rw[Wj] at h;exact Gv z (FX.pow_le_pow_right [01] (show 0+((c::r).takeWhile digit).length<=18 by lia))
  .split
   .exact one (λn e=>nomatch e) (lO k _ _)
   .exact one (λn e=>nomatch e) nil
end OS
namespace OS
open Vbemac
def bnd (V:Fx GK):Stmt->Fx GK
 | .bind x _=>x::V
 |_=>V
mutual
def WT:FX->Fx GK->Fx (GK×FX)->Stmt->Prop
 |_,V,F, .bind x e=>x∉V/\WS V F e
 |d,V,F, .loop x lo hi l=>x∉V/\WS V F lo/\WS V F hi/\1<=d/\Aj (d-1) (x::V) F l
 |d,V,F, .cond c a b=>WS V F c/\1<=d/\Aj (d-1) V F a/\Aj (d-1) V F b
 |_,V,F, .step _ z q p top am=>WS V F z/\WS V F q/\WS V F p/\(∀e,top=FB e->WS V F e)/\WS V F am
 |_,V,F, .block _ _ z p x am _ g=>x∉V/\WS V F z/\WS V F p/\WS (x::V) F am/\ ∀e,g=FB e->WS V F e
def Aj:FX->Fx GK->Fx (GK×FX)->Stmts->Prop
 |_,_,_, .nil=>True
 |d,V,F, .cons s l=>WT d V F s/\Aj d (bnd V s) F l
end
def wN:Fx GK->Fx (GK×FX)->Sheet->Prop
 |_,_,[]=>True
 |V,F, .const x e::r=>x∉V/\WS V F e/\wN (x::V) F r
 |V,F, .func x ps e::r=>F.length<=8/\(∀g∈F,g.1≠x)/\ps.Nodup/\ps.length<=6/\WS (ps++V) F e/\wN V ((x,ps.length)::F) r
 |V,F, .desk _ l::r=>Aj 6 V F l/\wN V F r
def xw:Po side λ_=>True:=λt a r nb e=>by
 unfold side at e;split at e
 .cases e;exact#[trivial,nb.drop 1]
 split at e
 .cases e;exact#[trivial,nb.drop 1]
 .unfold F8 at e;cases e
def CC (w:String):Po (ifKey w) λ_=>True:=λt a r nb e=>by
 unfold ifKey at e;split at e
 .cases e;exact#[trivial,nb.drop 1]
 .cases e;exact#[trivial,nb]
def lC {α:Type}(w:String) {p:P α}{Q:α->Prop}(h:Po p Q):Po (behind w p) λo=> ∀a,o=FB a->Q a:=λt a r nb e=>by
 unfold behind at e;split at e
 .split at e
  .cases e
  .rename_i x s z
   cases e;have:=h _ _ _ (nb.drop 1) z;exact#[λa z=>by cases z;exact this.1,this.2]
 .cases e;exact#[nofun,nb]
def uC {f:GK->GP} :Po (λt=>match anyName t with
  | .error e=> .error e
  | .ok (w,r)=>if f w=b then fail n t else .ok (w,r):P GK) λ_=>True:=λt a r nb e=>by
 dsimp only at e;split at e
 .cases e
 .rename_i w s h
  split at e
  .unfold F8 at e;cases e
  .cases e;exact#[trivial,(jN t _ _ nb h).2]
def AT (B:Blocks):Po (knownBlock B) λ_=>True:=λt a r nb e=>by
 unfold knownBlock at e;split at e
 .cases e
 .rename_i w s h
  split at e
  .cases e;exact#[trivial,(jN t _ _ nb h).2]
  .unfold F8 at e;cases e
def AA (B:Blocks):Po (maybeName B) λ_=>True:=λt a r nb e=>by
 unfold maybeName at e;split at e
 .cases e;exact#[trivial,nb]
 .split at e
  .cases e
  .rename_i w s h
   cases e;exact#[trivial,(uC (f:=λw=>B.contains w) (n:=4) (b:=FS) t _ _ nb h).2]
def xj (d:FX):Po (deeper d) λe=>e=d-1/\1<=d:=λt a r nb e=>by
 unfold deeper at e;split at e
 .unfold F8 at e;cases e
 .cases e;exact#[#[Go,by lia],nb]
abbrev StQ (d:FX) (K:Known) (r:Stmt×Known×Blocks):Prop:=WT d K.values K.funs r.1/\r.2.1.values=bnd K.values r.1/\r.2.1.funs=K.funs
theorem gK: ∀k d K B,Po (stmts k d K B) (λr=>Aj d K.values K.funs r.1)/\Po (stmt k d K B) (StQ d K)
 |0,d,K,B=>#[by unfold stmts;exact Po.fail,by unfold stmt;exact Po.fail]
 |k+1,d,K,B=>by
  have E:=(wA k).expr;constructor
  .unfold stmts
   refine Po.ite (λt a r nb e=>by cases e;exact#[by unfold Aj;trivial,nb.drop 1]) ((gK k d K B).2.bind λs hs=>(gK k d s.2.1 s.2.2).1.bind λl hl=>Po.pure ?_)
   .unfold Aj
    rw[hs.2.1,hs.2.2] at hl;exact#[hs.1,hl]
  .unfold stmt
   refine Po.ite ?_ (Po.ite ?_ (Po.ite ?_ (Po.ite ?_ ?_)))
   .refine dG.bind λ_ _=>(dX K).bind λx hx=>(bK _).bind λ_ _=>(E DEEP K).bind λe he=>(bK _).bind λ_ _=>Po.pure #[?_,Go,Go]
    unfold WT;exact#[hx.1,he]
   .refine(xj d).bind λn hn=>dG.bind λ_ _=>(dX K).bind λx hx=>(f9 _).bind λ_ _=>(E DEEP K).bind λlo hlo=>(bK _).bind λ_ _=>(E DEEP K).bind λhi hhi=>(bK _).bind λ_ _=>(gK k n (K.with x) B).1.bind λl hl=>Po.pure #[?_,Go,Go]
    unfold WT;rw[hn.1] at hl;exact#[hx.1,hlo,hhi,hn.2,hl]
   .refine(xj d).bind λn hn=>dG.bind λ_ _=>(E DEEP K).bind λc hc=>(bK _).bind λ_ _=>(gK k n K B).1.bind λx hx=>(CC _).bind λm _=>?_
    rw[hn.1] at hx;split
    .refine(bK _).bind λ_ _=>(gK k n K x.2).1.bind λy hy=>Po.pure #[?_,Go,Go]
     unfold WT;rw[hn.1] at hy;exact#[hc,hn.2,hx,hy]
    .refine Po.pure #[?_,Go,Go]
     unfold WT;exact#[hc,hn.2,hx,by unfold Aj;trivial]
   .refine dG.bind λ_ _=>(AA B).bind λm _=>xw.bind λ_ _=>(f9 _).bind λ_ _=>(E DEEP K).bind λz hz=>(f9 _).bind λ_ _=>(E DEEP K).bind λp hp=>(f9 _).bind λ_ _=>(dX K).bind λx hx=>(bK _).bind λ_ _=>(E DEEP (K.with x)).bind λq hq=>(lC _ (AT B)).bind λ_ _=>(lC _ (E DEEP K)).bind λg hg=>(bK _).bind λ_ _=>Po.pure #[?_,Go,Go]
    unfold WT;exact#[hx.1,hz,hp,hq,hg]
   .refine xw.bind λ_ _=>(f9 _).bind λ_ _=>(E DEEP K).bind λz hz=>(f9 _).bind λ_ _=>(E DEEP K).bind λq hq=>(f9 _).bind λ_ _=>(E DEEP K).bind λp hp=>(lC _ (E DEEP K)).bind λtop ht=>(f9 _).bind λ_ _=>(E DEEP K).bind λam ha=>(bK _).bind λ_ _=>Po.pure #[?_,Go,Go]
    unfold WT;exact#[hz,hq,hp,ht,ha]
def Po.itp {α:Type}{Q:α->Prop}{c:Nf->Prop} [∀t,Decidable (c t)] {p q:P α}(h1:Po p Q) (h2:Po q Q):Po (λt=>if c t then p t else q t) Q:=λt a r nb e=>by
 dsimp only at e;split at e
 .exact h1 t a r nb e
 .exact h2 t a r nb e
def Po.itd {α:Type}{Q:α->Prop}{c:Prop} [Decidable c] {p q:P α}(h1:c->Po p Q) (h2: ¬c->Po q Q):Po (λt=>if c then p t else q t) Q:=λt a r nb e=>by
 dsimp only at e;split at e
 .rename_i h;exact h1 h t a r nb e
 .rename_i h;exact h2 h t a r nb e
theorem qv: ∀k n K,Po (params k n K) λps=>ps.Nodup/\ps.length<=n/\ ∀p∈ps,p∉K.values
 |0,n,K=>by unfold params;exact Po.fail
 |k+1,0,K=>by
  unfold params;intro t a r nb e;dsimp only at e;rw[FI Go] at e;unfold F8 at e;cases e
 |k+1,n+1,K=>by
  unfold params;refine Po.itp (c:=λ_=>n+1=0) Po.fail ((dX K).bind λx hx=>(jb _).bind λm _=>?_);split
  .refine(qv k n (K.with x)).bind λl hl=>Po.pure #[GJ.mpr #[λz=>hl.2.2 x z FL,hl.1],Ic hl.2.1,λp hp=>?_]
   rcases FU.mp hp with z|z
   .rw[z];exact hx.1
   .exact λy=>hl.2.2 p z (FK _ y)
  .refine(bK _).bind λ_ _=>Po.pure #[GJ.mpr #[nofun, .nil],Ic (Gn _),λp hp=>?_]
   rw[Ga.mp hp];exact hx.1
theorem mz: ∀k K n D,K.funs.length+n=9->Po (tops k K n D) (wN K.values K.funs)
 |0,K,n,D,_=>by unfold tops;exact Po.fail
 |k+1,K,n,D,hn=>by
  have E:=(wA k).expr;unfold tops;refine Po.itp (c:=λt=>peek t= .eof) (λt a r nb e=>by cases e;exact#[by unfold wN;trivial,nb]) (Po.ite ?_ (Po.ite (Po.itd (c:=n=0) (λ_=>Po.fail) λn0=>?_) (Po.ite ?_ Po.fail)))
  .refine dG.bind λ_ _=>(dX K).bind λx hx=>(bK _).bind λ_ _=>(E DEEP K).bind λe he=>(bK _).bind λ_ _=>(mz k (K.with x) n D hn).bind λl hl=>Po.pure ?_
   unfold wN;exact#[hx.1,he,hl]
  .refine dG.bind λ_ _=>(dX K).bind λx hx=>(bK _).bind λ_ _=>(jb _).bind λm _=>(show Po (if m=FS then give [] else params k PARAMS (K.with x)) (λps=>ps.Nodup/\ps.length<=6) by
     split
     .exact Po.pure #[.nil,Gn _]
     .exact(qv k PARAMS (K.with x)).mono λ_ z=>#[z.1,z.2.1]).bind λps hp=>(bK _).bind λ_ _=>(E DEEP { K with values:=ps++K.values }).bind λe he=>(bK _).bind λ_ _=>(mz k { K with funs:=(x,ps.length)::K.funs } (n-1) D (by show K.funs.length+1+(n-1)=9;lia)).bind λl hl=>Po.pure ?_
   unfold wN;exact#[by lia,hx.2,hp.1,hp.2,he,hl]
  .refine dG.bind λ_ _=>(uC (f:=λw=>D.contains w) (n:=4) (b:=FS)).bind λx _=>(bK _).bind λ_ _=>(gK k NEST K []).1.bind λl hl=>(mz k K n (x::D) hn).bind λr hr=>Po.pure ?_
   unfold wN;exact#[hl,hr]
end OS
namespace OS
open PySem PySem.Spec L2
open PyProof.Rows hiding St
variable {P:Gy}{w:Hf}{K:FC}{mg:Gf->FP FE}{base:Ho}{a:bi}
def Ow.bas {B H:Hp}{o:HO}(O:Ow B L H) (h:B p≠FM\/H p=FM):Ow (aI B p o) L (aI H p o):=by
 refine#[λb u e=>?_,λx hx=>?_,O.nd]
 .by_cases hb:b=p
  .rw[hb,ae] at e ⊢; exact e
  .rw[ac hb] at e ⊢; exact O.same b u e
 .have h1:=O.at_ x hx
  have ne:x.1≠p:=λz=>by
   rcases h with h|h
   .exact h (by rw[<-z];exact h1.2)
   .rw[<-z,h1.1] at h;cases h
  rw[ac ne,ac ne];exact h1
def fb.up {a:bi}{M:FG->Prop}{H:Hp}{o:HO}{x:HI}{v:V}(m:M p) (h:fb a M H x v):fb a M (aI H p o) x v:=fb.Iv (λb u e n=>#[n,by rw[ac λz=>n (by rw[z];exact m)];exact e]) x h
theorem E4.up {a:bi}{M:FG->Prop}{B:Hp}{o:HO}(m:M p) (h:E4 a #[M,B] F ff):E4 a #[M,aI B p o] F ff:=by
 refine#[h.1,λf=>?_];have:=h.2 f;split
 .rename_i g hg
  rw[hg] at this;obtain⟨v,h1,h2⟩:=this;exact#[v,h1,h2.up m]
 .rename_i hg
  rw[hg] at this;exact this
abbrev abO (b:GP):V:= .int (M7 b)
def aiz:FP FX->V
 |some k=> .int (k:FX)
 |none=> .int (-1)
abbrev Fv (H:Hp) (C:FG) (fs:Fx (Gf×V)) (v:V):Prop:=bF (λ_=>False) H C fs v
def fT (a:bi) (ol:FG) (H:Hp) (v:V):GC->Prop
 | .step d z t b p q am=>Fv H a.HF [("desk", .int d),("zone", .int z),("quarter", .int t),("side",abO b),("low", .int p),("high", .int q),("amount", .int am)] v/\0<=q-p/\q-p<=10000
 | .block d z b p g u l=> ∃q,q≠ol/\Fv H a.Ie [("desk", .int d),("zone", .int z),("side",abO b),("price", .int p),("group", .int g),("parent",aiz u),("amounts", .ref q)] v/\H q=FB (.lst (l.map V.int))/\l.length<=4
abbrev pJ.at_ (c:pJ) (z:FX):pJ:=#[c.wk,c.dw,c.fa,c.sl,c.tl,z]
structure Zx where
 a:bi
 E:XK
 x:FG
 dx:FG
 m:FG
 dm:FG
 ol:FG
 c:pJ
 N:Hp
 K:KJ
 S:IC
 F0:Fx (Fy×FX)
 d:Int
abbrev Zx.M (Z:Zx):FG->Prop:=λp=>Z.N p=FM
abbrev xF (m w o:FG) (d:Int) (nd:FG):Fx (Gf×V):=[("market", .ref m),("worker", .ref w),("orders", .ref o),("desk", .int d),("named", .ref nd)]
abbrev mF (K:KJ):Fx (Gf×V):=[("zones", .int K.zones),("quarters", .int K.quarters),("low", .int K.lo),("high", .int K.hi)]
structure EB (Z:Zx) (B:Hp) (w:GU) (nd:FG) (kk:Fx (be×V)) (os:Fx V):Prop where
 sm:aU Z.N B
 hx:B Z.x=FB (.ins Z.a.GV Z.dx (xF Z.m Z.c.wk Z.ol Z.d nd))
 hm:B Z.m=FB (.ins Z.a.Ky Z.dm (mF Z.K))
 ho:B Z.ol=FB (.lst os)
 hn:B nd=FB (.dK kk)
 nx:Z.N Z.x=FM/\Z.N Z.ol=FM/\Z.N nd=FM
 po:Paired (λv o=>fT Z.a Z.ol B v o) os w.orders
 le:w.orders.length<=48
 pn: ∀u,bQ kk (nk u)=(w.names.find? λa=>a.1 == u).map λa=>V.int (a.2:FX)
 ln:kk.length<=w.names.length
 nl:w.names.length<=w.orders.length
 q4:Z.K.quarters<=4
inductive cU (Z:Zx) (j:FX) (B H:Hp) (U:Fx Fy) (en:HJ) (w:GU) (n:FX):Prop
 |mk {r:V}{b:FX}{ff:Fx (be×V)}{d:rZ}{s:fo}{nd:FG}{kk:Fx (be×V)}{os:Fx V}(FO:gF Z.S Z.F0) (W:eW Z.a ⟨Z.M,B⟩ H (Z.c.at_ (60000-j)) Z.S.funs r b ff [d] [] [] [s] n) (A:Ag Z.S U en [s]) (gs:zh [s]) (eb:EB Z B w nd kk os) (hj:j<=50000):cU Z j B H U en w n
inductive ES (Z:Zx) (j:FX) (H:Hp) (U:Fx Fy) (en:HJ) (w:GU) (n:FX):Prop
 |mk {B:Hp}(_:cU Z j B H U en w n):ES Z j H U en w n
abbrev Qe (Z:Zx) (c:Int):Prop:= ∀H',aU Z.N H'->pw Z.a Z.E H' c
structure EX (X:Cx) (a:bi) (E:XK):Prop where
 T:aV X.K X.mg a
 C:XW X.K a
 KX:mJ X.K a
 hr:bZ 9 X.A
 up:dn (gb X.prog X.w) X E
section
variable {X:Cx}{Z:Zx}{i j n m k:FX}{B H H':Hp}{U:Fx Fy}{en:HJ}{w:GU}{σ:L2.St}{Q:VK}{o e f:HX}{to te tf:TE}{v:V}{x:FN}{y:Fy}{z:Int}{p1 p2 p3 p4:Pos}
def eW.zz {a:bi}{B:uz}(W:eW a B H c F r b ff ds us ts sc n) (h:b+5*n<=z') (h':z'<=60000):eW a B H (c.at_ z') F r b ff ds us ts sc n:=#[W.O,W.fn,W.sq,W.tk,W.bn.VZ,W.bn.tl,W.bn.sl,W.bn.b6,h,h']
theorem cU.same (R:cU Z j B H U en w n):aU Z.N H:=by
 obtain⟨_,W,_,_,eb,_⟩:=R;exact λb o e=>W.O.same b o (eb.sm b o e)
def cU.less (R:cU Z i B H U en w n) (h:j<=i):cU Z j B H U en w n:=by
 obtain⟨FO,W,A,gs,eb,hj⟩:=R;exact#[FO,W.zz (by have:_<=60000-i:=W.bn.bn;lia) (by lia),A,gs,eb,by lia]
theorem cU.unset {B0 H0:Hp}(R:cU Z j B H (y::U) ((y,z)::en) w n) (ny:y∉U) (R0:cU Z j0 B0 H0 U en w0 n0):cU Z j B H U en w n:=by
 obtain⟨FO,W,A,gs,eb,hj⟩:=R;obtain⟨_,_,A0,_,_,_⟩:=R0;exact#[FO,W,A.unset ny A0.big λ_=>A0.low Go,gs,eb,hj]
theorem cU.wk (R:cU Z j B H U en w n) (T:aV X.K X.mg Z.a) (q:Q (.ref Z.c.wk) H):cQ X.K "worker" Q (.ref Z.x) H:=by
 obtain⟨_,W,_,_,eb,_⟩:=R;exact#[Z.x,_,Z.dx,_,_,Go,W.O.same _ _ eb.hx,T.Ih,T.ML,Go,q]
def nz (Y:EX X Z.a Z.E) (R:cU Z j B H U en w n) (ho:PE X o to) (hvo: ∀Q:VK,Q (.ref Z.c.wk) H->to σ H Q) (he:PE X e te) (hv: ∀Q:VK,Q v H->te σ H Q) (ex:ax Z.a Z.M Z.N x v) (ws:WS U Z.F0 x) (hk:3*n+1<=k) (er: ∀c,Mf k Z.S en x n= .error c->Qe Z c) (q: ∀y m H',Mf k Z.S en x n= .ok (y,m)->m<n->dE y->cU Z j B H' U en w m->Q (.int y) H')
  (KN:F9 [e] X.env=[[001]]) (ht:eval (.Call (.Attribute o "work_out" p2) [e] [] p4) X.env=(do
   let ov<-eval o X.env
   standAt p2.atName
   let (f,first)<-holding [ov] (LG ov "work_out" (do return (<-Qr o X.env).getD FS))
   N7 p4 f first (Jr p4 (F9 [e] X.env)) (Ln p4 (JJ [] X.env)))):Pe X (.Call (.Attribute o "work_out" p2) [e] [] p4) σ H Q:=by
 obtain @⟨r,b,ff,d,s,nd,kk,os,FO,W,A,gs,eb,hj⟩:=R;refine#[_,cB ho Y.T.II Y.T.aad.c (sF Y.T Y.C Y.KX) Y.hr Y.up (aa he ag KN) KN Go ht,hvo _ #[Z.c.wk,Z.c.dw,_,Go,W.ins,Go,hv _ (.mk (B:=#[Z.M,B]) (c:=Z.c.at_ (60000-j)) Go FO ws (λ_ _ h=>h) A gs #[W] (ax.Iv (λb o e m=>#[m,eb.sm b o e]) x ex) hk (λc h H' s'=>er c h H' λb o e=>s' b o (eb.sm b o e)) λy m h hm hb H' b' s' A' gs' W'=>?_)]];obtain @⟨ff',ds',Px,W'⟩:=W';have sq:=W'.sq;have tk:=W'.tk;cases tk;cases sq with
 |cons h1 h2=>cases h2;exact q y m H' h hm hb #[FO,W',A',gs',eb,hj]
def vk (Y:EX X Z.a Z.E) (R:cU Z j B H U en w n) (ho:PE X o to) (hvo: ∀Q:VK,Q (.ref Z.c.wk) H->to σ H Q) (j5:j+5<=50000) (er:n=0->Qe Z (-13)) (q: ∀m H',n=m+1->cU Z (j+5) B H' U en w m->Q .Jm H')
  (ht:eval (.Call (.Attribute o "take_step" p2) [] [] p4) X.env=(do
   let ov<-eval o X.env
   standAt p2.atName
   let (f,first)<-holding [ov] (LG ov "take_step" (do return (<-Qr o X.env).getD FS))
   N7 p4 f first (Jr p4 (F9 [] X.env)) (Ln p4 (JJ [] X.env)))):Pe X (.Call (.Attribute o "take_step" p2) [] [] p4) σ H Q:=by
 obtain @⟨r,b,ff,d,s,nd,kk,os,FO,W,A,gs,eb,hj⟩:=R;refine#[_,bV ho Y.T.II Y.T.Wu.c (ii Y.T Y.C) (Y.hr.mono [01]) Y.up ht,hvo _ #[Z.c.wk,Z.c.dw,_,Go,W.ins,Go, .mk (c:=Z.c.at_ (60000-j)) Go W (λz=>er z H λb o e=>W.O.same b o (eb.sm b o e)) λm hm H' W'=>q m H' hm #[FO,W'.zz ?_ (by lia),A,gs,eb,j5]]];have:b+5*n<=60000-j:=W.bn.bn;lia
def uN (Y:EX X Z.a Z.E) (R:cU Z (j+1) B H U en w n) (ho:PE X o to) (hvo: ∀Q:VK,Q (.ref Z.c.wk) H->to σ H Q) (he:PE X e te) (hv: ∀Q:VK,Q (.str (sb y)) H->te σ H Q) (q:Pe X f σ H λu H'=> ∃(B':Hp) (z:Int) (w':GU) (n':FX),u= .int z/\cU Z (j+1) B' H' U en w' n'/\y∉U/\dE z/\ ∀H2,cU Z j B' H2 (y::U) ((y,z)::en) w' n'->Q .Jm H2)
  (KN:F9 [e,f] X.env=[[001],(Gc,eval f X.env)]) (VY:F9 [f] X.env=[(Gc,eval f X.env)]) (ht:eval (.Call (.Attribute o "set_value" p2) [e,f] [] p4) X.env=(do
   let ov<-eval o X.env
   standAt p2.atName
   let (g,first)<-holding [ov] (LG ov "set_value" (do return (<-Qr o X.env).getD FS))
   N7 p4 g first (Jr p4 (F9 [e,f] X.env)) (Ln p4 (JJ [] X.env)))):Pe X (.Call (.Attribute o "set_value" p2) [e,f] [] p4) σ H Q:=by
 obtain @⟨r,b,ff,d,s,nd,kk,os,FO,W,A,gs,eb,hj⟩:=R;refine#[_,cB ho Y.T.II Y.T.Xr.c (kT Y.T) (Y.hr.mono [01]) aR (aa he (aa dA ag VY) (by rw[KN,VY])) (by rw[KN,VY]) (by rw[VY];rfl) ht,hvo _ #[Z.c.wk,Z.c.dw,_,Go,W.ins,Go,hv _ (q.mono λu H' ⟨B',z,w',n',hu,R',ny,bz,k⟩=>?_)]];obtain @⟨r,b,ff,d,s,nd,kk,os,FO,W,A,gs,eb,hj⟩:=R';subst hu;have bn:b+5*n'<=60000-(j+1):=W.bn.bn;exact .mk (c:=Z.c.at_ (60000-j)) Go (W.zz (c:=Z.c.at_ _) (by lia) (by lia)) (show b+1+5*n'<=60000-j by lia) λH2 W2=>k H2 #[FO,W2,A.set ny bz,By gs bz,eb,by lia]
end
def aiA {X:Cx}{σ:L2.St}{H:Hp}{R:GP->Hp->Prop}{t1 t2 t3:TE}{lo x hi:Int}(h1:PE X e1 t1) (h2:PE X e2 t2) (h3:PE X e3 t3) (v1: ∀Q:VK,Q (.int lo) H->t1 σ H Q) (v2: ∀Q:VK,Q (.int x) H->t2 σ H Q) (v3: ∀Q:VK,Q (.int hi) H->t3 σ H Q) (q:R (FZ x lo hi) H) (hm:VM [.LtE, .LtE] [e2,e3]=Gc:=by with_unfolding_all rfl):
  Pt X (.Compare e1 [.LtE, .LtE] [e2,e3] p) σ H R:=by
 refine#[_,AI dN dN h1 h2 h3 hm,v1 _ (v2 _ #[_,_,Go,Go,_,Go,?_])];unfold FZ at q;by_cases h:lo<=x
 .rw[GL h,Jj] at q
  rw[GL h];exact b8 (v3 _ #[_,_,Go,Go,_,Go,q])
 .rw[Gp h,Ip] at q
  rw[Gp h];exact bG #[_,Go,q]
inductive xN (a:bi) (vs:Fx V) (H:Hp) (Q:VK) (E:XK):Prop
 |mk (x lo hi:Int) (_:vs=[.int x, .int lo, .int hi]) (_:FZ x lo hi=Gc->pw a E H (-14)) (_:FZ x lo hi=FS->Q .Jm H):xN a vs H Q E
def aiB (T:aV K mg a) (XC:XW K a):T.aah.O P w base 4 (xN a):=by
 refine fW T.aah.F ahn [03] [02];obtain⟨x,lo,hi,rfl,h1,h2⟩:=h;refine bI (jw (aiA (pv 1) (pv 0) (pv 2) [05] [05] [05] ?_));cases e:FZ x lo hi with
 |true=>exact bG (cg (h2 e))
 |false=>exact b8 (aT (dZ eM XC.Oc (jS T XC) hr (by rfl) T.O6 T.Z3.c.b) #[Gn _,_,#[Go,Go],h1 e _ (.tail _ (.tail _ (.tail _ (.head _))))])
def Ow.aiC {B H H':Hp}{p:FG}{o:HO}(O:Ow B L H) (k:aU H H') (h:H p=FM) (e:H' p=FB o):Ow (aI B p o) L H':=by
 refine#[λb u z=>?_,λx hx=>?_,O.nd]
 .by_cases hb:b=p
  .rw[hb,ae] at z;rw[hb,e];exact z
  .rw[ac hb] at z;exact k _ _ (O.same b u z)
 .have h1:=O.at_ x hx
  have ne:x.1≠p:=aj h1.1 h;rw[ac ne];exact#[k _ _ h1.1,h1.2]
def A7 {B:Hp}{C p:FG}{fs:Fx (Gf×V)}{v:V}{o:HO}(i:Fv B C fs v) (h: ∀C d,B p≠FB (.ins C d fs)):Fv (aI B p o) C fs v:=by
 obtain⟨q,dx,rfl,m,e⟩:=i;exact#[q,dx,Go,m,by rw[ac λz=>h _ _ (by rw[<-z];exact e)];exact e]
def ow {a:bi}{B:Hp}{v:V}{p:FG}{o:HO} : ∀ {x:GC},fT a ol B v x->(∀C d fs,fs.length=7->B p≠FB (.ins C d fs))->(p=ol\/ ∀l,B p≠FB (.lst l))->fT a ol (aI B p o) v x
 | .step ..,⟨h,b⟩,hi,_=>#[A7 h λC d=>hi C d _ Go,b]
 | .block ..,⟨q,nq,h,e,le⟩,hi,hl=>#[q,nq,A7 h λC d=>hi C d _ Go,by
  rw[ac λz=>?_]
  .exact e
  .rcases hl with hl|hl
   .exact nq (z.trans hl)
   .exact hl _ (by rw[<-z];exact e),le]
section
variable {B H H':Hp}{w:GU}{Q:VK}
def EB.new {nd:FG}{kk:Fx (be×V)}{os:Fx V}(eb:EB Z B w nd kk os) (hB:B p=FM):EB Z (aI B p o) w nd kk os:=by
 have up: ∀ {b:FG}{u:HO},B b=FB u->aI B p o b=FB u:=λe=>by rw[ac (aj e hB)];exact e
 exact#[λb u e=>up (eb.sm b u e),up eb.hx,up eb.hm,up eb.ho,up eb.hn,eb.nx,d9 eb.po λv x z=>ow z (λ_ _ _ _ z=>by rw[hB] at z;cases z) (.inr λ_ z=>by rw[hB] at z;cases z),eb.le,eb.pn,eb.ln,eb.nl,eb.q4]
def cU.fresh (R:cU Z j B H U en w n) (h:H p=FM):B p=FM/\Z.N p=FM/\p≠Z.ol:=by
 obtain⟨_,W,_,_,eb,_⟩:=R;have hB:B p=T5:=by
  cases z:B p with
  |none=>rfl
  |some u=>rw[W.O.same _ _ z] at h;cases h
 refine#[hB,?_,λz=>by rw[z,eb.ho] at hB;cases hB];cases z:Z.N p with
 |none=>rfl
 |some u=>rw[eb.sm _ _ z] at hB;cases hB
theorem cU.new (R:cU Z j B H U en w n) (k:aU H H') (h:H p=FM) (e:H' p=FB o):cU Z j (aI B p o) H' U en w n:=by
 obtain⟨hB,hN,_⟩:=R.fresh h;obtain @⟨r,b,ff,d,s,nd,kk,os,FO,W,A,gs,eb,hj⟩:=R;exact#[FO,#[W.O.aiC k h e,W.fn.up hN,W.sq, .nil,W.bn],A,gs,eb.new hB,hj]
def cU.chg {o':HO}{nd:FG}{kk:Fx (be×V)}{os:Fx V}(R:cU Z j (aI B p o) H U en w n) (hB:B p=FM) (hN:Z.N p=FM) (eb:EB Z B w nd kk os):cU Z j (aI B p o') (aI H p o') U en w n:=by
 obtain @⟨r,b,ff,d,s,V1,kk',os',FO,W,A,gs,_,hj⟩:=R;have O:=W.O.bas (p:=p) (o:=o') (.inl (by show aI B p o p≠FM;rw[ae];exact Ui _));have F:=W.fn.up (o:=o') hN;rw[Ea] at O F;exact#[FO,#[O,F,W.sq, .nil,W.bn],A,gs,eb.new hB,hj]
end
def cU.put {Z:Zx}{j n b:FX}{B H:Hp}{U:Fx Fy}{en:HJ}{w:GU}{r:V}{ff:Fx (be×V)}{d:rZ}{s:fo}{nd p:FG}{kk:Fx (be×V)}{os:Fx V}{o o':HO}(FO:gF Z.S Z.F0) (W:eW Z.a #[Z.M,B] H (Z.c.at_ (60000-j)) Z.S.funs r b ff [d] [] [] [s] n) (A:Ag Z.S U en [s]) (gs:zh [s]) (hj:j<=50000) (h:B p=FB o) (hN:Z.N p=FM) (eb:EB Z (aI B p o') w nd kk os):cU Z j (aI B p o') (aI H p o') U en w n:=#[FO,#[W.O.bas (.inl (by show B p≠FM;rw[h];exact Ui _)),W.fn.up hN,W.sq, .nil,W.bn],A,gs,eb,hj]
theorem nU {α β:Type}{F:α->β->Prop}{x:α}{y:β}(h:F x y): ∀ {l:Fx α}{m:Fx β},Paired F l m->Paired F (l++[x]) (m++[y])
 |_,_, .nil=> .cons h .nil
 |_,_, .cons r t=> .cons r (nU h t)
inductive Y4 (a:bi) (vs:Fx V) (H:Hp) (Q:VK) (E:XK):Prop
 |mk {Z:Zx}{j:FX}{B:Hp}{U:Fx Fy}{en:HJ}{w:GU}{n:FX}{v:V}{o:GC}(_:vs=[.ref Z.x,v]) (_:Z.a=a) (_:Z.E=E) (_:cU Z j B H U en w n) (_:fT Z.a Z.ol B v o) (_:48<=w.orders.length->Qe Z (-15)) (_:w.orders.length<48-> ∀B' H',cU Z j B' H' U en { w with orders:=w.orders++[o] } n->Q .Jm H'):Y4 a vs H Q E
def aiD (T:aV K mg a) (XC:XW K a):T.d_Z.O P w base 4 (Y4 a):=by
 refine fW T.d_Z.F al4 [03] [02];obtain @⟨Z,j,B,U,en,w',n,v,o,rfl,rfl,rfl,R,ho,h1,h2⟩:=h;have sm:=R.same;obtain @⟨r,b,ff,d,s,nd,kk,os,FO,W,A,gs,eb,hj⟩:=R;have hl:=aZ eb.po;have fl: ∀ {Q:VK},Q (.ref Z.ol) H->cQ K "orders" Q (.ref Z.x) H:=λq=>#[Z.x,_,Z.dx,_,_,Go,W.O.same _ _ eb.hx,T.Ih,T.Ke,Go,q]
 have Sb:=W.O.same _ _ eb.ho;refine bI (jz (iJ T.KW Sb [09] (λ_ q=>fl q) #[_,aS (by rfl) T.RN,_,_,Go,Go,cq (λz=>?_) λz=>?_]))
 .exact aT (dZ eM XC.MB (iA T XC) hr (by rfl) T.NN T.Z4.c.b) #[Gn _,_,#[Go,Go],h1 (by lia) H sm _ (.tail _ (.tail _ (.tail _ (.tail _ (.head _)))))]
 .have lt:w'.orders.length<48:=by have:=eb.le;lia
  have ne: ∀ {b:FG}{u:HO},B b=FB u->u≠ .lst os->aI B Z.ol (.lst (os++[v])) b=FB u:=λe n=>by rw[ac (qp e eb.ho n)];exact e
  have ni: ∀C d fs,fs.length=7->B Z.ol≠FB (.ins C d fs):=λ_ _ _ _ z=>by rw[eb.ho] at z;cases z
  have X7:EB Z (aI B Z.ol (.lst (os++[v]))) { w' with orders:=w'.orders++[o] } nd kk (os++[v]):=#[λb u e=>by rw[ac λz=>by rw[z,eb.nx.2.1] at e;cases e];exact eb.sm b u e,ne eb.hx nofun,ne eb.hm nofun,ae,ne eb.hn nofun,eb.nx,nU (ow ho ni (.inl Go)) (d9 eb.po λv x z=>ow z ni (.inl Go)),by rw[Gb];exact lt,eb.pn,eb.ln,by rw[Gb];exact NZ eb.nl,eb.q4]
  exact iH [09] (λ_ q=>fl q) Sb (bA 1 #[_,Sb,by rw[hl,IE];lia,cg (h2 lt _ _ (cU.put FO W A gs hj eb.ho eb.nx.2.1 X7))])
inductive AH (vs:Fx V) (H:Hp) (Q:VK) (_E:XK):Prop
 |mk (b:GP) (_:vs=[kq b]) (_:Q (abO b) H):AH vs H Q _E
def aiE (T:aV K mg a):T.d_O.U P w base 1 AH:=by
 refine T.d_O.F.ok alN [03] [02];obtain⟨b,rfl,q⟩:=h;refine aN #[_,dD (aL bS (pv 0) dI (aG _)) (aS (by rfl) T.U3) (aS (by rfl) T.WC),Go,_,Go,?_];cases b with
 |true=>rw[show decide (kq FS=V.str "sell")=Gc by decide+kernel];exact bG q
 |false=>rw[show decide (kq Gc=V.str "sell")=FS by decide+kernel];exact b8 q
section
variable {X:Cx}{Z:Zx}{j n m k iw:FX}{B H H':Hp}{U:Fx Fy}{en:HJ}{w:GU}{σ:L2.St}{Q:VK}{D:eI}{ss:Fx Stmt}{e1 e2 e3:HX}{t1 t2 t3:TE}{v u:V}{x:FN}{y nm f:Gf}{C:FG}{fs:Fx (Gf×V)}{lo z hi:Int}{p0 p1 p2 p3 p4 p5 p6:Pos}
def Pa.mono {Q Q':Fx V->Hp->Prop}(h:Pa X es σ H Q) (im: ∀b H,Q b H->Q' b H):Pa X es σ H Q':=by
 obtain⟨t,ht,q⟩:=h;refine#[λσ H Q'=> ∃Q:Fx V->Hp->Prop,(∀b H,Q b H->Q' b H)/\t σ H Q,λpos pins s σ H Q' I h=>?_,Q,im,q];obtain⟨Q,im,q⟩:=h;exact cc (ht pos pins s σ H Q I q) λc s' ⟨v,H',I',r,q⟩=>#[v,H',I',r,im _ _ q]
def abP {C:FG}{fs:Fx Gf}(nb:NB X c C fs) (hr:bZ 2 X.A) (q:Pa X (e::es) σ H λws H1=>ws.length=fs.length/\ ∀x dx H2,H1 x=FM->aU H1 H2->H2 x=FB (.ins C dx (fs.zip ws))->Q (.ref x) H2)
  (hg:Gl X c:=by rfl) (hx:(c == [003])=Gc:=by decide) (he:F9 (e::es) X.env=[001]::F9 es X.env:=by rfl) (Ng:(Jr p4 (F9 es X.env)).any (·.1)=Gc:=by rfl):Pe X (.Call (.Name c p1) (e::es) [] p4) σ H Q:=by
 obtain⟨M,G,b,hm⟩:=nb;refine#[_,h9 M G hr hg hm b .nil aR uB hx he Ng,q.mono λws H1 ⟨hl,q⟩ x dx h1 h2 ne=>?_];rw[Hj];exact#[x,dx,ws,Go,hl,ae,λH2 e k=>#[Go,q x dx H2 h1 (λb o e=>k b o (by rw[ac (aj e h1),ac (aj e h2)];exact e) (aj e h1)) e]]
def gj (i iw:FX) (Y:EX X Z.a Z.E) (nd:X.N.Nodup) (R:cU Z j B H U en w n) (hw:σ[iw]?=FB (FB (.ref Z.c.wk))) (hn:σ[1]?=FB (FB v)) (ins:bF Z.M Z.N C fs v) (cl:gT X.K C) (no:au X.K C f) (hl:fs.lookup f=FB u) (ex:ax Z.a Z.M Z.N x u) (ws:WS U Z.F0 x) (hk:3*n+1<=k) (er: ∀c,Mf k Z.S en x n= .error c->Qe Z c)
  (q: ∀y m H',Mf k Z.S en x n= .ok (y,m)->m<n->dE y->cU Z j B H' U en w m->Bd X ss D (σ.set i (FB (.int y))) H') (hp:iB p2 p4:=by rfl) (nw:X.N[iw]?=FB ("worker":Gf):=by rfl) (vw:o6 X.env.scope "worker":=by exact Hs Go) (n1:X.N[1]?=FB nm:=by rfl) (v1:o6 X.env.scope nm:=by exact Hs Go) (hd:(nm == [003])=Gc:=by decide) (Td:(nm == ("__classdict__":Gf))=Gc:=by decide) (h:Sl X i y:=by exact#[Go,Hs Go,Go]):
  Bd X (.Assign [.Name y p0] (.Call (.Attribute (.Name "worker" p1) "work_out" p2) [.Attribute (.Name nm p3) f p6] [] p4) p5::ss) D σ H:=
 aO i nd (nz Y R (dR nw vw) (λ_ q=>nj q hw) (ai (dR n1 v1 hd Td) Go) (λ_ q=>nj (ins.fld R.same cl no hl q) hn) ex ws hk er q Go (eN hp Go)) h
def pB (Y:EX X Z.a Z.E) (R:cU Z j B H U en w n) (h1:PE X e1 t1) (h2:PE X e2 t2) (h3:PE X e3 t3) (v1: ∀Q:VK,Q (.int z) H->t1 σ H Q) (v2: ∀Q:VK,Q (.int lo) H->t2 σ H Q) (v3: ∀Q:VK,Q (.int hi) H->t3 σ H Q) (er:FZ z lo hi=Gc->Qe Z (-14)) (q:FZ z lo hi=FS->Bd X ss D σ H) (hg:Gl X "need_range":=by rfl) (hs1:F9 [e1,e2,e3] X.env=(Gc,eval e1 X.env)::F9 [e2,e3] X.env:=by rfl) (VY:F9 [e2,e3] X.env=(Gc,eval e2 X.env)::F9 [e3] X.env:=by rfl) (hs3:F9 [e3] X.env=[(Gc,eval e3 X.env)]:=by rfl):
  Bd X (.Expr (.Call (.Name "need_range" p1) [e1,e2,e3] [] p4) p5::ss) D σ H:=
 bB #[_,aF (aiB Y.T Y.C) (Y.hr.mono [01]) hg Y.T.aah.c Y.up (aa h1 (aa h2 (aa h3 ag hs3) VY) hs1) [01] hs1 (by rw[VY,hs3];rfl),v1 _ (v2 _ (v3 _ #[z,lo,hi,Go,λh=>er h H R.same,q]))] Go
def cU.X8 (R:cU Z j B H U en w n) (T:aV X.K X.mg Z.a) (no:au X.K Z.a.Ky f) (hl:(mF Z.K).lookup f=FB v) (q:Q v H):cQ X.K f Q (.ref Z.m) H:=by
 obtain⟨_,W,_,_,eb,_⟩:=R;exact#[Z.m,_,Z.dm,_,_,Go,W.O.same _ _ eb.hm,T.Sa,no,hl,q]
def cU.mk2 (R:cU Z j B H U en w n) (T:aV X.K X.mg Z.a) (q:Q (.ref Z.m) H):cQ X.K "market" Q (.ref Z.x) H:=by
 obtain⟨_,W,_,_,eb,_⟩:=R;exact#[Z.x,_,Z.dx,_,_,Go,W.O.same _ _ eb.hx,T.Ih,T.MK,Go,q]
def cU.dk (R:cU Z j B H U en w n) (T:aV X.K X.mg Z.a) (q:Q (.int Z.d) H):cQ X.K "desk" Q (.ref Z.x) H:=by
 obtain⟨_,W,_,_,eb,_⟩:=R;exact#[Z.x,_,Z.dx,_,_,Go,W.O.same _ _ eb.hx,T.Ih,T.LO,Go,q]
end
inductive kt (a:bi) (lv:FX) (ok:Hw->Prop) (vs:Fx V) (H:Hp) (Q:VK) (E:XK):Prop
 |mk {Z:Zx}{B:Hp}{U:Fx Fy}{en:HJ}{w:GU}{n k dk:FX}{st:Hw}{v:V}(_:vs=[.ref Z.x,v]) (_:Z.a=a) (_:Z.E=E) (_:Z.d=dk) (_:ok st) (_:cU Z 5 B H U en w n) (_:a9 Z.a Z.M Z.N st v) (_:WT lv U Z.F0 st) (_:3*n+4<=k) (_: ∀c,Ju k Z.S Z.K dk en st w n= .error c->Qe Z c) (_: ∀u m H',Ju k Z.S Z.K dk en st w n= .ok (u,m)->m<=n->ES Z 0 H' U en u m->Q .Jm H'):kt a lv ok vs H Q E
def xK {x Hy y:Gf}{st:Stmt}{f:FG}{fd:GQ}{N:Fx Gf}{lv:FX}{ok:Hw->Prop}(T:aV K mg a) (XC:XW K a) (KX:mJ K a) (hk:9<=kl) (F:o9 K x Hy st f fd) (S:ay N ["expansion",y] (af st))
  (J3: ∀(Hn:FE) (A:Hm) (outer:Fx Env) (s:FJ) (H:Hp) (Z:Zx) (B:Hp) (U:Fx Fy) (en:HJ) (w':GU) (n k dk:FX) (sm:Hw) (v:V) (Q:VK),bZ kl (A.deeper [011])->Z.a=a->Z.d=dk->ok sm->cU Z 5 B H U en w' n->a9 Z.a Z.M Z.N sm v->WT lv U Z.F0 sm->3*n+3<=k->(∀c,Ju (k+1) Z.S Z.K dk en sm w' n= .error c->Qe Z c)->(∀u m H',Ju (k+1) Z.S Z.K dk en sm w' n= .ok (u,m)->m<=n->ES Z 0 H' U en u m->Q .Jm H')->
   let X:=fg (gb P w) P w K mg base N Hy (af st) f Hn A outer s H Z.E
   let D:eI:= { nx:=λ_ H'=>Q .Jm H',rt:=Q }
   EX X Z.a Z.E->Bd X (bh st) D (L2.start N [.ref Z.x,v]) H):bW P w K mg base (gb P w) (kl+1) f fd ["expansion",y] (kt a lv ok):=by
 refine fW F S [03] [02];obtain @⟨Z,B,U,en,w',n,k,dk,sm,v,rfl,ha,rfl,hd,ho,R,sa,wt,hk',er,q⟩:=h;obtain⟨k,rfl⟩: ∃k',k=k'+1:=#[k-1,by lia];exact J3 Hn A outer s H Z B U en w' n k dk sm v Q hr ha hd ho R sa wt (by lia) er q (by subst ha;exact#[T,XC,KX,hr.mono hk,aA])
section
variable {X:Cx}{Z:Zx}{j n m k:FX}{B H H':Hp}{U:Fx Fy}{en:HJ}{w:GU}{σ:L2.St}{Q:VK}{x:FP FN}{u:V}{o e0 e1 e2:HX}{to t0 t1 t2:TE}{z:Int}{p2 p4 p5 p7 p8:Pos}{jj:FX}{R':GP->Hp->Prop}
def Y5 {e:HX}(q:Pe X e σ H λv H1=>R' (decide (v= .Jm)) H1):Pt X (.Compare e [.Is] [.Constant .none jj p7] p8) σ H R':=cS aaY (q.mono λv H1 q=>oX #[Go,_,Go,q]) (aG _)
def Y6 (Y:EX X Z.a Z.E) (R:cU Z j B H U en w n) (ho:PE X o to) (hvo: ∀Q:VK,Q (.ref Z.c.wk) H->to σ H Q) (h1:PE X e1 t1) (v1: ∀Q:VK,Q u H->t1 σ H Q) (h2:PE X e2 t2) (v2: ∀Q:VK,Q u H->t2 σ H Q) (h0:PE X e0 t0) (v0: ∀Q:VK,Q (.int z) H->t0 σ H Q) (ex:jD Z.a Z.M Z.N x u) (ws: ∀e,x=FB e->WS U Z.F0 e) (hk:3*n+1<=k) (er: ∀c,Yj k Z.S en z x n= .error c->Qe Z c) (q: ∀y m H',Yj k Z.S en z x n= .ok (y,m)->m<=n->cU Z j B H' U en w m->Q (.int y) H')
  (KN:F9 [e2] X.env=[(Gc,eval e2 X.env)]) (ht:eval (.Call (.Attribute o "work_out" p2) [e2] [] p4) X.env=(do
   let ov<-eval o X.env
   standAt p2.atName
   let (f,first)<-holding [ov] (LG ov "work_out" (do return (<-Qr o X.env).getD FS))
   N7 p4 f first (Jr p4 (F9 [e2] X.env)) (Ln p4 (JJ [] X.env)))):Pe X (.IfExp (.Compare e1 [.Is] [.Constant .none jj p7] p8) e0 (.Call (.Attribute o "work_out" p2) [e2] [] p4) p5) σ H Q:=by
 refine#[_,dD jA h0 dA,Y5 #[_,h1,v1 _ ?_]];cases x with
 |none=>
  obtain rfl:u= .Jm:=ex;exact b8 (v0 _ (q z n H Go (F5 n) R))
 |some e=>
  obtain⟨⟨p,dx,rfl,_⟩,_⟩:=wQ ex;exact bG (nz Y R ho hvo h2 v2 ex (ws e Go) hk er (λy m H' h hm _ R'=>q y m H' h (Lb hm) R') KN ht)
end
section
variable {kl lv:FX}
def aiF (T:aV K mg a) (XC:XW K a) (KX:mJ K a) (T9:9<=kl):T.aai.O P w base (kl+1) (kt a lv λs=> ∃b z t p top q,s= .step b z t p top q):=by
 refine xK T XC KX T9 T.aai.F YO λHn A outer s H Z B U en w' n k dk sm v Q hr ha hd ho R sa wt hk er q=>?_;intro X D Y;obtain⟨b,ez,et,ep,top,eq,rfl⟩:=ho;have T:=Y.T;unfold a9 at sa;obtain⟨u1,u2,u3,u4,u5,i,a1,a2,a3,a4,a5⟩:=sa;unfold WT at wt;obtain⟨w1,w2,w3,w4,w5⟩:=wt;generalize Hq:Ju (k+1) Z.S Z.K dk en (.step b ez et ep top eq) w' n=res at er q;unfold Ju at Hq;dsimp only at Hq;have nd:=YO.nd;refine aO 2 nd (cr (bA 0 (R.wk T ?_)) Go);refine gj (k:=k) 3 2 Y nd R Go Go i T.MO T.P0 Go a1 w1 (by lia) [012] λz n1 H h l1 _ R=>?_;rw[h] at Hq;dsimp only at Hq;refine gj (k:=k) 4 2 Y nd R Go Go i T.MO T.Oi Go a2 w2 (by lia) [012] λt n2 H h l2 _ R=>?_;rw[h] at Hq;dsimp only at Hq;refine gj (k:=k) 5 2 Y nd R Go Go i T.MO T.O8 Go a3 w3 (by lia) [012] λlo n3 H h l3 _ R=>?_;rw[h] at Hq;dsimp only at Hq;refine aO 6 nd (Y6 (k:=k) Y R (pv 2) [05] [010] (λ_ q=>i.fld R.same T.MO T.L9 Go q) [010] (λ_ q=>i.fld R.same T.MO T.L9 Go q) (pv 5) [05] a4 w4 (by lia) [012] (λhi n4 H h l4 R=>?_) Go (eN Go Go));rw[h] at Hq;dsimp only at Hq;refine gj (k:=k) 7 2 Y nd R Go Go i T.MO T.OE Go a5 w5 (by lia) [012] λam n5 H h l5 _ R=>?_;rw[h] at Hq;dsimp only at Hq;refine aO 8 nd (cr (bA 0 (R.mk2 T ?_)) Go);have bad:(Jv Z.K z&&(FZ t 0 ((Z.K.quarters:Int)-1)&&(FZ lo Z.K.lo Z.K.hi&&(FZ hi lo Z.K.hi&&(decide (hi-lo<=Qj)&&FZ am 0 JA)))))=Gc->Qe Z (-14):=λh=>er (-14) (by rw[<-Hq];unfold W3;rw[FI h]);subst ha;refine pB Y R (pv 3) ak (bM cv (ai (pv 8) Go) ak) [05] [05] (λ_ q=>R.X8 T T.Mx Go #[_,_,Go,Go,q]) (λh=>bad (by unfold Jv;rw[h];rfl)) λc1=>?_;refine pB Y R (pv 4) ak (bM cv (ai (pv 8) Go) ak) [05] [05] (λ_ q=>R.X8 T T.Ly Go #[_,_,Go,Go,q]) (λh=>bad (by simp only[h,Ip,Ia])) λc2=>?_;refine pB Y R (pv 5) (ai (pv 8) Go) (ai (pv 8) Go) [05] (λ_ q=>R.X8 T T.ND Go q) (λ_ q=>R.X8 T T.LN Go q) (λh=>bad (by simp only[h,Ip,Ia])) λc3=>?_;refine pB Y R (pv 6) (pv 5) (ai (pv 8) Go) [05] [05] (λ_ q=>R.X8 T T.LN Go q) (λh=>bad (by simp only[h,Ip,Ia])) λc4=>?_;refine pB Y R (bM cv (pv 6) (pv 5)) ak (aS (by rfl) T.RO) (λ_ q=>#[_,_,Go,Go,q]) [05] [05] (λh=>bad ?_) λc5=>?_
 .unfold FZ at h c4
  rw[GI,GB] at c4;rw[GL (show(0:Int)<=hi-lo by lia),Jj] at h;rw[show decide (hi-lo<=Qj)=Gc from h];simp only[Ip,Ia]
 refine pB Y R (pv 7) ak (aS (by rfl) T.Pg) [05] [05] [05] (λh=>bad (by rw[show FZ am 0 JA=Gc from h];simp only[Ia])) λc6=>?_;have sl:0<=hi-lo/\hi-lo<=10000:=by
  have z:FZ (hi-lo) 0 10000=FS:=c5;unfold FZ at z;rw[GI,GB,GB] at z;exact z
 have good: ¬(Jv Z.K z&&(FZ t 0 ((Z.K.quarters:Int)-1)&&(FZ lo Z.K.lo Z.K.hi&&(FZ hi lo Z.K.hi&&(decide (hi-lo<=Qj)&&FZ am 0 JA)))))=Gc:=λh=>by
  have c5:decide (hi-lo<=Qj)=FS:=(GI _ _▸c5:_/\_).2
  have c6:FZ am 0 JA=FS:=c6
  have c1:Jv Z.K z=FS:=c1;rw[c1,c2,c3,c4,c5,c6] at h;cases h
 unfold W3 at Hq;rw[FF good] at Hq;refine cw (cS fS (bA 7 (cP #[_,_,Go,Go,_,Go,cq (λh=>?_) λh=>?_])))
 .rw[FF (by lia)] at Hq
  refine aO 9 nd #[_,aF (aiE T) [017] (by rfl) T.d_O.c aR (aa [010] ag),i.fld R.same T.MO T.PZ Go #[b,Go,?_]];refine fm (bN (aP (bA 0 (aP (abP (qX T) [017] (aP (cr (bA 0 (R.dk T (aP (bA 3 (aP (bA 4 (aP (bA 9 (aP (bA 5 (aP (bA 6 (aP (bA 7 (cH #[Go,λx dx H2 hx sm e=>cH ?_]))))))))))))))) Go)))))) (aiD T Y.C) [017] T.d_Z.c aA) Go;have z0:0<=z:=by unfold FZ at c1;rw[GI,GB] at c1;exact c1.1
  have t0:0<=t:=by unfold FZ at c2;rw[GI,GB] at c2;exact c2.1
  unfold Xo Vm at Hq;refine .mk (o:= .step dk z.toNat t.toNat b lo hi am) Go Go Go (R.new sm hx e) #[#[x,dx,Go,λz=>z,?_],sl] (λh=>er (-15) (by rw[<-Hq,FI h])) λh B' H' R'=>q _ n5 H' (by rw[<-Hq,FF (FX.not_le.mpr h)]) (by lia) #[R'.less (Gn _)];rw[ae,hd,Km z0,Km t0]
  rfl
 .have am0:am=0:=by unfold FZ at c6;rw[GI,GB] at c6;lia
  rw[FI am0] at Hq;exact cg (q _ n5 H Hq.symm (by lia) #[R.less (Gn _)])
end
section
variable {H:Hp}{te:TE}
def ET (i n:FX) (hp:QG (model X.prog X.w) X.A X.env X.xe) (nd:X.N.Nodup) (hm:X.mg "range"=FM) (he:PE X e te) (hv: ∀R:VK,R (.int n) H->te σ H R) (hn:n<=1000) (I:FX->L2.St->Hp->Prop) (h0:I 0 σ H) (hs: ∀j σ H,j<n->I j σ H->Bd X A (D.lp X ss (I (j+1))) (σ.set i (FB (.int j))) H) (hd: ∀σ H,I n σ H->Bd X ss D σ H)
  (hg:Gl X "range":=by rfl) (hc:X.calm=FS:=by rfl) (h:Sl X i y:=by exact#[Go,Hs Go,Go]) (KN:F9 [e] X.env=[[001]]:=by rfl) (hf: ∀x,K7 (.Call (.Name "range" p1) [e] [] p2) X.env x=pure x:=by intro _;rfl):Bd X (.For (.Name y p0) (.Call (.Name "range" p1) [e] [] p2) A [] p5::ss) D σ H:=
 aT (ww hp hc (yC hg hm (aa he ag KN) KN) (fL nd h.hi h.hx (.inl h.hf)) iE hf) (hv _ #[n,Go,by lia,by lia,yI (n:=n) I h0 (λj σ H lt z=>by rw[Int.zero_add];exact hs j σ H lt z) hd])
end
structure LB (Z:Zx) (B:Hp) (L:FG) (l:Fx Int):Prop where
 h:B L=FB (.lst (l.map V.int))
 n:Z.N L=FM
 o:L≠Z.ol
inductive aiG (a:bi) (vs:Fx V) (H:Hp) (Q:VK) (E:XK):Prop
 |mk {Z:Zx}{B:Hp}{U:Fx Fy}{en:HJ}{w:GU}{n k:FX}{x:Fy}{e:FN}{v:V}(_:vs=[.ref Z.x,v]) (_:Z.a=a) (_:Z.E=E) (_:cU Z 5 B H U en w n) (_:sw Z.a Z.M Z.N (x,e) v) (_:x∉U) (_:WS (x::U) Z.F0 e) (_:3*n+1<=k) (_: ∀c,IZ k Z.S en x e (JS Z.K.quarters) n= .error c->Qe Z c)
  (_: ∀l m B' H' L,IZ k Z.S en x e (JS Z.K.quarters) n= .ok (l,m)->m<=n->LB Z B' L l->cU Z 0 B' H' U en w m->Q (.ref L) H'):aiG a vs H Q E
theorem cU.q4 {B H:Hp}{w:GU}(R:cU Z j B H U en w n):Z.K.quarters<=4:=by
 obtain⟨_,_,_,_,eb,_⟩:=R;exact eb.q4
def xu {e:FN} :IZ k S en x e (t::l) n=(match Mf k S ((x,(t:Int))::en) e n with
  | .error c=> .error c
  | .ok (a,m)=>match IZ k S en x e l m with
   | .error c=> .error c
   | .ok (b,o)=> .ok (a::b,o)):=rfl
theorem wW {e:FN} : ∀ {L:Fx FX}{n:FX}{l:Fx Int}{m:FX},IZ k S en x e L n= .ok (l,m)->l.length=L.length
 |[],n,l,m,h=>by
  unfold IZ at h;cases h
  rfl
 |t::L,n,l,m,h=>by
  rw[xu] at h;cases h1:Mf k S ((x,(t:Int))::en) e n with
  |error c=>rw[h1] at h;cases h
  |ok z=>
   obtain⟨z1,z2⟩:=z;rw[h1] at h;dsimp only at h;cases h2:IZ k S en x e L z2 with
   |error c=>rw[h2] at h;cases h
   |ok y=>
    rw[h2] at h;cases h;exact GO (· +1) (wW h2)
def amG (T:aV K mg a) (XC:XW K a) (KX:mJ K a) (T9:9<=kl):T.d_G.O P w base (kl+1) (aiG a):=by
 refine fW T.d_G.F aho [03] [02];obtain @⟨Z,B,U,en,w',n,k,x,e,v,rfl,rfl,rfl,R,⟨u,i,ex⟩,nx,ws,hk,er,q⟩:=h;have nd:=aho.nd;have Y:EX (fg (gb P w) P w K mg base ["expansion","amounts","found","quarter"] "work_out_amounts" (af s_G) Z.a.f_G Hn A outer s H Z.E) Z.a Z.E:=#[T,XC,KX,hr.mono T9,aA];refine aO 2 nd (mE λL hL=>?_);obtain⟨hB,hN,hO⟩:=R.fresh hL;obtain⟨nn,kk,os,eb⟩: ∃nn kk os,EB Z B w' nn kk os:=by obtain⟨_,_,_,_,eb,_⟩:=R;exact#[_,_,_,eb]
 have R1:=R.new (o:= .lst []) (bH hL) hL ae
 have q4:=R.q4;refine ET 3 Z.K.quarters Jz nd T.XY (ai [09] Go) (λ_ q=>R1.mk2 T (R1.X8 T T.Ly Go q)) (by lia) (λt σ H=> ∃(done:Fx Int) (m:FX) (y:FP V),σ=[FB (.ref Z.x),FB v,FB (.ref L),y]/\done.length=t/\m<=n/\cU Z (5-t) (aI B L (.lst (done.map V.int))) H U en w' m/\(∀c,IZ k Z.S en x e ((JS Z.K.quarters).drop t) m= .error c->Qe Z c)/\ ∀l m',IZ k Z.S en x e ((JS Z.K.quarters).drop t) m= .ok (l,m')->IZ k Z.S en x e (JS Z.K.quarters) n= .ok (done++l,m')) #[[],n,FM,Go,Go,F5 n,R1,er,λ_ _ h=>h] ?_ ?_
 .rintro t σ H3 lt ⟨done,m,y,rfl,dl,lm,R3,er3,q3⟩
  have dr:(JS Z.K.quarters).drop t=t::(JS Z.K.quarters).drop (t+1):=by rw[HL (by rw[QF];exact lt),Fx.getElem_range]
  rw[dr] at er3 q3;rw[xu] at er3 q3;rw[show 5-t=(4-t)+1 by lia] at R3;refine bB (uN Y R3 [09] (λ_ q=>R3.wk T q) [010] (λ_ q=>i.fld R3.same T.Pj T.Oj Go q) (bA 3 #[_,(t:Int),w',m,Go,R3,nx,by unfold dE KY;lia,λH4 R4=>?_]) Go Go Go);have hl4:H4 L=FB (.lst (done.map V.int)):=by obtain⟨_,W,_,_,_,_⟩:=R4;exact W.O.same _ _ ae
  refine iH (pv 2) [05] hl4 (nz (k:=k) Y R4 [09] (λ_ q=>R4.wk T q) [010] (λ_ q=>i.fld R4.same T.Pj T.OF Go q) ex ws (by lia) (λc h=>er3 c (by rw[h])) (λz m5 H5 h hm _ R5=>?_) Go Go);rw[h] at er3 q3;dsimp only at er3 q3;have hl5:H5 L=FB (.lst (done.map V.int)):=by obtain⟨_,W,_,_,_,_⟩:=R5;exact W.O.same _ _ ae
  refine#[_,hl5,by rw[FT,dl,IE];lia,gh #[done++[z],m5,_,Go,by rw[Gb,dl];rfl,by lia,?_,λc h=>er3 c (by rw[h]),λl m' h=>?_]]
  .have R6:=(R5.unset nx R).chg (o':= .lst ((done++[z]).map V.int)) hB hN eb
   rw[Hk] at R6 ⊢;rw[show 5-(t+1)=4-t by lia];exact R6
  .rw[q3 (z::l) m' (by rw[h]),G9]
   rfl
 .rintro σ H3 ⟨done,m,y,rfl,dl,lm,R3,er3,q3⟩
  rw[KC (by rw[QF];exact F5 _)] at q3;have:=q3 [] m Go;rw[Hj] at this;exact aN (bA 2 (q done m _ H3 L this lm #[ae,hN,hO] (R3.less (Gn _))))
def zA (w:GU):FP Fy->Except Int (FP FX)
 |none=> .ok FM
 |some u=>match w.names.find? λa=>a.1 == u with
  |some a=> .ok (FB a.2)
  |none=> .error (-16)
def Cf (w:GU) (o:GC):FP Fy->GU
 |some x=> { w with orders:=w.orders++[o],names:=(x,w.orders.length)::w.names }
 |none=> { w with orders:=w.orders++[o] }
inductive Y7 (a:bi) (vs:Fx V) (H:Hp) (Q:VK) (E:XK):Prop
 |mk {Z:Zx}{j:FX}{B:Hp}{U:Fx Fy}{en:HJ}{w:GU}{n:FX}{fs:Fx (Gf×V)}{un:FP Fy}{v:V}(_:vs=[.ref Z.x,v]) (_:Z.a=a) (_:Z.E=E) (_:cU Z j B H U en w n) (_:bF Z.M Z.N Z.a.J2 fs v) (_:fs.lookup ("under":Gf)=FB (ij un)) (_: ∀c,zA w un= .error c->Qe Z c) (_: ∀p,zA w un= .ok p->Q (aiz p) H):Y7 a vs H Q E
def aiH (T:aV K mg a) (XC:XW K a):T.aak.O P w base 4 (Y7 a):=by
 refine fW T.aak.F ahp [03] [02];obtain @⟨Z,j,B,U,en,w',n,fs,un,v,rfl,rfl,rfl,R,i,hl,er,q⟩:=h;have fl: ∀ {Q:VK},Q (ij un) H->cQ K "under" Q v H:=λq=>i.fld R.same T.Lg T.OH hl q
 have sm:=R.same;obtain⟨_,W,_,_,eb,_⟩:=R
 have nm: ∀ {Q:VK},Q (.ref _) H->cQ K "named" Q (.ref Z.x) H:=λq=>#[Z.x,_,Z.dx,_,_,Go,W.O.same _ _ eb.hx,T.Ih,T.Kw,Go,q]
 refine bI (Y5 (cr (bA 1 (fl ?_)) Go));cases un with
 |none=>exact b8 (aN #[_,dH cE ak,_,Go,q FM Go])
 |some u=>
  have g:=gD.k (k:=nk u) (W.O.same _ _ eb.hn);rw[eb.pn] at g;refine bG (bI #[_,fD (ja (dv hr) [010] [09]),fl (nm #[_,_,Go,g,_,Go,?_])]);cases hf:w'.names.find? λa=>a.1 == u with
  |none=>exact b8 (aT (dZ eM XC.Pw (lN T XC) hr (by rfl) T.QP T.Z5.c.b) #[Gn _,_,#[Go,Go],er (-16) (by unfold zA;dsimp only;rw[hf]) H sm _ (.tail _ (.tail _ (.tail _ (.tail _ (.tail _ (.head _))))))])
  |some p=>
   rw[hf] at g;exact bG (aN #[_,kX (dv hr) [09] [010] [002],nm (fl #[_,_,Go,g,q (FB p.2) (by unfold zA;dsimp only;rw[hf])])])
inductive Dn (a:bi) (vs:Fx V) (H:Hp) (Q:VK) (E:XK):Prop
 |mk {Z:Zx}{j:FX}{B:Hp}{U:Fx Fy}{en:HJ}{w:GU}{n:FX}{v:V}{nm:FP Fy}{o:GC}(_:vs=[.ref Z.x,ij nm,v]) (_:Z.a=a) (_:Z.E=E) (_:cU Z j B H U en w n) (_:fT Z.a Z.ol B v o) (_:48<=w.orders.length->Qe Z (-15)) (_:w.orders.length<48-> ∀B' H',cU Z j B' H' U en (Cf w o nm) n->Q .Jm H'):Dn a vs H Q E
def aiI (T:aV K mg a) (XC:XW K a):T.aal.O P w base 5 (Dn a):=by
 refine fW T.aal.F ahq [03] [02];obtain @⟨Z,j,B,U,en,w',n,v,nm,o,rfl,rfl,rfl,R,ho,h1,h2⟩:=h;refine bB (bN (aP (bA 0 (aP (bA 2 (cH (.mk Go Go Go R ho h1 λlt B' H' R'=>?_)))))) (aiD T XC) hr T.d_Z.c aA);have h2:=h2 lt;have nl:w'.names.length<=w'.orders.length:=by obtain⟨_,_,_,_,eb,_⟩:=R;exact eb.nl
 refine cw (cS D1 (bA 1 (oX [013])));cases nm with
 |none=>exact bG (cg (h2 _ _ R'))
 |some x=>
  obtain @⟨r,b,ff,d,s,nd,kk,os,FO,W,A,gs,eb,hj⟩:=R';have Sb:=W.O.same _ _ eb.ho;have kl:kk.length<=48:=F7 eb.ln (F7 eb.nl eb.le);have ne: ∀ {b:FG}{u:HO},B' b=FB u->(∀k,u≠ .dK k)->aI B' nd (.dK (dB kk (nk x) (.int w'.orders.length))) b=FB u:=λe n=>by rw[ac (qp e eb.hn (n _))];exact e
  have ni: ∀C d fs,fs.length=7->B' nd≠FB (.ins C d fs):=λ_ _ _ _ z=>by rw[eb.hn] at z;cases z
  have X7:EB Z (aI B' nd (.dK (dB kk (nk x) (.int w'.orders.length)))) (Cf w' o (FB x)) nd (dB kk (nk x) (.int w'.orders.length)) os:=by
   refine#[λb u e=>by rw[ac λz=>by rw[z,eb.nx.2.2] at e;cases e];exact eb.sm b u e,ne eb.hx nofun,ne eb.hm nofun,ne eb.ho nofun,ae,eb.nx,d9 eb.po λv x z=>ow z ni (.inr λ_ z=>by rw[eb.hn] at z;cases z),eb.le,λu=>?_,F7 (cG _ _ _) (Ic eb.ln),?_,eb.q4]
   .rw[gX]
    show _=FP.map _ (Fx.find? _ ((x,w'.orders.length)::w'.names))
    rw[HC];by_cases hu:x=u
    .rw[FI (by rw[hu]),show(x == u)=FS from beq_iff_eq.mpr hu];rfl
    .rw[FF λz=>hu (eD (J1 z)).symm,show(x == u)=Gc from beq_eq_false_iff_ne.mpr hu];exact eb.pn u
   .show _+1<=(w'.orders++[o]).length;rw[Gb];exact Ic nl
  refine b8 (eE (ie (dv hr) [09] (pv 1) (bM cv (br bP (by rfl) T.KW Iy (aa [09] ag)) ak) Go) #[Z.x,_,Z.dx,_,_,Go,W.O.same _ _ eb.hx,T.Ih,T.Ke,Go,Z.ol,_,Go, .inl (cD.of Sb),_,_,Go,Go,Z.x,_,Z.dx,_,_,Go,W.O.same _ _ eb.hx,T.Ih,T.Kw,Go,nd,_,Go,uc.k (k:=nk x) (W.O.same _ _ eb.hn) (by rw[IE];lia),?_]);have e:(os.length:Int)-1=w'.orders.length:=by rw[aZ eb.po];show((w'.orders++[o]).length:Int)-1=_;rw[Gb];show((w'.orders.length+1:FX):Int)-1=_;lia
  rw[e];exact h2 _ _ (cU.put FO W A gs hj eb.hn eb.nx.2.2 X7)
def oE (h:FZ x 0 hi=FS):0<=x:=by unfold FZ at h;rw[GI,GB] at h;exact h.1
def BJ {w:GU}(h:(Jv M z&&(FZ p M.lo M.hi&&(l.all (λq=>FZ q 0 JA)&&FZ g 0 9)))=Gc):Lr M d nm b z p l un g w= .error (-14):=by unfold Lr;rw[FI h]
def zw {w:GU}(h: ¬(Jv M z&&(FZ p M.lo M.hi&&(l.all (λq=>FZ q 0 JA)&&FZ g 0 9)))=Gc) (h0:l.all (λq=>q == 0)=FS):Lr M d nm b z p l un g w= .ok w:=by unfold Lr;rw[FF h,FI h0]
def EE {w:GU}(h: ¬(Jv M z&&(FZ p M.lo M.hi&&(l.all (λq=>FZ q 0 JA)&&FZ g 0 9)))=Gc) (h0: ¬l.all (λq=>q == 0)=FS):
  Lr M d nm b z p l un g w=(match zA w un with
   | .error c=> .error c
   | .ok par=>if 48<=w.orders.length then .error (-15) else .ok (Cf w (.block d z.toNat b p g.toNat par l) nm)):=by
 unfold Lr zA;rw[FF h,FF h0];unfold Xo Vm;cases un with
 |none=>
  dsimp only;split
  .rename_i h;split at h<;>cases h;rename_i z;rw[FI z]
  .rename_i h;split at h<;>cases h;rename_i z;rw[FF z];cases nm<;>rfl
 |some u=>
  dsimp only;cases w.names.find? λa=>a.1 == u with
  |none=>rfl
  |some a=>
   dsimp only;split
   .rename_i h;split at h<;>cases h;rename_i z;rw[FI z]
   .rename_i h;split at h<;>cases h;rename_i z;rw[FF z];cases nm<;>rfl
theorem xy: ∀ {l:Fx Int},(∀q∈l,0<=q)->(0<l.sum ↔ ¬l.all (λq=>q == 0)=FS)/\0<=l.sum
 |[],_=>by simp
 |x::l,h=>by
  obtain⟨h1,h2⟩:=xy λq hq=>h q (FK _ hq);have hx:=h x FL;rw[ZD,N4,GI,beq_iff_eq];refine#[#[λz y=>h1.mp (by lia) y.2,λz=>?_],by lia];by_cases y:x=0
  .have:=h1.mpr λw=>z #[y,w];lia
  .lia
def aiJ (T:aV K mg a) (XC:XW K a) (KX:mJ K a) (T9:10<=kl):T.aaj.O P w base (kl+1) (kt a lv λs=> ∃nm b z p x q u g,s= .block nm b z p x q u g):=by
 refine xK T XC KX (L4 T9) T.aaj.F YQ λHn A outer s H Z B U en w' n k dk sm v Q hr ha hd ho R sa wt hk er q=>?_;intro X D Y;subst ha;obtain⟨nm,b,ez,ep,x,eq,un,eg,rfl⟩:=ho;unfold a9 at sa;obtain⟨u1,u2,u3,u4,i,a1,a2,a3,a4⟩:=sa;unfold WT at wt;obtain⟨nx,w1,w2,w3,w4⟩:=wt;generalize Hq:Ju (k+1) Z.S Z.K dk en (.block nm b ez ep x eq un eg) w' n=res at er q;unfold Ju at Hq;dsimp only at Hq;have nd:=YQ.nd;refine aO 2 nd (cr (bA 0 (R.wk T ?_)) Go);refine gj (k:=k) 3 2 Y nd R Go Go i T.Lg T.Pc Go a1 w1 (by lia) [012] λz n1 H h l1 _ R=>?_;rw[h] at Hq;dsimp only at Hq;refine gj (k:=k) 4 2 Y nd R Go Go i T.Lg T.OG Go a2 w2 (by lia) [012] λp n2 H h l2 _ R=>?_;rw[h] at Hq;dsimp only at Hq;refine aO 5 nd (bN (aP (bA 0 (aP (cr (bA 1 (i.fld R.same T.Lg T.NT Go (cH (.mk (k:=k) Go Go Go R a3 nx w3 (by lia) [012] λl n3 B H L h l3 hL R=>?_)))) Go)))) (amG T XC KX (F5 9)) (hr.mono T9) T.d_G.c aA);have ll:l.length<=4:=by
  obtain⟨_,_,_,_,eb,_⟩:=R;rw[wW h,QF];exact eb.q4
 rw[h] at Hq;dsimp only at Hq;refine aO 6 nd (Y6 (k:=k) Y R (pv 2) [05] [010] (λ_ q=>i.fld R.same T.Lg T.MW Go q) [010] (λ_ q=>i.fld R.same T.Lg T.MW Go q) ak [05] a4 w4 (by lia) [012] (λg n4 H h l4 R=>?_) Go (eN Go Go));rw[h] at Hq;dsimp only at Hq;have bad:(Jv Z.K z&&(FZ p Z.K.lo Z.K.hi&&(l.all (λq=>FZ q 0 JA)&&FZ g 0 9)))=Gc->Qe Z (-14):=λh=>er (-14) (by rw[<-Hq,BJ h])
 refine pB Y R (pv 3) ak (bM cv (ai [09] Go) ak) [05] [05] (λ_ q=>R.mk2 T (R.X8 T T.Mx Go #[_,_,Go,Go,q])) (λh=>bad (by unfold Jv;rw[h];rfl)) λc1=>?_;refine pB Y R (pv 4) (ai [09] Go) (ai [09] Go) [05] (λ_ q=>R.mk2 T (R.X8 T T.ND Go q)) (λ_ q=>R.mk2 T (R.X8 T T.LN Go q)) (λh=>bad (by rw[h,Ip,Ia])) λc2=>?_;have hL':H L=FB (.lst (l.map V.int)):=by obtain⟨_,W,_,_,_,_⟩:=R;exact W.O.same _ _ hL.h
 refine ki 7 Jz nd (pv 5) [05] (λj σ H'=>H'=H/\(∃y,σ=[FB (.ref Z.x),FB v,FB (.ref Z.c.wk),FB (.int z),FB (.int p),FB (.ref L),FB (.int g),y,FM,FM])/\ ∀q∈l.take j,FZ q 0 JA=FS) #[Go,#[_,Go],by rw[Nh];exact nofun] (λj σ H' _ h=>by rw[h.1];exact hL') ?_ ?_
 .rintro j y σ H' hj ⟨rfl,⟨y',rfl⟩,ha⟩
  rw[GR] at hj;obtain⟨c,hc,rfl⟩:=GH.mp hj;refine pB Y R (pv 7) ak (aS (by rfl) T.Pg) [05] [05] [05] (λh=>bad ?_) λc3=>gh #[Go,#[_,Go],λq hq=>?_]
  .rw[show l.all (λq=>FZ q 0 JA)=Gc by
    rw[Fx.all_eq_false];exact#[c,G8 hc,by rw[show FZ c 0 JA=Gc from h];exact FA],Ip,Ia,Ia]
  .rw[J8,hc] at hq
   rcases Gr.mp hq with z|z
   .exact ha q z
   .rw[Ga.mp z];exact c3
 .rintro σ H' ⟨rfl,⟨y',rfl⟩,ha⟩
  rw[FT,JQ] at ha;refine pB Y R (pv 6) ak (aS (by rfl) T.SE) [05] [05] [05] (λh=>bad (by rw[h,Ia,Ia,Ia])) λc4=>?_;have al:l.all (λq=>FZ q 0 JA)=FS:=Mq.mpr ha
  have good: ¬(Jv Z.K z&&(FZ p Z.K.lo Z.K.hi&&(l.all (λq=>FZ q 0 JA)&&FZ g 0 9)))=Gc:=λh=>by
   rw[show Jv Z.K z=FS from c1,c2,al,c4] at h;cases h
  obtain⟨sp,_⟩:=xy (l:=l) λq hq=>oE (ha q hq);refine cw (cS fS #[_,br (v9 Go) (by rfl) T.WI boot_sum (aa (pv 5) ag),L,l,Go,cD.of hL',cP #[_,_,Go,Go,_,Go,cq (λh=>?_) λh=>?_]])
  .rw[EE good (sp.mp h)] at Hq
   refine aO 8 nd (bN (aP (bA 0 (aP (bA 1 (cH (.mk Go Go Go R i Go [012] λpar h=>?_)))))) (aiH T XC) [017] T.aak.c aA);rw[h] at Hq;dsimp only at Hq;refine aO 9 nd #[_,aF (aiE T) [017] (by rfl) T.d_O.c aR (aa [010] ag),i.fld R.same T.Lg T.Pb Go #[b,Go,?_]];refine fm (bN (aP (bA 0 (aP (cr (bA 1 (i.fld R.same T.Lg T.O9 Go ?_)) Go)))) (aiI T XC) [017] T.aal.c aA) Go;refine aP (abP (px T) [017] (aP (cr (bA 0 (R.dk T ?_)) Go)));refine aP (bA 3 (aP (bA 9 (aP (bA 4 (aP (bA 6 (aP (bA 8 (aP (bA 5 (cH #[Go,λy dx H2 hy sm e=>cH ?_]))))))))))));have hB:=(R.fresh hy).1;refine .mk (nm:=nm) (o:= .block dk z.toNat b p g.toNat par l) Go Go Go (R.new sm hy e) #[L,hL.o,#[y,dx,Go,λz=>z,?_],?_,ll] (λh=>er (-15) (by rw[<-Hq,FI h])) λh B' H' R'=>q _ n4 H' (by rw[<-Hq,FF (FX.not_le.mpr h)]) (by lia) #[R'.less (Gn _)]
   .rw[ae,hd,Km (oE c1),Km (oE c4)]
    rfl
   .rw[ac (aj hL.h hB)];exact hL.h
  .rw[zw good (Classical.byContradiction λz=>h (sp.mpr z))] at Hq
   exact cg (q _ n4 H' Hq.symm (by lia) #[R.less (Gn _)])
section
open Vbemac (ev runOne)
def wa (k:FX) (S:IC) (M:KJ) (d:FX) (v:HJ) (s:Hw) (w:GU) (n:FX):Vbemac.Res (HJ×GU):=match s with
 | .bind x e=>(match ev k S v e n with
  | .error c=> .error c
  | .ok (a,m)=> .ok (((x,a)::v,w),m))
 |s=>(match runOne k S M d v s w n with
  | .error c=> .error c
  | .ok (u,m)=> .ok ((v,u),m))
def B7 {w:GU} :Ka (k+1) S M d v (.cons s r) w (n+1)=(match wa k S M d v s w n with
  | .error c=> .error c
  | .ok (x,m)=>Ka k S M d x.1 r x.2 m):=by
 conv=>lhs;unfold Ka
 unfold wa;cases s<;>dsimp only
 .cases ev k S v _ n<;>rfl
 all_goals cases runOne k S M d v _ w n<;>rfl
inductive E9 (S:IC) (U:Fx Fy) (en:HJ):Fx Fy->HJ->Prop
 |refl:E9 S U en U en
 |cons {U':Fx Fy}{UH:HJ}{x:Fy}{z:Int}(_:E9 S U en U' UH) (_:x∉U') (_: ∀y,dE (RF UH y)) (_: ∀y∈S.consts.map (·.1),y∈U'):E9 S U en (x::U') ((x,z)::UH)
def cU.back {Z:Zx}{U:Fx Fy}{en:HJ}{U':Fx Fy}{UH:HJ}(x:E9 Z.S U en U' UH): ∀ {j n:FX}{B H:Hp}{w:GU},cU Z j B H U' UH w n->cU Z j B H U en w n:=by
 induction x with
 |refl=>exact λR=>R
 |cons _ ny bg lo ih=>
  intro j n B H w R;obtain⟨FO,W,A,gs,eb,hj⟩:=R;exact ih #[FO,W,A.unset ny bg λ_=>lo,gs,eb,hj]
def cU.ext {B H:Hp}{w:GU}(E:E9 Z.S U en U' UH) (R:cU Z j B H U' UH w n) (ny:x∉U'):E9 Z.S U en (x::U') ((x,z)::UH):=by
 obtain⟨_,_,A,_,_,_⟩:=R;exact .cons E ny A.big (A.low Go)
inductive B4 (K:FC) (a:bi) (vs:Fx V) (H:Hp) (Q:VK) (E:XK):Prop
 |mk {Z:Zx}{j:FX}{B:Hp}{U:Fx Fy}{en:HJ}{w:GU}{n k:FX}{C:FG}{x:Fy}{e:FN}{u v:V}(_:vs=[.ref Z.c.wk,v]) (_:Z.a=a) (_:Z.E=E) (_:cU Z (j+1) B H U en w n) (_:bF Z.M Z.N C [("name", .str (sb x)),("exp",u)] v) (_:gT K C) (_:au K C "name") (_:au K C "exp") (_:ax Z.a Z.M Z.N e u) (_:x∉U) (_:WS U Z.F0 e) (_:3*n+1<=k) (_: ∀c,ev k Z.S en e n= .error c->Qe Z c) (_: ∀y m H',ev k Z.S en e n= .ok (y,m)->m<n->dE y->cU Z j B H' (x::U) ((x,y)::en) w m->Q .Jm H'):B4 K a vs H Q E
def aiK (T:aV K mg a) (XC:XW K a) (KX:mJ K a) (T9:9<=kl):T.d_y.O P w base (kl+1) (B4 K a):=by
 refine fW T.d_y.F al2 [03] [02];obtain @⟨Z,j,B,U,en,w',n,k,C,x,e,u,v,rfl,rfl,rfl,R,i,cl,n1,n2,ex,nx,ws,hk,er,q⟩:=h;have Y:EX (fg (gb P w) P w K mg base ["worker","given"] "give_value" (af s_y) Z.a.f_y Hn A outer s H Z.E) Z.a Z.E:=#[T,XC,KX,hr.mono T9,aA];exact fm (uN Y R (pv 0) [05] [010] (λ_ q=>i.fld R.same cl n1 Go q) (nz (k:=k) Y R (pv 0) [05] [010] (λ_ q=>i.fld R.same cl n2 Go q) ex ws hk er (λy m H' h hm hb R'=>#[B,y,w',m,Go,R',nx,hb,λH2 R2=>q y m H2 h hm hb R2]) Go (eN Go Go)) Go Go (eN Go Go)) Go
inductive t9 (a:bi) (lv:FX) (vs:Fx V) (H:Hp) (Q:VK) (E:XK):Prop
 |mk {Z:Zx}{j:FX}{B:Hp}{U:Fx Fy}{en:HJ}{w:GU}{n k dk:FX}{l:Jy}{v:V}(_:vs=[.ref Z.x,v]) (_:Z.a=a) (_:Z.E=E) (_:Z.d=dk) (_:cU Z j B H U en w n) (_:oV Z.a Z.M Z.N l v) (_:Aj lv U Z.F0 l) (_:3*n+2<=k) (_: ∀c,Ka k Z.S Z.K dk en l w n= .error c->Qe Z c) (_: ∀u m B' H',Ka k Z.S Z.K dk en l w n= .ok (u,m)->m<=n->cU Z 0 B' H' U en u m->Q .Jm H'):t9 a lv vs H Q E
inductive Cy (a:bi) (lv:FX) (vs:Fx V) (H:Hp) (Q:VK) (E:XK):Prop
 |mk {Z:Zx}{B:Hp}{U:Fx Fy}{en:HJ}{w:GU}{n k dk:FX}{st:Hw}{v:V}(_:vs=[.ref Z.x,v]) (_:Z.a=a) (_:Z.E=E) (_:Z.d=dk) (_:cU Z 5 B H U en w n) (_:a9 Z.a Z.M Z.N st v) (_:WT lv U Z.F0 st) (_:3*n+4<=k) (_: ∀c,wa k Z.S Z.K dk en st w n= .error c->Qe Z c) (_: ∀x m B' H',wa k Z.S Z.K dk en st w n= .ok (x,m)->m<=n->cU Z 0 B' H' (bnd U st) x.1 x.2 m->(∀ {U0 en0},E9 Z.S U0 en0 U en->E9 Z.S U0 en0 (bnd U st) x.1)->Q .Jm H'):Cy a lv vs H Q E
def amH (T:aV K mg a) (XC:XW K a) (KX:mJ K a) (T9:9<=kl) (G:T.Xt.O P w base kl (t9 a (lv-1))):T.d_F.O P w base (kl+1) (kt a lv λs=> ∃c x y,s= .cond c x y):=by
 refine xK T XC KX T9 T.d_F.F ahm λHn A outer s H Z B U en w' n k dk sm v Q hr ha hd ho R sa wt hk er q=>?_;intro X D Y;subst ha;obtain⟨ec,l1,l2,rfl⟩:=ho;unfold a9 at sa;obtain⟨u,q1,us,q2,vs,i,ex,h1,h2,h3,h4⟩:=sa;unfold WT at wt;obtain⟨w1,lv1,w2,w3⟩:=wt;generalize Hq:runOne (k+1) Z.S Z.K dk en (.cond ec l1 l2) w' n=res at er q;unfold runOne at Hq;dsimp only at Hq;refine cw (cS qf (nz (k:=k) Y R [09] (λ_ q=>R.wk T q) [010] (λ_ q=>i.fld R.same T.Tn T.Oh Go q) ex w1 (by lia) [012] (λz m H h hm _ R=>cP [013]) Go Go));rw[h] at Hq;dsimp only at Hq;rw[cj,<-decide_not];refine cq (λhz=>?_) λhz=>?_
 .rw[FI hz] at Hq
  exact fm (bN (aP (bA 0 (aP (cr (bA 1 (i.fld R.same T.Tn T.NS Go (cH (.mk (k:=k) Go Go Go hd R #[us,h1,h2] w2 (by lia) (λc h=>er c (Hq.symm.trans h)) λu m' B' H' h QC R'=>q u m' H' (Hq.symm.trans h) (by lia) #[R'])))) Go)))) G hr T.Xt.c aA) Go
 .rw[FF hz] at Hq
  exact fm (bN (aP (bA 0 (aP (cr (bA 1 (i.fld R.same T.Tn T.L0 Go (cH (.mk (k:=k) Go Go Go hd R #[vs,h3,h4] w3 (by lia) (λc h=>er c (Hq.symm.trans h)) λu m' B' H' h QC R'=>q u m' H' (Hq.symm.trans h) (by lia) #[R'])))) Go)))) G hr T.Xt.c aA) Go
end
def stx:Hw->FX
 | .bind .. =>7
 | .loop .. =>8
 | .cond .. =>9
 | .step .. =>10
 | .block .. =>11
def CJ {a:bi}{M:FG->Prop}{H:Hp}(h:a9 a M H s v):Nd1 a M H (stx s) v:=by
 cases s<;>unfold a9 at h
 .obtain⟨_,h,_⟩:=h;exact#[h,Go]
 .obtain⟨_,_,_,_,h,_⟩:=h;exact#[h,Go]
 .obtain⟨_,_,_,_,_,h,_⟩:=h;exact#[h,Go]
 .obtain⟨_,_,_,_,_,h,_⟩:=h;exact#[h,Go]
 .obtain⟨_,_,_,_,h,_⟩:=h;exact#[h,Go]
def amI (T:aV K mg a) (XC:XW K a) (KX:mJ K a) (T9:9<=kl) (G:T.Xt.O P w base kl (t9 a (lv-1))):T.d_z.O P w base (kl+1) (kt a lv λs=> ∃x lo hi l,s= .loop x lo hi l):=by
 refine xK T XC KX T9 T.d_z.F abm λHn A outer s H Z B U en w' n k dk sm v Q hr ha hd ho R sa wt hk er q=>?_;intro X D Y;subst ha;obtain⟨x,lo,hi,l,rfl⟩:=ho;unfold a9 at sa;obtain⟨u1,u2,ql,us,i,a1,a2,h1,h2⟩:=sa;unfold WT at wt;obtain⟨nx,w1,w2,lv1,w3⟩:=wt;generalize Hq:Ju (k+1) Z.S Z.K dk en (.loop x lo hi l) w' n=res at er q;unfold Ju at Hq;dsimp only at Hq;have nd:=abm.nd;refine aO 2 nd (cr (bA 0 (R.wk T ?_)) Go);refine gj (k:=k) 3 2 Y nd R Go Go i T.Qy T.PY Go a1 w1 (by lia) [012] λt n1 H h l1 bt R=>?_;rw[h] at Hq;dsimp only at Hq;refine gj (k:=k) 4 2 Y nd R Go Go i T.Qy T.QU Go a2 w2 (by lia) [012] λlast n2 H h l2 bl R=>?_;rw[h] at Hq;dsimp only at Hq;clear h;refine fZ Jz (λi σ H=> ∃(t:Int) (B:Hp) (w'':GU) (k:FX),σ=[FB (.ref Z.x),FB v,FB (.ref Z.c.wk),FB (.int t),FB (.int last)]/\ -KY<=t/\i<=n/\3*i+3<=k/\cU Z 0 B H U en w'' i/\W4 k Z.S Z.K dk en x t last l w'' i=res) n2 #[t,B,w',k,Go,bt.1,by lia,by lia,R.less (Gn _),Hq] ?_;rintro m σ H3 ⟨t,B,w3',k,rfl,bt,hm,hk,R,Hq⟩;obtain⟨k,rfl⟩: ∃k',k=k'+1:=#[k-1,by lia];unfold W4 at Hq;refine cS dN (bA 3 (bA 4 #[_,_,Go,Go,_,Go,cq (λz=>?_) λz=>?_]))
 .rw[FF (by lia)] at Hq
  refine bB (vk Y R (pv 2) [05] [01] (λh=>er (-13) (by rw[<-Hq,h])) (λm' H' h R'=>?_) (eN Go Go));subst h;dsimp only at Hq;refine bB (uN (j:=4) Y R' (pv 2) [05] [010] (λ_ q=>i.fld R'.same T.Qy T.QT Go q) (bA 3 #[_,t,w3',m',Go,R',nx,#[bt,Int.le_trans z bl.2],λH2 R2=>?_]) Go Go (eN Go Go));refine bB (bN (aP (bA 0 (aP (cr (bA 1 (i.fld R2.same T.Qy T.Nl Go (cH (.mk (k:=k) Go Go Go hd R2 #[us,h1,h2] w3 (by lia) [012] λu m2 B2 H4 h hm2 R4=>?_)))) Go)))) G hr T.Xt.c aA);rw[h] at Hq;dsimp only at Hq;exact aT (lF (i:=3) nd Go (Hs Go) ak lM) #[_,Go,_,_,Go,Go,cg #[m2,by lia,t+1,B2,u,k,Go,by lia,by lia,by lia,R4.unset nx R,Hq]]
 .rw[FI (by lia)] at Hq
  exact cg (q w3' m H3 Hq.symm hm #[R])
def BF {w:GU}(h:stx s≠7):wa k S M d v s w n=(match Ju k S M d v s w n with
  | .error c=> .error c
  | .ok (u,m)=> .ok ((v,u),m))/\ ∀U,bnd U s=U:=by
 cases s<;>first|exact F6 Go h|exact#[Go,λ_=>rfl]
def aiL (T:aV K mg a) (XC:XW K a) (KX:mJ K a) (T9:11<=kl)
  (G1:T.d_z.O P w base kl (kt a lv λs=> ∃x lo hi l,s= .loop x lo hi l))
  (G2:T.d_F.O P w base kl (kt a lv λs=> ∃c x y,s= .cond c x y)):
  T.d_Y.O P w base (kl+1) (Cy a lv):=by
 refine okL T.d_Y.F al3 [03] [02];intro X D;obtain @⟨Z,B,U,en,w',n,k,dk,st,v,rfl,rfl,rfl,hd,R,sa,wt,hk,er,q⟩:=h;have nd:=CJ sa;have one: ∀ {ok:Hw->Prop},ok st->stx st≠7->kt Z.a lv ok [.ref Z.x,v] H (λ_ H'=>Q .Jm H') Z.E:=λho h7=>by
  obtain⟨e1,e2⟩:=BF (k:=k) (S:=Z.S) (M:=Z.K) (d:=dk) (v:=en) (w:=w') (n:=n) h7;refine .mk (k:=k) Go Go Go hd ho R sa wt hk (λc h=>er c (by rw[e1,h])) λu m H' h hm ⟨R'⟩=>q (en,u) m _ H' (by rw[e1,h]) hm (by rw[e2];exact R') λx=>by rw[e2];exact x
 have is: ∀ {cl:Gf}{C:FG}{A' UD:Fx Stmt}{p1 p2 p3 p4 p5:Pos}(j:FX),mg cl=FB (.ref C)->(yM Z.a)[j]?=FB C->Gl X cl->(cl == [003])=Gc->(stx st=j->Bd X A' D [FB (.ref Z.x),FB v] H)->(stx st≠j->Bd X UD D [FB (.ref Z.x),FB v] H)->Bd X [.If (.Call (.Name "isinstance" p1) [.Name "statement" p2, .Name cl p3] [] p4) A' UD p5] D [FB (.ref Z.x),FB v] H:=λj hm hj hg hx yes no=>cw (uU KX T.LP nd R.same hj hm (pv 1) [05] (cq yes no) (by rfl) hg hx)
 refine is 7 T.Ur Go Go [01] (λz=>?_) λz7=>?_
 .cases st<;>first|cases z|skip
  rename_i x e;unfold a9 at sa;obtain⟨u,i,ex⟩:=sa;unfold WT at wt;refine fm (bN (aP (cr (bA 0 (R.wk T (aP (bA 1 (cH (.mk (k:=k) (j:=4) Go Go Go R i T.Ss T.OD T.Rm ex wt.1 wt.2 (by lia) (λc h=>er c (by unfold wa;dsimp only;rw[h])) λy m H' h hm hb R'=>?_)))))) Go)) (aiK T XC KX (F5 9)) [017] T.d_y.c aA) Go;exact q ((x,y)::en,w') m _ H' (by unfold wa;dsimp only;rw[h]) (by lia) (R'.less (Gn _)) λX=>cU.ext X R wt.1
 refine is 8 T.Wq Go Go [01] (λz=>?_) λz8=>?_
 .exact fm (bN (aP (bA 0 (aP (bA 1 (cH (one (by cases st<;>first|exact#[_,_,_,_,Go]|cases z) z7)))))) G1 hr T.d_z.c aA) Go
 refine is 9 T.Yv Go Go [01] (λz=>?_) λz9=>?_
 .exact fm (bN (aP (bA 0 (aP (bA 1 (cH (one (by cases st<;>first|exact#[_,_,_,Go]|cases z) z7)))))) G2 hr T.d_F.c aA) Go
 refine is 10 T.U1 Go Go [01] (λz=>?_) λz10=>?_
 .exact fm (bN (aP (bA 0 (aP (bA 1 (cH (one (by cases st<;>first|exact#[_,_,_,_,_,_,Go]|cases z) z7)))))) (aiF T XC KX (F5 9)) [017] T.aai.c aA) Go
 exact fm (bN (aP (bA 0 (aP (bA 1 (cH (one (by cases st<;>first|exact#[_,_,_,_,_,_,_,_,Go]|exact F6 Go z7|exact F6 Go z8|exact F6 Go z9|exact F6 Go z10) z7)))))) (aiJ T XC KX (F5 10)) (hr.mono T9) T.aaj.c aA) Go
def aiM (T:aV K mg a) (XC:XW K a) (KX:mJ K a) (T9:9<=kl) (G:T.d_Y.O P w base kl (Cy a lv)):
  T.Xt.O P w base (kl+1) (t9 a lv):=by
 refine okL T.Xt.F ahl [03] [02];intro X D;obtain @⟨Z,j,B,U,en,w',n,k,dk,l,v,rfl,rfl,rfl,hd,R,⟨us,⟨L,rfl,_,hL⟩,sa⟩,wt,hk,er,q⟩:=h;have Y:EX X Z.a Z.E:=#[T,XC,KX,hr.mono T9,aA];generalize Hq:Ka k Z.S Z.K dk en l w' n=res at er q;refine ki 2 Jz ahl.nd (pv 1) [05] (λi σ H=> ∃(U':Fx Fy) (UH:HJ) (B:Hp) (w'':GU) (n' k':FX) (r:Jy) (y:FP V),σ=[FB (.ref Z.x),FB (.ref L),y]/\E9 Z.S U en U' UH/\cU Z 0 B H U' UH w'' n'/\bD Z.a Z.M Z.N r (us.drop i)/\Aj lv U' Z.F0 r/\3*n'+2<=k'/\n'<=n/\Ka k' Z.S Z.K dk UH r w'' n'=res) #[U,en,B,w',n,k,l,_,Go, .refl,R.less (Gn _),sa,wt,hk,F5 n,Hq] (λi σ H _ ⟨_,_,_,_,_,_,_,_,_,_,R,_⟩=>R.same _ _ hL) ?_ ?_
 .rintro i v σ H2 hi ⟨U',UH,B,w2,n2,k2,r,y,rfl,xt,R,sa,wt,hk,hn,Hq⟩
  obtain⟨lt,hv⟩:=GG.mp hi;rw[HL lt,hv] at sa;cases r with
  |nil=>unfold bD at sa;cases sa
  |cons st r=>
  unfold bD at sa;obtain⟨u,vs,e,s1,s2⟩:=sa;cases e;unfold Aj at wt;obtain⟨k,rfl⟩: ∃k',k2=k'+1:=#[k2-1,by lia];refine bB (vk Y R [09] (λ_ q=>R.wk T q) [01] (λh=>er (-13) (by rw[<-Hq,h];unfold Ka;rfl)) (λm' H' h R'=>?_) Go);subst h;rw[B7] at Hq;refine bB (bN (aP (bA 0 (aP (bA 2 (cH (.mk (k:=k) Go Go Go hd R' s1 wt.1 (by lia) [012] λx m B' H' h hm R2 xt'=>?_)))))) G hr T.d_Y.c aA);rw[h] at Hq;exact gh #[_,x.1,B',x.2,m,k,r,_,Go,xt' xt,R2,s2,wt.2,by lia,by lia,Hq]
 .rintro σ H2 ⟨U',UH,B,w2,n2,k2,r,y,rfl,xt,R,sa,wt,hk,hn,Hq⟩
  rw[KC (F5 _)] at sa;cases r with
  |cons st r=>unfold bD at sa;obtain⟨_,_,e,_⟩:=sa;cases e
  |nil=>
  obtain⟨k,rfl⟩: ∃k',k2=k'+1:=#[k2-1,by lia];unfold Ka at Hq;exact cg (q w2 n2 B H2 Hq.symm hn (R.back xt))
theorem BH (T:aV K mg a) (XC:XW K a) (KX:mJ K a): ∀lv,T.Xt.O P w base (13+3*lv) (t9 a lv)
 |0=>aiM T XC KX (by decide) (aiL T XC KX (F5 11)
   (fW T.d_z.F abm (λvs H Q E h=>by obtain⟨rfl,_⟩:=h;rfl) λHn A outer s H vs Q E hr h=>by
    obtain⟨_,_,_,_,⟨x,lo,hi,l,rfl⟩,_,_,wt,_⟩:=h;unfold WT at wt;exact F6 wt.2.2.2.1 [01])
   (fW T.d_F.F ahm (λvs H Q E h=>by obtain⟨rfl,_⟩:=h;rfl) λHn A outer s H vs Q E hr h=>by
    obtain⟨_,_,_,_,⟨c,x,y,rfl⟩,_,_,wt,_⟩:=h;unfold WT at wt;exact F6 wt.2.1 [01]))
 |lv+1=>by
  have G:=BH T XC KX lv
  have:=aiM T XC KX (by lia) (aiL T XC KX (by lia) (amI (lv:=lv+1) T XC KX (by lia) G) (amH (lv:=lv+1) T XC KX (by lia) G));exact this.mono (by lia)
section
open Vbemac (ev runAll DOWN)
def AJ (M:KJ) (t:HI) (d:FX) (S:IC) (l:Fx GC) (n:FX):Vbemac.Res (FX×IC×Fx GC):=match t with
 | .const x e=>(match n with
  |0=> .error (-13)
  |n+1=>match ev DOWN S S.consts e n with
   | .error c=> .error c
   | .ok (a,m)=> .ok ((d,{ S with consts:=(x,a)::S.consts },l),m))
 | .func x ps e=> .ok ((d,{ S with funs:=(x,ps,e)::S.funs },l),n)
 | .desk _ b=>match runAll DOWN S M d S.consts b ⟨l,[]⟩ n with
  | .error c=> .error c
  | .ok (w,m)=> .ok ((d+1,S,w.orders),m)
def yq {d n:FX} :Nz M (t::r) d S l n=(match AJ M t d S l n with
  | .error c=> .error c
  | .ok (x,m)=>Nz M r x.1 x.2.1 x.2.2 m):=by
 conv=>lhs;unfold Nz
 unfold AJ;cases t with
 |const x e=>
  cases n with
  |zero=>rfl
  |succ n=>dsimp only;cases ev DOWN S S.consts e n<;>rfl
 |func x ps e=>rfl
 |desk x b=>dsimp only;cases runAll DOWN S M d S.consts b #[l,[]] n<;>rfl
def aiN {s:fo} :look [s] x=s x:=by
 show(match s x with|some a=>FB a|none=>s x)=s x
 cases s x<;>rfl
abbrev Zx.to (Z:Zx) (S:IC) (F:Fx (Fy×FX)) (d:Int):Zx:= { Z with S:=S,F0:=F,d:=d }
def zt {Z:Zx}{j n:FX}{B H:Hp}{U:Fx Fy}{w:GU}(R:cU Z j B H (x::U) ((x,y)::Z.S.consts) w n) (lo: ∀z∈Z.S.consts.map (·.1),z∈U):cU (Z.to { Z.S with consts:=(x,y)::Z.S.consts } Z.F0 Z.d) j B H (x::U) ((x,y)::Z.S.consts) w n:=by
 obtain @⟨r,b,ff,d,s,nd,kk,os,FO,W,A,gs,eb,hj⟩:=R;have sub: ∀z∈(((x,y)::Z.S.consts).map λa:Fy×Int=>a.1),z∈x::U:=λz hz=>by
  rcases FU.mp hz with h|h
  .rw[h];exact FL
  .exact FK _ (lo z h)
 refine#[#[λf p hf=>?_,A.big],W,#[A.val,λz hz=>?_,λ_=>sub,A.big],gs,#[eb.sm,eb.hx,eb.hm,eb.ho,eb.hn,eb.nx,eb.po,eb.le,eb.pn,eb.ln,eb.nl,eb.q4],hj]
 .rcases FO.all f p hf with⟨g,h1,h2,⟨Kg,Fg,h3,h4,h5⟩,h6,h7⟩|h
  .exact .inl #[g,h1,h2,#[Kg,Fg,h3,λz hz=>FK _ (h4 z hz),h5],h6,h7]
  .exact .inr h
 .have:=A.val z (sub z hz)
  rw[aiN] at this;exact this
def gL {α:Type}{F:Fx (Fy×α)}{x f:Fy}{y:α} :(((x,y)::F).find? λh=>h.1 == f)=if x=f then FB (x,y) else F.find? λh=>h.1 == f:=by
 rw[HC];by_cases h:x=f
 .rw[FI h,show((x,y).1 == f)=FS from beq_iff_eq.mpr h]
 .rw[FF h,show((x,y).1 == f)=Gc from beq_eq_false_iff_ne.mpr h]
def yt {S:IC}{F:Fx (Fy×FX)}{x:Fy}{ps:Fx Fy}{e:FN}{U:Fx Fy}(FO:gF S F) (nx: ∀g∈F,g.1≠x) (nd:ps.Nodup) (l6:ps.length<=6) (ws:WS (ps++U) F e) (vc: ∀z∈U,z∈S.consts.map (·.1)):gF { S with funs:=(x,ps,e)::S.funs } ((x,ps.length)::F):=by
 have sub:Sub F ((x,ps.length)::F):=λf p h=>by
  rw[gL,FF λz=>nx p (K8 h) (by have:=RE h;rw[z];exact beq_iff_eq.mp this)];exact h
 refine#[λf p hf=>?_,FO.aii];rw[gL] at hf;by_cases h:x=f
 .rw[FI h] at hf
  cases hf;exact .inl #[(x,ps,e),by show Fx.find? _ ((x,ps,e)::S.funs)=_;rw[gL,FI h],Go,#[U,F,ws,vc,sub],nd,l6]
 .rw[FF h] at hf
  have e1:(((x,ps,e)::S.funs).find? λh=>h.1 == f)=S.funs.find? λh=>h.1 == f:=by rw[gL,FF h]
  rcases FO.all f p hf with⟨g,h1,h2,⟨Kg,Fg,h3,h4,h5⟩,h6,h7⟩|⟨h1,h2⟩
  .exact .inl #[g,e1.trans h1,h2,#[Kg,Fg,h3,h4,λf p h=>sub f p (h5 f p h)],h6,h7]
  .exact .inr #[e1.trans h1,h2]
section
variable {B H:Hp}{w:GU}
def EB.aiO {nd V1:FG}{kk kk':Fx (be×V)}{os:Fx V}{w':GU}{d':Int}(eb:EB Z B w nd kk os) (hn:aI B Z.x (.ins Z.a.GV Z.dx (xF Z.m Z.c.wk Z.ol d' V1)) V1=FB (.dK kk')) (hN:Z.N V1=FM) (ho:w'.orders=w.orders) (pn: ∀u,bQ kk' (nk u)=(w'.names.find? λa=>a.1 == u).map λa=>V.int (a.2:FX)) (ln:kk'.length<=w'.names.length) (nl:w'.names.length<=w'.orders.length):EB (Z.to Z.S Z.F0 d') (aI B Z.x (.ins Z.a.GV Z.dx (xF Z.m Z.c.wk Z.ol d' V1))) w' V1 kk' os:=by
 have ne: ∀ {b:FG}{u:HO},B b=FB u->(∀C d fs,fs.length=5->u≠ .ins C d fs)->aI B Z.x (.ins Z.a.GV Z.dx (xF Z.m Z.c.wk Z.ol d' V1)) b=FB u:=λe n=>by rw[ac (qp e eb.hx (n _ _ _ Go))];exact e
 have n7: ∀C d fs,fs.length=7->B Z.x≠FB (.ins C d fs):=λC d fs hl z=>by
  rw[eb.hx] at z;have:=GO O2 (HO.ins.inj (F4 z)).2.2;rw[hl] at this;cases this
 refine#[λb u e=>by rw[ac λz=>by rw[z,eb.nx.1] at e;cases e];exact eb.sm b u e,ae,ne eb.hm λC d fs hl z=>?_,ne eb.ho nofun,hn,#[eb.nx.1,eb.nx.2.1,hN],by rw[ho];exact d9 eb.po λv x z=>ow z n7 (.inr λ_ z=>by rw[eb.hx] at z;cases z),by rw[ho];exact eb.le,pn,ln,nl,eb.q4]
 .have:=GO O2 (HO.ins.inj z).2.2
  rw[hl] at this;cases this
def cU.desk (R:cU Z j B H U en w n): ∃nd,H Z.x=FB (.ins Z.a.GV Z.dx (xF Z.m Z.c.wk Z.ol Z.d nd))/\ ∀d',cU (Z.to Z.S Z.F0 d') j (aI B Z.x (.ins Z.a.GV Z.dx (xF Z.m Z.c.wk Z.ol d' nd))) (aI H Z.x (.ins Z.a.GV Z.dx (xF Z.m Z.c.wk Z.ol d' nd))) U en w n:=by
 obtain @⟨r,b,ff,d,s,nd,kk,os,FO,W,A,gs,eb,hj⟩:=R;refine#[nd,W.O.same _ _ eb.hx,λd'=>cU.put (Z:=Z.to Z.S Z.F0 d') FO W A gs hj eb.hx eb.nx.1 (eb.aiO (by rw[ac (qp eb.hn eb.hx nofun)];exact eb.hn) eb.nx.2.2 Go eb.pn eb.ln eb.nl)]
def cU.reset (R:cU Z j B H U en w n) (h:H p=FM): ∃nd,aI H p (.dK []) Z.x=FB (.ins Z.a.GV Z.dx (xF Z.m Z.c.wk Z.ol Z.d nd))/\ ∃B',cU Z j B' (aI (aI H p (.dK [])) Z.x (.ins Z.a.GV Z.dx (xF Z.m Z.c.wk Z.ol Z.d p))) U en #[w.orders,[]] n:=by
 obtain⟨hB,hN,_⟩:=R.fresh h;have R:=R.new (o:= .dK []) (bH h) h ae;obtain @⟨r,b,ff,d,s,nd,kk,os,FO,W,A,gs,eb,hj⟩:=R;exact#[nd,W.O.same _ _ eb.hx,_,cU.put FO W A gs hj eb.hx eb.nx.1 (eb.aiO (Z:=Z) (d':=Z.d) (w':=#[w.orders,[]]) (kk':=[]) (by rw[ac (qp ae eb.hx nofun),ae]) hN Go (λ_=>rfl) (Gn _) (Gn _))]
end
def tpx:HI->FX
 | .const .. =>12
 | .func .. =>13
 | .desk .. =>14
def D4 {a:bi}{M:FG->Prop}{H:Hp} : ∀ {t:HI}{v:V},fb a M H t v->Nd1 a M H (tpx t) v
 | .const ..,_,⟨_,h,_⟩=>#[h,Go]
 | .func ..,_,⟨_,_,h,_⟩=>#[h,Go]
 | .desk ..,_,⟨_,_,h,_⟩=>#[h,Go]
inductive TS (Z:Zx) (H:Hp) (U:Fx Fy) (l:Fx GC) (n d:FX) (r:JK):Prop
 |mk (B:Hp) (nm:Fx (Fy×FX)) (_:cU Z 0 B H U Z.S.consts ⟨l,nm⟩ n) (_: ∀z∈U,z∈Z.S.consts.map (·.1)) (_:Z.d+1=d) (_:Z.S.funs.length<=Z.F0.length) (_:wN U Z.F0 r):TS Z H U l n d r
inductive Y8 (a:bi) (vs:Fx V) (H:Hp) (Q:VK) (E:XK):Prop
 |mk {Z:Zx}{U:Fx Fy}{l:Fx GC}{n d:FX}{t:HI}{r:JK}{v:V}(_:vs=[.ref Z.x,v]) (_:Z.a=a) (_:Z.E=E) (_:TS Z H U l n d (t::r)) (_:n<=10000) (_:fb Z.a Z.M Z.N t v) (_: ∀c,AJ Z.K t d Z.S l n= .error c->Qe Z c) (_: ∀x m H' U' F',AJ Z.K t d Z.S l n= .ok (x,m)->m<=n->TS (Z.to x.2.1 F' ((x.1:Int)-1)) H' U' x.2.2 m x.1 r->Q .Jm H'):Y8 a vs H Q E
def aiP (T:aV K mg a) (XC:XW K a) (KX:mJ K a):T.aag.O P w base 32 (Y8 a):=by
 refine okL T.aag.F ahk [03] [02];intro X D;obtain @⟨Z,U,l,n,d,t,r,v,rfl,rfl,rfl,⟨B,nm,R,vc,hd,fl,wt⟩,hn,ta,er,q⟩:=h;have Y:EX X Z.a Z.E:=#[T,XC,KX,hr.mono [01],aA];have nd:=D4 ta;have is: ∀ {cl:Gf}{C:FG}{A' UD:Fx Stmt}{p1 p2 p3 p4 p5:Pos}(j:FX),mg cl=FB (.ref C)->(yM Z.a)[j]?=FB C->Gl X cl->(cl == [003])=Gc->(tpx t=j->Bd X A' D [FB (.ref Z.x),FB v] H)->(tpx t≠j->Bd X UD D [FB (.ref Z.x),FB v] H)->Bd X [.If (.Call (.Name "isinstance" p1) [.Name "top" p2, .Name cl p3] [] p4) A' UD p5] D [FB (.ref Z.x),FB v] H:=λj hm hj hg hx yes no=>cw (uU KX T.LP nd R.same hj hm (pv 1) [05] (cq yes no) (by rfl) hg hx)
 generalize Hq:AJ Z.K t d Z.S l n=res at er q;refine is 12 T.Th Go Go [01] (λz=>?_) λz12=>?_
 .cases t<;>first|cases z|skip
  rename_i x e;obtain⟨u,i,ex⟩:=ta;unfold wN at wt;obtain⟨nx,ws,wr⟩:=wt;unfold AJ at Hq;dsimp only at Hq;refine bB (vk Y R [09] (λ_ q=>R.wk T q) [01] (λh=>er (-13) (by rw[<-Hq,h])) (λm H1 h R1=>?_) Go);subst h;dsimp only at Hq;refine fm (bN (aP (cr (bA 0 (R1.wk T (aP (bA 1 (cH (.mk (k:=DOWN) (j:=4) Go Go Go R1 i T.Rn T.Pd T.P1 ex nx ws (by show 3*m+1<=34000;lia) [012] λy m' H' h hm hb R'=>?_)))))) Go)) (aiK T XC KX (F5 9)) [06] T.d_y.c aA) Go;rw[h] at Hq;have lo: ∀z∈Z.S.consts.map (·.1),z∈U:=by obtain⟨_,_,A,_,_,_⟩:=R;exact A.low Go
  have e1:((d:Int)-1)=Z.d:=by lia
  refine q (d,_,l) m' H' (x::U) Z.F0 Hq.symm (by lia) #[B,nm,?_,λz hz=>?_,?_,fl,wr]
  .show cU (Z.to _ Z.F0 ((d:Int)-1)) 0 B H' _ _ _ m'
   rw[e1];exact(zt R' lo).less (Gn _)
  .rcases FU.mp hz with h|h
   .rw[h];exact FL
   .exact FK _ (vc z h)
  .show(d:Int)-1+1=d;lia
 refine is 13 T.Ws Go Go [01] (λz=>?_) λz13=>?_
 .cases t<;>first|cases z|skip
  rename_i x ps e;have ta':=ta;obtain⟨ql,u,i,_⟩:=ta;unfold wN at wt;obtain⟨f8,nx,V1,l6,ws,wr⟩:=wt;unfold AJ at Hq;have wk: ∀ {Q:VK},Q (.ref Z.c.wk) H->cQ K "worker" Q (.ref Z.x) H:=λq=>R.wk (X:=X) T q
  have sm:=R.same;obtain @⟨r',b,ff,sd,sco,nn,kk,os,FO,W,A,gs,eb,hj⟩:=R
  have e1:((d:Int)-1)=Z.d:=by lia
  refine eE (ie (dv hr) (ai [09] Go) [010] (pv 1) Go) (wk (W.fld T T.K6 Go (i.fld sm T.Rp T.QV Go #[Z.c.fa,_,Go,uc.k (k:=nk x) (W.O.get 3 Go) (by rw[IE];have:=W.fn.1;lia),?_])));refine q (d,_,l) n _ U ((x,ps.length)::Z.F0) Hq.symm (F5 n) #[B,nm,?_,vc,?_,Ic fl,wr]
  .show cU (Z.to _ _ ((d:Int)-1)) 0 B _ _ _ _ n
   rw[e1];refine#[yt FO nx V1 l6 ws vc,#[W.O.put (L1:=[_,_,_]),#[F7 (cG _ _ _) (Ic W.fn.1),λf=>?_],W.sq, .nil,W.bn],#[A.val,A.bot,A.low,A.big],gs,#[eb.sm,eb.hx,eb.hm,eb.ho,eb.hn,eb.nx,eb.po,eb.le,eb.pn,eb.ln,eb.nl,eb.q4],hj];rw[gL,gX];by_cases hf:x=f
   .rw[FI hf,FI (by rw[hf])]
    exact#[v,Go,fb.Iv (λb o e m=>#[m,eb.sm b o e]) _ ta']
   .rw[FF hf,FF λz=>hf (eD (J1 z)).symm]
    exact W.fn.2 f
  .show(d:Int)-1+1=d;lia
 .cases t<;>first|exact F6 Go z12|exact F6 Go z13|skip
  rename_i x b;obtain⟨ql,us,i,h1,h2⟩:=ta;unfold wN at wt;unfold AJ at Hq;dsimp only at Hq;refine is 14 T.U2 Go Go [01] (λ_=>?_) λz=>F6 Go z;obtain⟨nn,hx,R1⟩:=R.desk;have R1:=R1 d;refine aT (gU (pv 0) ak ox) #[Z.x,_,Z.dx,_,_,Go,hx,T.Ih,T.LO,Go,_,_,Go,Go,Z.dx,_,hx,(by show 5<1000;decide),?_];rw[hd];refine aT (b5 (pv 0) fh Go) λV1 YE=>?_;obtain⟨nn',hx',B',R2⟩:=R1.reset YE;refine#[Z.x,_,Z.dx,_,Go,hx',T.Ih,T.Kw,(by show 5<1000;decide),?_];refine fm (bN (aP (bA 0 (aP (cr (bA 1 (i.fld R2.same T.Sv T.MX Go (cH (.mk (Z:=Z.to Z.S Z.F0 d) (k:=DOWN) Go Go Go Go R2 #[us,h1,h2] wt.1 (by show 3*n+2<=34000;lia) [012] λu m B2 H2 h hm R3=>?_)))) Go)))) (BH T XC KX 6) hr T.Xt.c aA) Go;rw[h] at Hq;refine q (d+1,Z.S,u.orders) m H2 U Z.F0 Hq.symm hm #[B2,u.names,?_,vc,?_,fl,wt.2]
  .show cU (Z.to _ _ (((d+1:FX):Int)-1)) 0 B2 _ _ _ _ m
   rw[show(((d+1:FX):Int)-1)=d by lia];exact R3
  .show((d+1:FX):Int)-1+1=_;lia
end
section
variable {B N H H':Hp}
def Ow.UI (O:Ow B (c::L) H) (h:H p=FM):Ow B (c::(p,o)::L) (aI H p o):=
 (O.adds (N:=[(p,o)]) (bH h) (λx hx=>by rw[Ga.mp hx];exact#[h,ae]) (GJ.mpr #[nofun, .nil])).perm (.swap _ _ _)
def Ow.toB (O:Ow B (c::L) H):Ow (aI B c.1 c.2) L H:=by
 have h0:=O.at_ c FL;obtain⟨n1,n2⟩:=GJ.mp O.nd;refine#[λb u e=>?_,λx hx=>#[(O.at_ x (FK _ hx)).1,?_],n2]
 .by_cases hb:b=c.1
  .rw[hb,ae] at e;rw[hb,<-e];exact h0.1
  .rw[ac hb] at e;exact O.same b u e
 .rw[ac λz=>n1 (by show c.1∈_;rw[<-z];exact Lj (f:=λx:lU=>x.1) hx)]
  exact(O.at_ x (FK _ hx)).2
end
abbrev wk0 (a:bi) (c:pJ) (sd:FG):Fx lU:=wkL a c 10000 (.int 0) [] [(sd,[])] []
inductive Y9 (a:bi) (vs:Fx V) (H:Hp) (Q:VK) (_E:XK):Prop
 |mk {N:Hp}{L:Fx lU}{p dx:FG}(_:vs=[.ref p]) (_:Ow N ((p, .ins a.HY dx [])::L) H) (_: ∀fa sd sl tl H',Ow N (wk0 a ⟨p,dx,fa,sl,tl,0⟩ sd++L) H'->Q .Jm H'):Y9 a vs H Q _E
def nJ (T:aV K mg a):T.aaa.U P w mg base 1 (Y9 a):=by
 refine T.aaa.F.ok ag4 [03] [02];obtain @⟨N,L,p,dx,rfl,O,q⟩:=h;refine aT (b5 (pv 0) ak Go) #[p,_,dx,_,Go,O.get 0 Go,T.II,T.Mw,(by show 0<1000;decide),?_];have O:=O.put (L1:=[]) (o':= .ins a.HY dx (ID "taken" (.int 0) []));refine aT (b5 (pv 0) fh Go) λfa hfa=>#[p,_,dx,_,Go,(O.UI (c:=(_,_)) hfa).get 0 Go,T.II,T.K6,(by show 1<1000;decide),?_];have O:=(O.UI (c:=(_,_)) (o:= .dK []) hfa).put (L1:=[]) (o':= .ins a.HY dx (ID "functions" (.ref fa) (ID "taken" (.int 0) [])));refine aT (b5 (pv 0) (iQ (aa fh ag)) Go) λsd hsd=>#[by show 1<=GD;decide,λsl hsl=>?_];have O:=(O.UI (c:=(_,_)) (o:= .dK []) hsd).UI (c:=(_,_)) (o:= .lst [.ref sd]) hsl;refine#[p,_,dx,_,Go,O.get 0 Go,T.II,T.Kh,(by show 2<1000;decide),?_];have O:=O.put (L1:=[]) (o':= .ins a.HY dx (ID "scopes" (.ref sl) (ID "functions" (.ref fa) (ID "taken" (.int 0) []))));refine aT (b5 (pv 0) (iQ ag) Go) #[Gn _,λtl htl=>?_];have O:=O.UI (c:=(_,_)) (o:= .lst []) htl;refine#[p,_,dx,_,Go,O.get 0 Go,T.II,T.Jn,(by show 3<1000;decide),?_];have O:=O.put (L1:=[]) (o':= .ins a.HY dx (ID "tasks" (.ref tl) (ID "scopes" (.ref sl) (ID "functions" (.ref fa) (ID "taken" (.int 0) [])))));refine eE (b5 (pv 0) ak Go) #[p,_,dx,_,Go,O.get 0 Go,T.II,T.Ma,(by show 4<1000;decide),q fa sd sl tl _ ?_];have O:=O.put (L1:=[]) (o':= .ins a.HY dx (ID "result" (.int 0) (ID "tasks" (.ref tl) (ID "scopes" (.ref sl) (ID "functions" (.ref fa) (ID "taken" (.int 0) []))))));exact O.perm (.cons _ (.cons _ (.cons _ (.swap _ _ _))))
inductive Za (a:bi) (vs:Fx V) (H:Hp) (Q:VK) (_E:XK):Prop
 |mk {N:Hp}{L:Fx lU}{p dx m:FG}(_:vs=[.ref p, .ref m]) (_:Ow N ((p, .ins a.GV dx [])::L) H) (_: ∀c sd ol nd H',Ow N ((p, .ins a.GV dx (xF m c.wk ol (-1) nd))::(nd, .dK [])::(ol, .lst [])::(wk0 a c sd++L)) H'->Q .Jm H'):Za a vs H Q _E
def kC (T:aV K mg a):T.aaf.U P w mg base 3 (Za a):=by
 refine T.aaf.F.ok ahj [03] [02];obtain @⟨N,L,p,dx,m,rfl,O,q⟩:=h;refine aT (b5 (pv 0) (pv 1) Go) #[p,_,dx,_,Go,O.get 0 Go,T.Ih,T.MK,(by show 0<1000;decide),?_];have O:=O.put (L1:=[]) (o':= .ins a.GV dx (ID "market" (.ref m) []));refine aT (b5 (pv 0) (BL T.Vw (nJ T) hr (by rfl) T.Vr T.aaa.c.b .nil aR) Go) λx dw hx hdw ne=>?_;have O:=O.adds (N:=[(x, .ins a.HY dw [])]) (H':=aI (aI (aI H p (.ins a.GV dx (ID "market" (.ref m) []))) dw (.own x)) x (.ins a.HY dw [])) (λb o e=>by rw[ac (aj e hx),ac (aj e hdw)];exact e) (λy hy=>by rw[Ga.mp hy];exact#[hx,ae]) (GJ.mpr #[nofun, .nil]);refine .mk Go O λfa sd sl tl H2 O=>#[Go,?_];have O:=O.perm (WW (l₁:=wk0 a #[x,dw,fa,sl,tl,0] sd));refine#[p,_,dx,_,Go,O.get 0 Go,T.Ih,T.ML,(by show 1<1000;decide),?_];have O:=O.put (L1:=[]) (o':= .ins a.GV dx (ID "worker" (.ref x) (ID "market" (.ref m) [])));refine aT (b5 (pv 0) (iQ ag) Go) #[Gn _,λol hol=>?_];have O:=O.UI (c:=(_,_)) (o:= .lst []) hol;refine#[p,_,dx,_,Go,O.get 0 Go,T.Ih,T.Ke,(by show 2<1000;decide),?_];have O:=O.put (L1:=[]) (o':= .ins a.GV dx (ID "orders" (.ref ol) (ID "worker" (.ref x) (ID "market" (.ref m) []))));refine aT (b5 (pv 0) (dH cE ak) Go) #[_,Go,p,_,dx,_,Go,O.get 0 Go,T.Ih,T.LO,(by show 3<1000;decide),?_];have O:=O.put (L1:=[]) (o':= .ins a.GV dx (ID "desk" (.int (-1)) (ID "orders" (.ref ol) (ID "worker" (.ref x) (ID "market" (.ref m) [])))));refine eE (b5 (pv 0) fh Go) λnd DR=>?_;have O:=O.UI (c:=(_,_)) (o:= .dK []) DR;refine#[p,_,dx,_,Go,O.get 0 Go,T.Ih,T.Kw,(by show 4<1000;decide),q #[x,dw,fa,sl,tl,0] sd ol nd _ ?_];exact O.put (L1:=[]) (o':= .ins a.GV dx (ID "named" (.ref nd) (ID "desk" (.int (-1)) (ID "orders" (.ref ol) (ID "worker" (.ref x) (ID "market" (.ref m) []))))))
def abQ:gF #[[],[]] LR:=#[λf p h=> .inr #[Go,h],λx=>by unfold RF;exact#[by show-KY<=0;decide,by show 0<=KY;decide]]
def Eb:Ag #[[],[]] [] [] [λ_=>FM]:=#[nofun,nofun,(λ_ x h=>by cases h),λx=>by unfold RF;exact#[by show-KY<=0;decide,by show 0<=KY;decide]]
def dk1:HI->FX
 | .desk .. =>1
 |_=>0
def Fc:JM (t::r)=dk1 t+JM r:=by
 unfold JM;cases t with
 |desk x b=>show _+1=_;rw[Lc];rfl
 |const x e=>exact(Ld _).symm
 |func x p e=>exact(Ld _).symm
def aiQ (h:AJ M t d S l n= .ok (x,m)):x.1=d+dk1 t:=by
 unfold AJ at h;cases t with
 |func y p e=>cases h;rfl
 |const y e=>
  dsimp only at h;split at h
  .cases h
  .split at h
   .cases h
   .cases h;rfl
 |desk y b=>
  dsimp only at h;split at h
  .cases h
  .cases h;rfl
inductive BQ (a:bi) (vs:Fx V) (H:Hp) (Q:VK) (E:XK):Prop
 |mk {m dm l:FG}{us:Fx V}{ss:JK}{G:KJ}(_:vs=[.ref m, .ref l]) (_:H m=FB (.ins a.Ky dm (mF G))) (_:G.quarters<=4) (_:H l=FB (.lst us)) (_:Paired (λs v=>fb a (λp=>H p=FM) H s v) ss us) (_:wN [] LR ss) (_: ∀c,M0 G ss= .error c-> ∀H',aU H H'->pw a E H' c) (_: ∀Z H' U o n,M0 G ss= .ok (o,n)->Z.a=a->Z.N=H->TS Z H' U o n (JM ss) []->Q (.ref Z.x) H'):BQ a vs H Q E
def amJ (T:aV K mg a) (XC:XW K a) (KX:mJ K a):T.d_X.O P w base 33 (BQ a):=by
 refine okL T.d_X.F abl [03] [02];intro X D;obtain @⟨m,dm,l,us,ss,G,rfl,hm,q4,hl,tl,wt,er,q⟩:=h;refine aT (cN (i:=2) abl.nd Go (.inl Go) (h9 T.Sy (kC T) [06] (by rfl) T.Sq T.aaf.c.b .nil aR (aa (pv 0) ag))) λx dx hx VA ne=>?_;have O:Ow H [(x, .ins a.GV dx [])] (aI (aI H dx (.own x)) x (.ins a.GV dx [])):=#[λb o e=>by rw[ac (aj e hx),ac (aj e VA)];exact e,λy hy=>by rw[Ga.mp hy];exact#[ae,hx],GJ.mpr #[nofun, .nil]];refine .mk Go O λc sd ol nd H1 O=>#[Go,?_];have nn: ∀ {c:lU},c∈_->H c.1=FM:=λh=>(O.at_ _ h).2
 have n1:=(O.at_ _ (FL)).2
 have n2:=(O.at_ _ (FK _ FL)).2
 have n3:=(O.at_ _ (FK _ (FK _ FL))).2
 have V1:=O.nd
 have O1:=O.toB.toB.toB;rw[Hj] at O1
 let Z:Zx:=#[a,E,x,dx,m,dm,ol,c,H,G,#[[],[]],LR,-1]
 have T0:TS Z H1 [] [] 10000 0 ss:=by
  obtain⟨m1,nd2⟩:=GJ.mp V1;obtain⟨m2,_⟩:=GJ.mp nd2;have x1:x≠nd:=λz=>m1 (by show x∈_;rw[z];exact .head _);have x2:x≠ol:=λz=>m1 (by show x∈_;rw[z];exact .tail _ (.head _));have x3:nd≠ol:=λz=>m2 (by show nd∈_;rw[z];exact .head _);have sm:aU H (aI (aI (aI H x (.ins a.GV dx (xF m c.wk ol (-1) nd))) nd (.dK [])) ol (.lst [])):=λb o e=>by rw[ac (aj e n3),ac (aj e n2),ac (aj e n1)];exact e
  have eb:EB Z (aI (aI (aI H x (.ins a.GV dx (xF m c.wk ol (-1) nd))) nd (.dK [])) ol (.lst [])) ⟨[],[]⟩ nd [] []:=#[sm,by show aI _ _ _ x=_;rw[ac x2,ac x1,ae],sm _ _ hm,ae,by rw[ac x3,ae],#[n1,n3,n2], .nil,Gn _,λ_=>rfl,F5 _,F5 _,q4]
  refine#[_,[],#[abQ,#[O1,#[Gn _,λf=>rfl], .cons #[λ_=>rfl,Gn 6] .nil, .nil,#[by decide,nofun,by show 1+10000<=10002;decide,by decide,by show 6+5*10000<=60000-0;decide,by show 60000-0<=60000;decide]],Eb,λs hs y z hz=>?_,eb,Gn _],nofun,Go,Gn _,wt];rw[Ga.mp hs] at hz;cases hz
 generalize Hq:M0 G ss=res at er q;refine ki (L:=l) (xs:=us) 3 Jz abl.nd (pv 1) [05] (λj σ H'=> ∃y S F d U o n e,σ=[FB (.ref m),FB (.ref l),FB (.ref x),y]/\TS (Z.to S F d) H' U o n e (ss.drop j)/\n<=10000/\e+JM (ss.drop j)=JM ss/\Nz G (ss.drop j) e S o n=res) #[_,_,_,_,_,_,_,_,Go,T0,F5 _,Ld _,Hq] ?_ ?_ ?_
 .rintro j σ H2 _ ⟨y,S,F,d,U,o,n,e,rfl,⟨B,nm,R,_⟩,_⟩
  exact R.same _ _ hl
 .rintro j v σ H2 hv ⟨y,S,F,d,U,o,n,e,rfl,TS1,hn,he,ht⟩
  obtain⟨t,ht',at_⟩:=jc tl hv;have dr:ss.drop j=t::ss.drop (j+1):=(GG.mp ht').elim λh z=>by rw[<-z];exact HL h
  rw[dr] at TS1 he ht;rw[yq] at ht;rw[Fc] at he;refine fm (bN (aP (bA 2 (aP (bA 3 (cH (.mk (Z:=Z.to S F d) Go Go Go TS1 hn at_ (λc h=>er c ?_) λx' m' H3 U' F' h QC TS2=>?_)))))) (aiP T XC KX) [06] T.aag.c aA) Go
  .rw[<-ht]
   show(match AJ G t e S o n with| .error c=>_| .ok (x,m)=>_)=_
   rw[h]
  .rw[h] at ht
   have:=aiQ h;exact#[_,_,_,_,_,_,_,_,Go,TS2,by lia,by lia,ht]
 .rintro σ H2 ⟨y,S,F,d,U,o,n,e,rfl,TS1,hn,he,ht⟩
  have dr:ss.drop us.length=[]:=by rw[<-aZ tl,Q9]
  rw[dr] at TS1 he ht;have:e=JM ss:=he;subst this;exact aN (bA 2 (q (Z.to S F d) H2 U o n ht.symm Go Go TS1))
end OS
namespace OS
open Vbemac
def W {α:Type}(p:P α) (t:Nf) (Qo:α->Nf->Prop) (Qe:FX->Pos->Prop):Prop:=match p t with
 | .ok (a,r)=>Qo a r
 | .error e=>Qe e.1 e.2
section
variable {α β:Type}{p:P α}{f:α->P β}{Qo Qo':α->Nf->Prop}{Qe Qe':FX->Pos->Prop}{Ro:β->Nf->Prop}
def yE {a:α}(e:p t= .ok (a,r)):W p t Qo Qe=Qo a r:=by unfold W;rw[e]
def jp (h:p t= .error e):W p t Qo Qe=Qe e.1 e.2:=by unfold W;rw[h]
def jM:W (p>>=f) t Ro Qe=W p t (λa r=>W (f a) r Ro Qe) Qe:=by
 have e:(p>>=f) t=(match p t with
  | .error x=> .error x
  | .ok (a,r)=>f a r):=by
  show(Gh p f) t=_
  unfold Gh;show(Except.bind (p t) _)=_;cases p t with
  |error x=>rfl
  |ok z=>rfl
 unfold W;rw[e];cases h:p t with
 |error x=>rfl
 |ok z=>rfl
def B3 {a:α} :W (pure a:P α) t Qo Qe=Qo a t:=rfl
def abR:W (fail n:P α) t Qo Qe=Qe (if peek t= .bad then 1 else n) (place t):=rfl
def W.mono (h:W p t Qo Qe) (ho: ∀a r,Qo a r->Qo' a r) (he: ∀n q,Qe n q->Qe' n q):W p t Qo' Qe':=by
 unfold W at h ⊢;cases e:p t with
 |error x=>rw[e] at h;exact he _ _ h
 |ok z=>rw[e] at h;exact ho _ _ h
end
def aM {α:Type}(p:P α):Prop:= ∀t,peek t= .bad->p t= .error (1,place t)
def ib {α:Type}(p:P α):Prop:= ∀t,peek t= .bad->p t= .error (1,place t)\/ ∃a,p t= .ok (a,t)
def aM.Qc {α:Type}{p:P α}(h:aM p):ib p:=λt e=> .inl (h t e)
section
variable {α β:Type}{p:P α}{f:α->P β}{Qo:α->Nf->Prop}{Qe:FX->Pos->Prop}{Ro:β->Nf->Prop}
def aM.bind (h:aM p):aM (p>>=f):=λt e=>by
 show(Gh p f) t=_
 unfold Gh;rw[h t e]
 rfl
def ib.bind (h:ib p) (k: ∀a,ib (f a)):ib (p>>=f):=λt e=>by
 show(Gh p f) t=_\/ ∃a,(Gh p f) t=_
 unfold Gh;rcases h t e with z|⟨a,z⟩
 .rw[z];exact .inl Go
 .rw[z];exact k a t e
def ib.strict (h:ib p) (k: ∀a,aM (f a)):aM (p>>=f):=λt e=>by
 show(Gh p f) t=_
 unfold Gh;rcases h t e with z|⟨a,z⟩
 .rw[z];rfl
 .rw[z];exact k a t e
def aM.Me (h:aM p) (e:peek t= .bad) (w:W p t Qo Qe):Qe 1 (place t):=by
 rw[jp (h t e)] at w;exact w
end
def cu {t:Nf}(e:peek t= .bad) (w:String):Io t w=Gc:=by unfold Io;rw[e];rfl
def c8 {t:Nf}(e:peek t= .bad) (w:String):Mv t w=Gc:=by unfold Mv;rw[e];rfl
def aJ {α:Type}(n:FX):aM (fail n:P α):=λt e=>by unfold fail;rw[FI e]
def eZ (w:String):aM (key w):=λt e=>by unfold key;rw[cu e];exact aJ 2 t e
def bj (w:String):aM (sign w):=λt e=>by unfold sign;rw[c8 e];exact aJ 2 t e
def eQ:aM anyName:=λt e=>by unfold anyName;rw[e];exact aJ 2 t e
def fU (K:Known):aM (newName K):=λt e=>by unfold newName;rw[eQ t e]
def lw (B:Blocks):aM (blockName B):=λt e=>by unfold blockName;rw[eQ t e]
def kW (B:Blocks):aM (knownBlock B):=λt e=>by unfold knownBlock;rw[eQ t e]
def mn:aM side:=λt e=>by unfold side;rw[cu e,cu e];exact aJ 2 t e
def gO (B:Blocks):aM (maybeName B):=λt e=>by
 unfold maybeName;rw[cu e,cu e,FF (by simp),lw B t e]
def fN {α:Type}(a:α):ib (pure a:P α):=λt _=> .inr #[a,Go]
def mj (w:String):ib (ifSign w):=λt e=>by unfold ifSign;rw[c8 e];exact .inr #[_,Go]
def tH (l:Fx String):ib (L6 l):=λt e=>by unfold L6;rw[e];exact .inr #[_,Go]
def gz {α:Type}(w:String) (p:P α):ib (behind w p):=λt e=>by unfold behind;rw[cu e];exact .inr #[_,Go]
def iW (k d:FX) (K:Known):aM (primary k d K):=λt e=>by
 cases k with
 |zero=>rw[primary];exact aJ 6 t e
 |succ k=>rw[primary];simp only[e];exact aJ 2 t e
def kI (k d:FX) (K:Known):aM (unary k d K):=λt e=>by
 cases k with
 |zero=>rw[unary];exact aJ 6 t e
 |succ k=>rw[unary];simp only[c8 e,Jt,M9];exact iW k d K t e
def qN (k d:FX) (K:Known):aM (times k d K):=by
 cases k with
 |zero=>rw[times];exact aJ 6
 |succ k=>rw[times];exact(kI k d K).bind
def j9 (k d:FX) (K:Known):aM (added k d K):=by
 cases k with
 |zero=>rw[added];exact aJ 6
 |succ k=>rw[added];exact(qN k d K).bind
def ms (k d:FX) (K:Known):aM (compared k d K):=by
 cases k with
 |zero=>rw[compared];exact aJ 6
 |succ k=>rw[compared];exact(j9 k d K).bind
def uo (k d:FX) (K:Known):aM (ands k d K):=by
 cases k with
 |zero=>rw[ands];exact aJ 6
 |succ k=>rw[ands];exact(ms k d K).bind
def l0 (k d:FX) (K:Known):aM (expr k d K):=λt e=>by
 cases k with
 |zero=>rw[expr];exact aJ 6 t e
 |succ k=>rw[expr];simp only[cu e,Jt,M9];exact(uo k d K).bind t e
def ly (k d:FX) (K:Known) (n:FX):aM (arguments k d K n):=λt e=>by
 cases k with
 |zero=>rw[arguments];exact aJ 6 t e
 |succ k=>rw[arguments];simp only[c8 e,Jt,M9];exact(l0 k d K).bind t e
def nY (k d:FX) (K:Known):ib (moreTimes k d K):=by
 cases k with
 |zero=>rw[moreTimes];exact(aJ 6).Qc
 |succ k=>
  rw[moreTimes];intro t e;refine .inr #[.nil,?_];show(Gh _ _) t=_;unfold Gh L6;rw[e]
  rfl
def nI (k d:FX) (K:Known):ib (moreAdded k d K):=by
 cases k with
 |zero=>rw[moreAdded];exact(aJ 6).Qc
 |succ k=>
  rw[moreAdded];intro t e;refine .inr #[.nil,?_];show(Gh _ _) t=_;unfold Gh L6;rw[e]
  rfl
def qW (k d:FX) (K:Known):ib (moreAnd k d K):=by
 cases k with
 |zero=>rw[moreAnd];exact(aJ 6).Qc
 |succ k=>
  rw[moreAnd];intro t e;refine .inr #[.nil,?_];show(Gh _ _) t=_;unfold Gh ifSign;rw[c8 e]
  rfl
def sr (k d:FX) (K:Known):ib (moreOr k d K):=by
 cases k with
 |zero=>rw[moreOr];exact(aJ 6).Qc
 |succ k=>
  rw[moreOr];intro t e;refine .inr #[.nil,?_];show(Gh _ _) t=_;unfold Gh ifSign;rw[c8 e]
  rfl
def lY (k d:FX) (K:Known) (B:Blocks):aM (stmt k d K B):=λt e=>by
 cases k with
 |zero=>rw[stmt];exact aJ 6 t e
 |succ k=>rw[stmt];simp only[cu e,Jt,M9];exact mn.bind t e
def jY (k d:FX) (K:Known) (B:Blocks):aM (stmts k d K B):=λt e=>by
 cases k with
 |zero=>rw[stmts];exact aJ 6 t e
 |succ k=>rw[stmts];simp only[c8 e,Jt,M9];exact(lY k d K B).bind t e
def jx (k n:FX) (K:Known):aM (params k n K):=λt e=>by
 cases k with
 |zero=>rw[params];exact aJ 6 t e
 |succ k=>
  rw[params];dsimp only;by_cases h:n=0
  .rw[FI h];exact aJ 7 t e
  .rw[FF h];exact(fU K).bind t e
def sR (k:FX) (K:Known) (n:FX) (D:Fx GK):aM (tops k K n D):=λt e=>by
 cases k with
 |zero=>rw[tops];exact aJ 6 t e
 |succ k=>rw[tops];simp only[e,reduceCtorEq,M9,cu e,Jt];exact aJ 2 t e
end OS
namespace OS
open PySem PySem.Spec L2
open PyProof.Rows hiding St
variable {P:Gy}{w:Hf}{K:FC}{mg:Gf->FP FE}{base:Ho}{a:bi}
structure Zb where
 p:FG
 c:Fx (be×V)
 x:FG->Fx V->Prop
instance:Coe Zb FG:=#[Zb.p]
structure Rb where
 r:FG
 q:FG
 kd:FG
 fn:FG
 ds:Zb
 bl:Zb
def eV (B:Rb) (b:FG):Prop:=b=B.r\/b=B.kd\/b=B.fn\/b=B.ds.p\/b=B.bl.p\/ ∃xs,B.bl.x b xs
inductive Zc (H:Hp) (kd:FG) (Kn:FH):Prop
 |mk (kk:Fx (be×V)) (_:H kd=FB (.dK kk)) (_:kk.length<=Kn.values.length) (_: ∀u,has kk u=Kn.values.contains u):Zc H kd Kn
inductive Zd (H:Hp) (fn:FG) (Kn:FH):Prop
 |mk (ff:Fx (be×V)) (_:H fn=FB (.dK ff)) (_: ∀u,bQ ff (nk u)=(Kn.funs.find? λf=>f.1 == u).map λf=>V.int (f.2:FX)):Zd H fn Kn
inductive Dif (k f d b:FG):Prop
 |mk (_:k≠f) (_:k≠d) (_:k≠b) (_:f≠d) (_:f≠b) (_:d≠b):Dif k f d b
structure abS (H:Hp) (kd fn:FG) (Kn:FH) (room:FX):Prop where
 vals:Zc H kd Kn
 funs:Zd H fn Kn
 len:Kn.values.length+room<=4000
 amK: ∃ff,H fn=FB (.dK ff)/\ff.length=Kn.funs.length
def abS.fl {H:Hp}(h:abS H kd fn Kn room) (e:H fn=FB (.dK ff)):ff.length=Kn.funs.length:=by
 obtain⟨gg,g1,g2⟩:=h.amK;rw[e] at g1;cases g1;exact g2
structure fz (a:bi) (B:Rb) (H:Hp) (n:FX) (t:FD) (Kn:FH):Prop where
 rd:mT a H B.r B.q B.kd B.fn B.ds.p B.bl.p n t
 wh:f7 t
 kn:abS H B.kd B.fn Kn t.length
 TF:H B.ds.p=FB (.dK B.ds.c)
 S7:H B.bl.p=FB (.dK B.bl.c)
 QB:Dif B.kd B.fn B.ds.p B.bl.p
 fr: ∀b xs,B.bl.x b xs->H b=FB (.lst xs)
def rH (kk:Fx (be×V)) (u v:Fy) (y:V):has (dB kk (nk u) y) v=(decide (v=u)||has kk v):=by
 unfold has;rw[gX];by_cases e:v=u
 .rw[FI (by rw[e]),GL e];rfl
 .rw[FF (λz=>e (eD (J1 z))),Gp e];rfl
def vM (kk:Fx (be×V)) (k j:be):bQ (fE kk k) j=if j=k then FM else bQ kk j:=by
 induction kk with
 |nil=>unfold fE bQ;split<;>rfl
 |cons p r ih=>
  unfold fE at ih ⊢;rw[Oe];by_cases e:p.1=k
  .rw[FF (by simp [e]),ih]
   by_cases j1:j=k
   .rw[FI j1,FI j1]
   .rw[FF j1,FF j1,b7 λz=>j1 (z.symm.trans e)]
  .rw[FI (by simp [e])]
   by_cases j1:p.1=j
   .rw[ci j1,ci j1,FF λz=>e (j1.trans z)]
   .rw[b7 j1,b7 j1,ih]
def si (kk:Fx (be×V)) (u v:Fy):has (fE kk (nk u)) v=(!decide (v=u)&&has kk v):=by
 unfold has;rw[vM];by_cases e:v=u
 .rw[FI (by rw[e]),GL e];rfl
 .rw[FF (λz=>e (eD (J1 z))),Gp e];rfl
def mX:mr v k=decide (uP k=FB v):=by
 unfold mr;cases k with
 |word u=>exact decide_eq_decide.mpr #[λz=>GO FB (V.str.inj z),λz=>GO V.str (F4 z)]
 |num n=>exact decide_eq_decide.mpr #[(λz=>nomatch z),(λz=>nomatch z)]
 |sign u=>exact decide_eq_decide.mpr #[λz=>GO FB (V.str.inj z),λz=>GO V.str (F4 z)]
 |eof=>exact decide_eq_decide.mpr #[λz=>GO FB (V.str.inj z),λz=>GO V.str (F4 z)]
 |bad=>exact decide_eq_decide.mpr #[λz=>GO FB (V.str.inj z),λz=>GO V.str (F4 z)]
def ca (ok:gk k) (h:c7 x u):mr x k=(k == .word u):=by
 rw[mX,HB,GB,beq_iff_eq];exact Du ok h
def cT (ok:gk k) (h:ee x u):mr x k=(k == .sign u):=by
 rw[mX,HB,GB,beq_iff_eq];exact tV ok h
inductive Ze (t:FD):Prop
 |mk (x:Ha×GS) (r:FD) (_:t=x::r) (_:gk x.1) (_:F3 t=x.1) (_:IS t=x.2) (_: ¬jG x->f7 r):Ze t
def f7.first (w:f7 t):Ze t:=by
 cases t with
 |nil=>exact F6 Go w.ne
 |cons x r=>
  refine#[x,r,Go,?_,Go,Go,λh=>(w.tail h).2];by_cases h:jG x
  .rcases h with h|h
   .rw[h];exact HD
   .rw[h];exact HD
  .exact(w.tail h).1.2.2
section
variable {H H' H2:Hp}{M:FG->Prop}
def aU.keeps (s:aU H H'):dg M H H':=λb o e _=>s b o e
def dg.trans (k:dg M H H') (l:dg M H' H2):dg M H H2:=λb o e m=>l b o (k b o e m) m
def dg.refl:dg M H H:=λ_ _ e _=>e
def mT.same (R:mT a H r q kd fn ds bl n t) (s:aU H H'):mT a H' r q kd fn ds bl n t:=by
 obtain⟨dr,e⟩:=R.ins;obtain⟨as,all,h1,h2,h3⟩:=R.toks;exact#[#[dr,s _ _ e],as,all,s _ _ h1,Paired.NV h2 λb z k=>k.keep λb' o e _=>s b' o e,h3]
theorem fz.same (S:fz a B H n t Kn) (s:aU H H'):fz a B H' n t Kn:=by
 obtain⟨kk,k1,k2,k3⟩:=S.kn.vals;obtain⟨ff,f1,f2⟩:=S.kn.funs;exact#[S.rd.same s,S.wh,#[#[kk,s _ _ k1,k2,k3],#[ff,s _ _ f1,f2],S.kn.len,#[ff,s _ _ f1,S.kn.fl f1]],s _ _ S.TF,s _ _ S.S7,S.QB,λb xs h=>s _ _ (S.fr b xs h)]
def uY (h:past a H B.r B.q B.kd B.fn B.ds.p B.bl.p n H'):dg (eV B) H H':=λb o e m=>by
 obtain⟨dr,e1,rfl⟩:=h;rw[ac λz=>m (.inl z)];exact e
theorem fz.past (S:fz a B H n (x::t) Kn) (hx: ¬jG x) (h:OS.past a H B.r B.q B.kd B.fn B.ds.p B.bl.p n H'):fz a B H' (n+1) t Kn:=by
 have R:=S.rd.step h;obtain⟨dr,e1,rfl⟩:=h;obtain⟨kk,k1,k2,k3⟩:=S.kn.vals;obtain⟨ff,f1,f2⟩:=S.kn.funs
 have hy:=S.TF
 have hz:=S.S7
 have nk:B.kd≠B.r:=λw=>by rw[w,e1] at k1;cases k1
 have nf:B.fn≠B.r:=λw=>by rw[w,e1] at f1;cases f1
 have nd:B.ds.p≠B.r:=λw=>by rw[w,e1] at hy;cases hy
 have nb:B.bl.p≠B.r:=λw=>by rw[w,e1] at hz;cases hz
 refine#[R,(S.wh.tail hx).2,#[#[kk,by rw[ac nk];exact k1,k2,k3],#[ff,by rw[ac nf];exact f1,f2],?_,#[ff,by rw[ac nf];exact f1,S.kn.fl f1]],(by rw[ac nd];exact hy),(by rw[ac nb];exact hz),S.QB,λb xs h=>by
  have e2:=S.fr b xs h;rw[ac λw=>by rw[w,e1] at e2;cases e2]
  exact e2]
 have:=S.kn.len;rw[FW] at this;lia
def fz.aiR (S:fz a B H n t Kn) (free:Kn.values.contains u=Gc) (room:Kn.values.length+1+t.length<=4000) (e:H B.kd=FB (.dK kk)):
  fz a B (aI H B.kd (.dK (dB kk (nk u) (.bl FS)))) n t (Kn.with u):=by
 rw[02];obtain⟨as,all,h1,h2,h3⟩:=S.rd.toks;obtain⟨kk',k1,k2,k3⟩:=S.kn.vals;obtain⟨ff,f1,f2⟩:=S.kn.funs;have hy:=S.TF;have hz:=S.S7;obtain rfl:kk'=kk:=by rw[e] at k1;cases k1;rfl
 obtain⟨d1,d2,d3,d4,d5,d6⟩:=S.QB;have nr:B.r≠B.kd:=λw=>by rw[w,e] at er;cases er
 have nq:B.q≠B.kd:=λw=>by rw[w,e] at h1;cases h1
 refine#[#[#[dr,by rw[ac nr];exact er],as,all,by rw[ac nq];exact h1,Paired.NV h2 λb x ⟨dx,ex⟩=>#[dx,?_],h3],S.wh,#[#[_,ae,?_,λv=>?_],#[ff,by rw[ac d1.symm];exact f1,f2],by show Kn.values.length+1+t.length<=4000;exact room,#[ff,by rw[ac d1.symm];exact f1,S.kn.fl f1]],(by rw[ac d2.symm];exact hy),(by rw[ac d3.symm];exact hz),S.QB,λb xs h=>by
  have e2:=S.fr b xs h;rw[ac λw=>by rw[w,e] at e2;cases e2]
  exact e2]
 .rw[ac λw=>by rw[w,e] at ex;cases ex]
  exact ex
 .have:=cG kk' (nk u) (.bl FS)
  show _<=Kn.values.length+1
  lia
 .rw[rH,k3]
  show _=(u::Kn.values).contains v
  rw[GZ]
  congr 1
  rw[HB,GB,beq_iff_eq]
def fz.forget (S:fz a B H n t (Kn.with u)) (free:Kn.values.contains u=Gc) (e:H B.kd=FB (.dK kk)):
  has kk u=FS/\fz a B (aI H B.kd (.dK (fE kk (nk u)))) n t Kn:=by
 rw[02];obtain⟨as,all,h1,h2,h3⟩:=S.rd.toks;obtain⟨kk',k1,k2,k3⟩:=S.kn.vals;obtain⟨ff,f1,f2⟩:=S.kn.funs;have hy:=S.TF;have hz:=S.S7;obtain rfl:kk'=kk:=by rw[e] at k1;cases k1;rfl
 obtain⟨d1,d2,d3,d4,d5,d6⟩:=S.QB;have nr:B.r≠B.kd:=λw=>by rw[w,e] at er;cases er
 have nq:B.q≠B.kd:=λw=>by rw[w,e] at h1;cases h1
 have hu:has kk' u=FS:=by
  rw[k3];show(u::Kn.values).contains u=FS;rw[GZ,Ht]
  rfl
 have len:Kn.values.length+1+t.length<=4000:=S.kn.len
 have k2:kk'.length<=Kn.values.length+1:=k2;refine#[hu,#[#[dr,by rw[ac nr];exact er],as,all,by rw[ac nq];exact h1,Paired.NV h2 λb x ⟨dx,ex⟩=>#[dx,?_],h3],S.wh,#[#[_,ae,?_,λv=>?_],#[ff,by rw[ac d1.symm];exact f1,f2],by lia,#[ff,by rw[ac d1.symm];exact f1,S.kn.fl f1]],(by rw[ac d2.symm];exact hy),(by rw[ac d3.symm];exact hz),S.QB,λb xs h=>by
  have e2:=S.fr b xs h;rw[ac λw=>by rw[w,e] at e2;cases e2]
  exact e2]
 .rw[ac λw=>by rw[w,e] at ex;cases ex]
  exact ex
 .have:(fE kk' (nk u)).length<kk'.length:=by
   unfold fE;refine V4 (HW _ _) λw=>?_;rw[QD] at w;unfold has bQ at hu;rw[IG,NJ] at hu;obtain⟨p,hp,e1⟩:=hu;have:=w p hp;simp only[Ot] at this e1;exact this e1
  lia
 .rw[si,k3]
  show(!decide (v=u)&&(u::Kn.values).contains v)=_
  rw[GZ];by_cases w:v=u
  .rw[w,GL Go,free];rfl
  .rw[Gp w,show(v == u)=Gc from beq_eq_false_iff_ne.mpr w];rfl
def fz.fresh (S:fz a B H n t Kn) (h:H b=FM): ¬eV B b:=by
 obtain⟨dr,e1⟩:=S.rd.ins;obtain⟨kk,k1,_⟩:=S.kn.vals;obtain⟨ff,f1,_⟩:=S.kn.funs;have hy:=S.TF;have hz:=S.S7;rintro(rfl|rfl|rfl|rfl|rfl|⟨xs,hx⟩)
 .rw[e1] at h;cases h
 .rw[k1] at h;cases h
 .rw[f1] at h;cases h
 .rw[hy] at h;cases h
 .rw[hz] at h;cases h
 .rw[S.fr _ _ hx] at h;cases h
end
section
variable {H H' H0:Hp}{B:Rb}{n:FX}{t:FD}{Kn:FH}{M M':FG->Prop}
def Rb.more (B:Rb) (l:FG) (xs:Fx V):Rb:= { B with bl:=#[B.bl.p,B.bl.c,λb ys=>B.bl.x b ys\/(b=l/\ys=xs)] }
theorem fz.more (S:fz a B H n t Kn) (h:H l=FB (.lst xs)):fz a (B.more l xs) H n t Kn:=
 #[S.rd,S.wh,S.kn,S.TF,S.S7,S.QB,λb ys z=>z.elim (S.fr b ys) λ⟨e1,e2⟩=>by rw[e1,e2];exact h]
def fz.less (S:fz a (B.more l xs) H n t Kn):fz a B H n t Kn:=
 #[S.rd,S.wh,S.kn,S.TF,S.S7,S.QB,λb ys z=>S.fr b ys (.inl z)]
def fz.Rc (S:fz a (B.more l xs) H n t Kn):H l=FB (.lst xs):=S.fr l xs (.inr #[Go,Go])
def cA (m:eV B b):eV (B.more l xs) b:=by
 rcases m with h|h|h|h|h|⟨ys,h⟩
 .exact .inl h
 .exact .inr (.inl h)
 .exact .inr (.inr (.inl h))
 .exact .inr (.inr (.inr (.inl h)))
 .exact .inr (.inr (.inr (.inr (.inl h))))
 .exact .inr (.inr (.inr (.inr (.inr #[ys, .inl h]))))
def df (m:eV (B.more l xs) b):b=l\/eV B b:=by
 rcases m with h|h|h|h|h|⟨ys,h|⟨h,_⟩⟩
 .exact .inr (.inl h)
 .exact .inr (.inr (.inl h))
 .exact .inr (.inr (.inr (.inl h)))
 .exact .inr (.inr (.inr (.inr (.inl h))))
 .exact .inr (.inr (.inr (.inr (.inr (.inl h)))))
 .exact .inr (.inr (.inr (.inr (.inr (.inr #[ys,h])))))
 .exact .inl h
def fk:eV (B.more l xs) l:= .inr (.inr (.inr (.inr (.inr #[xs, .inr #[Go,Go]]))))
def eY (h:M l):dg M H (aI H l o):=λb o' e m=>by
 rw[ac λz=>m (by rw[z];exact h)];exact e
def fz.write (S:fz a (B.more l xs) H n t Kn) (apart: ∀zs,¬B.bl.x l zs) (hq:l≠B.q):fz a (B.more l ys) (aI H l (.lst ys)) n t Kn:=by
 have hl:=S.Rc;rw[02];obtain⟨as,all,h1,h2,h3⟩:=S.rd.toks;obtain⟨kk,k1,k2,k3⟩:=S.kn.vals;obtain⟨ff,f1,f2⟩:=S.kn.funs
 have up: ∀ {b:FG}{o:HO},H b=FB o->(∀zs,o≠ .lst zs)->aI H l (.lst ys) b=FB o:=λe no=>by
  rw[ac λw=>by rw[w,hl] at e;exact no _ (F4 e).symm];exact e
 refine#[#[#[dr,up er (λ_ z=>nomatch z)],as,all,(by show aI H l (.lst ys) B.q=_;rw[ac hq.symm];exact h1),Paired.NV h2 λb x ⟨dx,ex⟩=>#[dx,up ex (λ_ z=>nomatch z)],h3],S.wh,
  #[#[kk,up k1 (λ_ z=>nomatch z),k2,k3],#[ff,up f1 (λ_ z=>nomatch z),f2],S.kn.len,#[ff,up f1 (λ_ z=>nomatch z),S.kn.fl f1]],up S.TF (λ_ z=>nomatch z),up S.S7 (λ_ z=>nomatch z),S.QB,λb zs z=>?_]
 rcases z with z|⟨e1,e2⟩
 .rw[ac λw=>apart zs (by rw[<-w];exact z)]
  exact S.fr b zs (.inl z)
 .rw[e1,e2]
  exact ae
end
def yQ:abB=G6.map λu=>V.str (sb u):=by decide+kernel
def dC:cR (.word u)=!Vbemac.KEYS.contains u:=by
 show(!uL (.str (sb u)) abB)=_
 congr 1
 rw[yQ];unfold uL;rw[T4,Fx.contains_eq_any_beq]
 congr 1
 funext z
 show(sb z == sb u)=(u == z)
 rw[HB,beq_iff_eq,beq_iff_eq];exact#[λe=>(eD e).symm,λe=>by rw[e]]
def AO (T:aV K mg a) (XC:XT K a):T.aar.O P w mg base 6 (yf a):=by
 have G_q:=mH (P:=P) (w:=w) (base:=base) T XC;refine fW T.aar.F ahF [03] [02];obtain⟨r,q,kd,fn,ds,bl,n,x,t,v,rfl,R,hb,hf,hg⟩:=h;obtain⟨dr,er⟩:=R.ins;refine#[_,(ao (b4 (k6 (de (cB (pv 0) T.Gx T.d_q.c G_q [06] aA (aa (pv 1) ag)))) (ah (aH uI)) aY)
   (ao (gU (pv 0) ak ox)
   (ah (aH uI)))),?_]
 refine#[r,dr,_,Go,er,Go,r,q,kd,fn,ds,bl,n,x,t,v,Go,R,hb,λnb=>#[_,Go,?_]];cases e:mr v x.1 with
 |false=>exact b8 (hf nb e)
 |true=>
  refine bG ?_;exact#[r,_,dr,_,_,Go,er,T.Gx,T.K5,Go,_,_,Go,Go,dr,_,er,(by show 6<1000;decide),hg nb e _ #[dr,er,Go]]
def js (T:aV K mg a) (XC:XT K a):T.aat.O P w mg base 7 (wG a):=by
 have G_A:=ic (P:=P) (w:=w) (base:=base) T XC
 have UE:=cX (P:=P) (w:=w) (base:=base) T XC
 have VB:=fH (P:=P) (w:=w) (base:=base) T XC
 have G_u:=rl (P:=P) (w:=w) (base:=base) T XC;refine fW T.aat.F ahG [03] [02];obtain⟨r,q,kd,fn,ds,bl,g,n,⟨x,xp⟩,t,gg,rfl,R,eg,hb,hn,h4,hg⟩:=h;obtain⟨dr,er⟩:=R.ins;refine#[_,(ao (bf (bV (pv 0) T.Gx T.d_A.c G_A [06] aA))
   (ao (b4 (fD (n6 (dv hr) (ai (bV (pv 0) T.Gx T.Wv.c UE [06] aA) Go) (pv 1))) (ah (bf (cB (pv 0) T.Gx T.Ww.c VB [06] aA (aa (aS (by rfl) T.Pq) ag)))) aY)
   (ah (aH (bV (pv 0) T.Gx T.d_u.c G_u [06] aA))))),?_]
 refine#[r,dr,_,Go,er,Go,r,q,kd,fn,ds,bl,n,(x,xp),t,Go,R,hb,hn,λnb e=>?_];cases x with
 |word u=>
  refine#[r,dr,_,Go,er,Go,r,q,kd,fn,ds,bl,n,(.word u,xp),t,Go,R,hb,λ_ p ⟨dx,et⟩=>#[p,_,dx,_,_,Go,et,T.Jg,T.JP,Go,?_]];refine#[g,_,Go,gD.k (k:=nk u) eg,_,Go,aQ (λe1=>?_) λe1=>?_]
  .refine#[r,dr,_,Go,er,Go,r,q,kd,fn,ds,bl,n,(.word u,xp),t,4,Go,R,?_]
   rw[FF nb];exact h4 u Go e e1
  .exact#[r,dr,_,Go,er,Go,r,q,kd,fn,ds,bl,n,(.word u,xp),t,Go,R,hb,λ_=>hg u Go e e1]
 |num m=>cases e
 |sign u=>cases e
 |eof=>cases e
 |bad=>exact F6 Go nb
def fJ {α:Type}{p:FQ α}{n:FX}{t:FD}{Qo:α->FD->Prop}{Qe:FX->GS->Prop}(e:p t=F8 n t) (nb:F3 t≠ .bad) (h:W p t Qo Qe):Qe n (IS t):=by
 have e:p t= .error (n,IS t):=by rw[e];unfold F8;rw[FF nb]
 rw[jp e] at h;exact h
def aiS {α:Type}{p p':FQ α}{t:FD}{Qo:α->FD->Prop}{Qe:FX->GS->Prop}(e:p t=p' t) (h:W p t Qo Qe):W p' t Qo Qe:=by
 unfold W at h ⊢;rw[<-e];exact h
abbrev QE (a:bi) (B:Rb) (H0:Hp) (E:XK):FX->GS->Prop:=λk x=> ∀H',dg (eV B) H0 H'->nF a.Im E H' k x
def cW {t:FD} :W5 ((.word u,xp)::t)=if G6.contains u=FS then F8 2 ((.word u,xp)::t) else .ok (u,t):=rfl
def iG {Kn:FH}{t:FD}(h:G6.contains u=FS):Hg Kn ((.word u,xp)::t)=F8 2 ((.word u,xp)::t):=by
 unfold Hg;rw[cW,FI h]
 rfl
def eO {Kn:FH}{t:FD}(h:G6.contains u=Gc):Hg Kn ((.word u,xp)::t)=if Kn.taken u=FS then F8 4 ((.word u,xp)::t) else .ok (u,t):=by
 unfold Hg;rw[cW,FF (by rw[h];exact FA)]
structure Zf (β:Type) where
 a:bi
 E:XK
 B:Rb
 L:FX
 H0:Hp
 Ro:β->FD->Prop
inductive CB (X:Cx) (x:Gf) (ps:Fx Gf) (sp:Sp):Prop
 |mk {k:FX}{f:FG}{fd:GQ}(F:bW X.prog X.w X.K X.mg X.base (gb X.prog X.w) k f fd ps sp) (hr:bZ k X.A) (d:CD X.K X.mg x f fd ps) (hg:Gl X x):CB X x ps sp
structure RX (X:Cx) (a:bi) (E:XK):Prop where
 T:aV X.K X.mg a
 C:XT X.K a
 hr:bZ 8 X.A
 up:dn (gb X.prog X.w) X E
 lv:QG (model X.prog X.w) X.A X.env X.xe
 nd:X.N.Nodup
 n0:X.N[0]?=FB ("reader":Gf)
 v0:o6 X.env.scope "reader"
structure RS {β:Type}(Z:Zf β) (F:Fx (Fk×V)) (b:GP) (H:Hp) (t:FD) (Kn:FH) (p:FQ β):Prop where
 S: ∃n,fz Z.a Z.B H n t Kn
 k:dg (eV Z.B) Z.H0 H
 f: ∀ {i:FX}{x:Fk×V},F[i]?=FB x->jr Z.a (eV Z.B) H x
 l:t.length+b.toNat<=Z.L
 w:W p t Z.Ro (QE Z.a Z.B Z.H0 Z.E)
section
variable {β:Type}{Z:Zf β}{H H':Hp}{p p':FQ β}
def RS.go (R:RS Z F b H t Kn p) (S:fz Z.a Z.B H' n t' X9) (k:dg (eV Z.B) H H') (l:t'.length+b'.toNat<=Z.L) (w:W p' t' Z.Ro (QE Z.a Z.B Z.H0 Z.E)):RS Z F b' H' t' X9 p':=
 #[#[n,S],R.k.trans k,λe=>jr.Iv k.two (R.f e),l,w]
def RS.and (R:RS Z F b H t Kn p) (h:jr Z.a (eV Z.B) H e):RS Z (e::F) b H t Kn p:=
 #[R.S,R.k,λ{i x} q=>match i,q with
  |0,q=>by cases q;exact h
  |i+1,q=>R.f (i:=i) q,R.l,R.w]
def RS.as (R:RS Z F b H t Kn p) (e:p t=p' t):RS Z F b H t Kn p':=#[R.S,R.k,R.f,R.l,aiS e R.w]
def RS.one (R:RS Z F b H (x::t) Kn p):t.length+1<=Z.L:=F7 (Kr _ _) R.l
theorem RS.past (R:RS Z F b H (x::t) Kn p) (S:fz Z.a Z.B H n (x::t) Kn) (hx: ¬jG x) (h:OS.past Z.a H Z.B.r Z.B.q Z.B.kd Z.B.fn Z.B.ds.p Z.B.bl.p n H') (w:W p' t Z.Ro (QE Z.a Z.B Z.H0 Z.E)):RS Z F FS H' t Kn p':=
 R.go (S.past hx h) (uY h) R.one w
end
structure XpP (v:Gf) (p:FQ Nc) (x:Ha×GS) (r:FD):Prop where
 bad:x.1= .bad->p (x::r)= .error (1,x.2)
 no:x.1≠ .bad->mr v x.1=Gc->p (x::r)= .error (2,x.2)
 yes:x.1≠ .bad->mr v x.1=FS->p (x::r)= .ok ((),r)/\ ¬jG x
def ee.p {v:Gf}{s:String}(l:ee v (Fz s)) (r:FD) (ok:gk x.1):XpP v (Gz s) x r:=by
 refine#[λb=>bj s (x::r) b,λnb e=>?_,λnb e=>?_]
 .rw[cT ok l] at e
  show(if GA (x::r) s=FS then _ else F8 2 (x::r))=_
  rw[FF (by show¬(x.1 == .sign (Fz s))=FS;rw[e];exact FA)];unfold F8;rw[FF (show¬F3 (x::r)= .bad from nb)]
  rfl
 .rw[cT ok l] at e
  refine#[?_,λz=>?_]
  .show(if GA (x::r) s=FS then _ else F8 2 (x::r))=_
   rw[FI (by show(x.1 == .sign (Fz s))=FS;exact e)]
   rfl
  .have:=beq_iff_eq.mp e
   exact z.elim (λz=>by rw[this] at z;cases z) nb
def c7.p {v:Gf}{s:String}(l:c7 v (Fz s)) (r:FD) (ok:gk x.1):XpP v (HK s) x r:=by
 refine#[λb=>eZ s (x::r) b,λnb e=>?_,λnb e=>?_]
 .rw[ca ok l] at e
  show(if FR (x::r) s=FS then _ else F8 2 (x::r))=_
  rw[FF (by show¬(x.1 == .word (Fz s))=FS;rw[e];exact FA)];unfold F8;rw[FF (show¬F3 (x::r)= .bad from nb)]
  rfl
 .rw[ca ok l] at e
  refine#[?_,λz=>?_]
  .show(if FR (x::r) s=FS then _ else F8 2 (x::r))=_
   rw[FI (by show(x.1 == .word (Fz s))=FS;exact e)]
   rfl
  .have:=beq_iff_eq.mp e
   exact z.elim (λz=>by rw[this] at z;cases z) nb
def AG {v:Gf}(r:FD) (e:mr v x.1=FS) (nb:x.1≠ .bad) (nf: ¬jG x):XpP v G7 x r:=
 #[λb=>F6 b nb,λ_ z=>(by rw[e] at z;cases z),λ_ _=>#[Go,nf]]
theorem RS.tok {β:Type}{Z:Zf β}{F:Fx (Fk×V)}{b:GP}{H:Hp}{t:FD}{Kn:FH}{p:FQ β}(R:RS Z F b H t Kn p):gk (F3 t):=by
 rw[00];obtain⟨x,t',rfl,tok,RB,_,_⟩:=S.wh.first;exact tok
section
variable {X:Cx}{β:Type}{Z:Zf β}{F:Fx (Fk×V)}{b:GP}{H:Hp}{t:FD}{Kn:FH}{D:eI}{ss:Fx Stmt}{σ:L2.St}{p0 p1 p2 p3 p4 p5:Pos}{j:FX}{v y:Gf}{s:String}{E:XK}{Q:VK}{B:Rb}{n:FX}{m:Gf}{f:FG}{fd:GQ}{ps:Fx Gf}{sp:Sp}{k:FX}{CX:qG}{E':XK}{p:FQ β}
def RX.rd (Y:RX X a E):PE X [005] (gc 0):=dR Y.n0 Y.v0
def RX.m1 (Y:RX X a E) (d:MD X.K a.GY m f fd ps) (G:bW X.prog X.w X.K X.mg X.base CX k f fd ps sp) (hk:k<=8) (up:dn CX X E') (S:fz a B H n t Kn) (hm:(rO B.q B.kd B.fn B.ds.p B.bl.p n).lookup m=FM) (q:Pe X e (FB (.ref B.r)::σ) H λv H1=>sp [.ref B.r,v] H1 Q E')
  (hp:iB p2 p4) (KN:F9 [e] X.env=[[001]]):Pe X (.Call (.Attribute [005] m p2) [e] [] p4) (FB (.ref B.r)::σ) H Q:=by
 rw[02];exact#[_,cB Y.rd Y.T.Gx d G (Y.hr.mono hk) up (aa dA ag KN) KN Go (eN hp (by rw[KN];rfl)),B.r,dr,_,Go,er,hm,q]
def RX.m0 (Y:RX X a E) (d:MD X.K a.GY m f fd ps) (G:bW X.prog X.w X.K X.mg X.base CX k f fd ps sp) (hk:k<=8) (up:dn CX X E') (S:fz a B H n t Kn) (hm:(rO B.q B.kd B.fn B.ds.p B.bl.p n).lookup m=FM) (q:sp [.ref B.r] H Q E')
  (hp:iB p2 p4):Pe X (.Call (.Attribute [005] m p2) [] [] p4) (FB (.ref B.r)::σ) H Q:=by
 rw[02];exact#[_,bV Y.rd Y.T.Gx d G (Y.hr.mono hk) up (eN hp Go),B.r,dr,_,Go,er,hm,q]
def xq {e:HX}{te:TE}{u:FQ Nc}{g:Nc->FQ β}(Y:RX X Z.a Z.E) (R:RS Z F b H t Kn (u>>=g)) (he:PE X e te) (hv: ∀Q:VK,Q (.str v) H->te (FB (.ref Z.B.r)::σ) H Q) (l: ∀ {x:Ha×GS} r,t=x::r->gk x.1->XpP v u x r) (q: ∀H' t',RS Z F FS H' t' Kn (g ())->Bd X ss D (FB (.ref Z.B.r)::σ) H') (hp:iB p2 p4:=by rfl) (KN:F9 [e] X.env=[[001]]:=by rfl):
  Bd X (.Expr (.Call (.Attribute [005] "expect" p2) [e] [] p4) p5::ss) D (FB (.ref Z.B.r)::σ) H:=by
 rw[00];obtain⟨x,t',rfl,tok,RB,Ng,_⟩:=S.wh.first;have hW:=R.w;rw[jM] at hW;have l:=l t' Go tok;refine bB (Y.m1 Y.T.aaq.c (zg Y.T Y.C) [01] Y.up S Go #[_,he,hv _ #[Z.B.r,Z.B.q,Z.B.kd,Z.B.fn,Z.B.ds,Z.B.bl,n,x,t',v,Go,S.rd,λb=>?_,λnb e=>?_,λnb e H' hp=>?_]] hp KN)
 .rw[jp (l.bad b)] at hW;exact hW H R.k
 .rw[jp (l.no nb e)] at hW;exact hW H R.k
 .obtain⟨h1,h2⟩:=l.yes nb e
  rw[yE h1] at hW;exact q H' t' (R.past S h2 hp hW)
def mK {te:TE}(Y:RX X Z.a Z.E) (R:RS Z F b H t Kn p) (he:PE X e te) (hv: ∀Q:VK,Q (.str v) H->te (FB (.ref Z.B.r)::σ) H Q) (hb:F3 t= .bad->QE Z.a Z.B Z.H0 Z.E 1 (IS t)) (q:F3 t≠ .bad->Q (.bl (mr v (F3 t))) H) (hp:iB p2 p4:=by rfl) (KN:F9 [e] X.env=[[001]]:=by rfl):
  Pe X (.Call (.Attribute [005] "sees" p2) [e] [] p4) (FB (.ref Z.B.r)::σ) H Q:=by
 rw[00];obtain⟨x,t',rfl,tok,RB,Ng,_⟩:=S.wh.first;exact Y.m1 Y.T.d_q.c (mH Y.T Y.C) [01] Y.up S Go #[_,he,hv _ #[Z.B.r,Z.B.q,Z.B.kd,Z.B.fn,Z.B.ds,Z.B.bl,n,x,t',v,Go,S.rd,λb=>hb (RB.trans b) H R.k,q]] hp KN
def rS {u:FQ Nc}{g:Nc->FQ β}(Y:RX X Z.a Z.E) (R:RS Z F b H t Kn (u>>=g)) (l: ∀ {x:Ha×GS} r,t=x::r->gk x.1->XpP v u x r) (q: ∀H' t',RS Z F FS H' t' Kn (g ())->Bd X ss D (FB (.ref Z.B.r)::σ) H') (hp:iB p2 p4:=by rfl):
  Bd X (.Expr (.Call (.Attribute [005] "expect" p2) [.Constant (.str v) j p3] [] p4) p5::ss) D (FB (.ref Z.B.r)::σ) H:=xq Y R dI [05] l q hp
def cJ {g:Nc->FQ β}(Y:RX X Z.a Z.E) (lit:ee v (Fz s)) (R:RS Z F b H t Kn (Gz s>>=g)) (q: ∀H' t',RS Z F FS H' t' Kn (g ())->Bd X ss D (FB (.ref Z.B.r)::σ) H') (hp:iB p2 p4:=by rfl):
  Bd X (.Expr (.Call (.Attribute [005] "expect" p2) [.Constant (.str v) j p3] [] p4) p5::ss) D (FB (.ref Z.B.r)::σ) H:=rS Y R (λr _ ok=>lit.p r ok) q hp
def ld {g:Nc->FQ β}(Y:RX X Z.a Z.E) (lit:c7 v (Fz s)) (R:RS Z F b H t Kn (HK s>>=g)) (q: ∀H' t',RS Z F FS H' t' Kn (g ())->Bd X ss D (FB (.ref Z.B.r)::σ) H') (hp:iB p2 p4:=by rfl):
  Bd X (.Expr (.Call (.Attribute [005] "expect" p2) [.Constant (.str v) j p3] [] p4) p5::ss) D (FB (.ref Z.B.r)::σ) H:=rS Y R (λr _ ok=>lit.p r ok) q hp
def iO (Y:RX X Z.a Z.E) (R:RS Z F b H t Kn p) (st:aM p) (q:F3 t≠ .bad->Q (.bl (mr v (F3 t))) H) (hp:iB p2 p4:=by rfl):
  Pe X (.Call (.Attribute [005] "sees" p2) [.Constant (.str v) j p3] [] p4) (FB (.ref Z.B.r)::σ) H Q:=mK Y R dI [05] (λb=>st.Me b R.w) q hp
def je (Y:RX X Z.a Z.E) (R:RS Z F b H t Kn p) (nb:F3 t≠ .bad) (q:Q (.bl (mr v (F3 t))) H) (hp:iB p2 p4:=by rfl):
  Pe X (.Call (.Attribute [005] "sees" p2) [.Constant (.str v) j p3] [] p4) (FB (.ref Z.B.r)::σ) H Q:=mK Y R dI [05] (λb=>F6 b nb) (λ_=>q) hp
def Zg {c:Ha->GP}(Y:RX X Z.a Z.E) (d:MD X.K Z.a.GY m f fd ps) (G:bW X.prog X.w X.K X.mg X.base (gb X.prog X.w) k f fd ps (uf Z.a c)) (hk:k<=8) (hm: ∀n,(rO Z.B.q Z.B.kd Z.B.fn Z.B.ds.p Z.B.bl.p n).lookup m=FM) (R:RS Z F b H t Kn p) (st:aM p) (q:F3 t≠ .bad->Q (.bl (c (F3 t))) H) (hp:iB p2 p4:=by rfl):
  Pe X (.Call (.Attribute [005] m p2) [] [] p4) (FB (.ref Z.B.r)::σ) H Q:=by
 rw[00];obtain⟨x,t',rfl,tok,RB,Ng,_⟩:=S.wh.first;exact Y.m0 d G hk Y.up S (hm n) #[Z.B.r,Z.B.q,Z.B.kd,Z.B.fn,Z.B.ds,Z.B.bl,n,x,t',Go,S.rd,λb=>st.Me (RB.trans b) R.w H R.k,q] hp
def iX {g:Nc->FQ β}(Y:RX X Z.a Z.E) (R:RS Z F b H (x::r) Kn (G7>>=g)) (nf: ¬jG x) (q: ∀H',RS Z F FS H' r Kn (g ())->Q (iy x.1) H') (hp:iB p2 p4:=by rfl):
  Pe X (.Call (.Attribute [005] "take" p2) [] [] p4) (FB (.ref Z.B.r)::σ) H Q:=by
 rw[00];exact Y.m0 Y.T.d_u.c (rl Y.T Y.C) [01] Y.up S Go #[Z.B.r,Z.B.q,Z.B.kd,Z.B.fn,Z.B.ds,Z.B.bl,n,x,r,Go,S.rd,λb=>F6 (.inr b) nf,λ_ H' hp=>q H' (R.past S nf hp R.w)] hp
def rF {e:HX}{i:FX}(Y:RX X Z.a Z.E) (he:PE X e (tC (.int i))) (R:RS Z F b H t Kn p) (nb:F3 t≠ .bad) (h:p t=F8 i t) (hp:iB p2 p4:=by rfl) (KN:F9 [e] X.env=[[001]]:=by rfl):
  Pe X (.Call (.Attribute [005] "fail" p2) [e] [] p4) (FB (.ref Z.B.r)::σ) H Q:=by
 rw[00];obtain⟨x,t',rfl,tok,RB,Ng,_⟩:=S.wh.first;refine Y.m1 Y.T.Ww.c (fH Y.T Y.C) [01] Y.up S Go #[_,he,Z.B.r,Z.B.q,Z.B.kd,Z.B.fn,Z.B.ds,Z.B.bl,n,x,t',i,Go,S.rd,?_] hp KN;rw[FF (show¬x.1= .bad from nb)];exact fJ h nb R.w H R.k
def p_e (Y:RX X Z.a Z.E) (R:RS Z F b H t Kn p) (st:aM p) (h:F3 t≠ .bad->cR (F3 t)=Gc->p t=F8 2 t) (q:F3 t≠ .bad->cR (F3 t)=FS->Q .Jm H) (hp:iB p2 p4:=by rfl):
  Pe X (.Call (.Attribute [005] "need_name" p2) [] [] p4) (FB (.ref Z.B.r)::σ) H Q:=by
 rw[00];obtain⟨x,t',rfl,tok,RB,Ng,_⟩:=S.wh.first;exact Y.m0 Y.T.d_A.c (ic Y.T Y.C) [01] Y.up S Go #[Z.B.r,Z.B.q,Z.B.kd,Z.B.fn,Z.B.ds,Z.B.bl,n,x,t',Go,S.rd,λb=>st.Me (RB.trans b) R.w H R.k,λnb e=>fJ (h nb e) nb R.w H R.k,q] hp
def wp (Y:RX X Z.a Z.E) (R:RS Z F b H t Kn p) (hb:F3 t= .bad->QE Z.a Z.B Z.H0 Z.E 1 (IS t)) (q:F3 t≠ .bad->Q (iy (F3 t)) H) (hp:iB p2 p4:=by rfl):
  Pe X (.Attribute (.Call (.Attribute [005] "current" p2) [] [] p4) "value" p5) (FB (.ref Z.B.r)::σ) H Q:=by
 rw[00];obtain⟨x,t',rfl,tok,RB,Ng,_⟩:=S.wh.first;refine#[_,ai dA Go,Y.m0 Y.T.Wv.c (cX Y.T Y.C) [01] Y.up S Go #[Z.B.r,Z.B.q,Z.B.kd,Z.B.fn,Z.B.ds,Z.B.bl,n,x,t',Go,S.rd,λb=>hb (RB.trans b) H R.k,λnb c ⟨dx,et⟩=>#[c,_,dx,_,_,Go,et,Y.T.Jg,Y.T.JP,Go,q nb]] hp]
def aiT (Y:RX X Z.a Z.E) (R:RS Z F b H t Kn p) (st:aM p) (q:F3 t≠ .bad->Q (iy (F3 t)) H) (hp:iB p2 p4:=by rfl):
  Pe X (.Attribute (.Call (.Attribute [005] "current" p2) [] [] p4) "value" p5) (FB (.ref Z.B.r)::σ) H Q:=wp Y R (λb=>st.Me b R.w) q hp
def RS.cons (R:RS Z F b H t Kn p): ∃x r,t=x::r:=by
 rw[00];obtain⟨x,t',e,_⟩:=S.wh.first;exact#[x,t',e]
def abT (Y:RX X Z.a Z.E) (R:RS Z F b H (x::r) Kn p) (nf: ¬jG x) (q:Q (.bl (lZ (F3 r))) H) (hp:iB p2 p4:=by rfl):
  Pe X (.Call (.Attribute [005] "number_follows" p2) [] [] p4) (FB (.ref Z.B.r)::σ) H Q:=by
 rw[00];obtain⟨y,r',rfl,_⟩:=(S.wh.tail nf).2.first;exact Y.m0 Y.T.aap.c (kz Y.T) [01] aR S Go #[Z.B.r,Z.B.q,Z.B.kd,Z.B.fn,Z.B.ds,Z.B.bl,n,x,y,r',Go,S.rd,q] hp
def abU {te:TE}{C:GP->Hp->Prop}(Y:RX X Z.a Z.E) (R:RS Z F b H t Kn p) (he:PE X e te) (hv: ∀Q:VK,Q (.str (sb u)) H->te (FB (.ref Z.B.r)::σ) H Q) (q:C ((Kn.funs.find? λf=>f.1 == u).isSome) H):
  Pt X (.Compare e [.In] [.Attribute [005] "functions" p2] p3) (FB (.ref Z.B.r)::σ) H C:=by
 rw[00];rw[02];obtain⟨ff,f1,f2⟩:=S.kn.funs;refine#[_,fD (n6 (dv Y.hr) he (ai Y.rd Go)),hv _ #[Z.B.r,_,dr,_,_,Go,er,Y.T.Gx,Y.T.Ji,Go,Z.B.fn,_,Go,gD.k (k:=nk u) f1,_,Go,?_]];rw[f2,IG];exact q
def abV {te:TE}{C:GP->Hp->Prop}(Y:RX X Z.a Z.E) (R:RS Z F b H t Kn p) (he:PE X e te) (hv: ∀Q:VK,Q (.str (sb u)) H->te (FB (.ref Z.B.r)::σ) H Q) (q:C (!Kn.values.contains u) H):
  Pt X (.Compare e [.NotIn] [.Attribute [005] "known" p2] p3) (FB (.ref Z.B.r)::σ) H C:=by
 rw[00];rw[02];obtain⟨kk,k1,k2,k3⟩:=S.kn.vals;refine#[_,fD (ja (dv Y.hr) he (ai Y.rd Go)),hv _ #[Z.B.r,_,dr,_,_,Go,er,Y.T.Gx,Y.T.Kz,Go,Z.B.kd,_,Go,gD.k (k:=nk u) k1,_,Go,?_]];have:=k3 u;unfold has at this;rw[this];exact q
def tJ (i:FX) {g:Fy->FQ β}(Y:RX X Z.a Z.E) (R:RS Z F b H t Kn (Hg Kn>>=g)) (q: ∀u H' t',c7 (sb u) u->G6.contains u=Gc->Kn.taken u=Gc->RS Z F FS H' t' Kn (g u)->Bd X ss D ((FB (.ref Z.B.r)::σ).set i (FB (.str (sb u)))) H')
  (h:Sl X i y:=by exact#[Go,Hs Go,Go]) (hp:iB p2 p4:=by rfl):
  Bd X (.Assign [.Name y p0] (.Call (.Attribute [005] "take_free_name" p2) [] [] p4) p5::ss) D (FB (.ref Z.B.r)::σ) H:=by
 rw[00];rw[02];obtain⟨⟨x,xp⟩,t',rfl,tok,RB,Ng,_⟩:=S.wh.first;obtain⟨kk,k1,k2,k3⟩:=S.kn.vals;obtain⟨ff,f1,f2⟩:=S.kn.funs;have hW:=R.w;rw[jM] at hW;have tk: ∀u,(has kk u||has ff u)=Kn.taken u:=λu=>by
  unfold Ou;rw[k3]
  congr 1
  unfold has;rw[f2,IG,HB,NJ,Ms]
 refine aO i Y.nd (Y.m0 Y.T.aas.c (kQ Y.T Y.C) [01] Y.up S Go #[Z.B.r,Z.B.q,Z.B.kd,Z.B.fn,Z.B.ds,Z.B.bl,n,(x,xp),t',kk,ff,Go,S.rd,k1,f1,λb=>(fU Kn).Me (RB.trans b) hW H R.k,λnb e=>?_,λu ex e e4=>?_,λu ex e e4 H' hp=>?_] hp) h
 .refine fJ (p:=Hg Kn) (n:=2) (t:=(x,xp)::t') ?_ nb hW H R.k
  cases x with
  |word u=>
   rw[dC] at e;have SM:G6.contains u=FS:=by cases h:G6.contains u;rw[h] at e;cases e;rfl
   exact iG SM
  |num m=>rfl
  |sign s=>rfl
  |eof=>rfl
  |bad=>exact F6 Go nb
 .obtain rfl:x= .word u:=ex
  rw[dC] at e;have SM:G6.contains u=Gc:=by cases h:G6.contains u;rfl;rw[h] at e;cases e
  refine fJ (p:=Hg Kn) (n:=4) (t:=(.word u,xp)::t') ?_ (λz=>nomatch z) hW H R.k
  rw[eO SM,FI (by rw[<-tk];exact e4)]
 .obtain rfl:x= .word u:=ex
  rw[dC] at e;have SM:G6.contains u=Gc:=by cases h:G6.contains u;rfl;rw[h] at e;cases e
  have ft:Kn.taken u=Gc:=by rw[<-tk];exact e4
  have en:Hg Kn ((.word u,xp)::t')= .ok (u,t'):=by
   rw[eO SM,FF (by rw[ft];exact FA)]
  rw[yE en] at hW;exact q u H' t' #[Go,tok.1,tok.2] SM ft (R.past S (λz=>z.elim (λz=>nomatch z) λz=>nomatch z) hp hW)
def ji (i:FX) {g:Fy->FQ β}(Y:RX X Z.a Z.E) (R:RS Z F b H t Kn (Hg Kn>>=g)) (q: ∀u H' t',Kn.taken u=Gc->RS Z F FS H' t' Kn (g u)->Bd X ss D ((FB (.ref Z.B.r)::σ).set i (FB (.str (sb u)))) H')
  (h:Sl X i y:=by exact#[Go,Hs Go,Go]) (hp:iB p2 p4:=by rfl):
  Bd X (.Assign [.Name y p0] (.Call (.Attribute [005] "take_free_name" p2) [] [] p4) p5::ss) D (FB (.ref Z.B.r)::σ) H:=tJ i Y R (λu H' t' _ _=>q u H' t') h hp
def jV (h:Kn.taken u=Gc):Kn.values.contains u=Gc:=(MF.mp h).1
def gN {te:TE}(Y:RX X Z.a Z.E) (he:PE X e te) (hv: ∀Q:VK,Q (.str (sb u)) H->te (FB (.ref Z.B.r)::σ) H Q) (ft:Kn.taken u=Gc) (hm:Kn.values.length+Z.L<=4000) (R:RS Z F FS H t Kn p)
  (q: ∀H',RS Z F FS H' t (Kn.with u) p->Bd X ss D (FB (.ref Z.B.r)::σ) H') (hp:iB p2 p4:=by rfl) (KN:F9 [e] X.env=[[001]]:=by rfl):
  Bd X (.Expr (.Call (.Attribute [005] "learn" p2) [e] [] p4) p5::ss) D (FB (.ref Z.B.r)::σ) H:=by
 rw[00];rw[02];obtain⟨kk,k1,k2,k3⟩:=S.kn.vals;have l:=R.l;have l:t.length+1<=Z.L:=l;refine bB (Y.m1 Y.T.aau.c (A4 Y.T) [01] aR S Go #[_,he,hv _ #[Z.B.r,dr,Z.B.q,Z.B.kd,Z.B.fn,Z.B.ds,Z.B.bl,n,u,kk,Go,er,k1,GF (show kk.length<=4000 by lia) [01],?_]] hp KN);exact q _ (R.go (S.aiR (jV ft) (by lia) k1) (eY (.inr (.inl Go))) l R.w)
def k9 {te:TE}(Y:RX X Z.a Z.E) (he:PE X e te) (hv: ∀Q:VK,Q (.str (sb u)) H->te (FB (.ref Z.B.r)::σ) H Q) (ft:Kn.taken u=Gc) (R:RS Z F b H t (Kn.with u) p)
  (q: ∀H',RS Z F b H' t Kn p->Bd X ss D (FB (.ref Z.B.r)::σ) H') (hp:iB p2 p4:=by rfl) (KN:F9 [e] X.env=[[001]]:=by rfl):
  Bd X (.Expr (.Call (.Attribute [005] "forget" p2) [e] [] p4) p5::ss) D (FB (.ref Z.B.r)::σ) H:=by
 rw[00];rw[02];obtain⟨kk,k1,k2,k3⟩:=S.kn.vals;obtain⟨hu,S'⟩:=S.forget (jV ft) k1;refine bB (Y.m1 Y.T.Xu.c (qc Y.T) [01] aR S Go #[_,he,hv _ #[Z.B.r,dr,Z.B.q,Z.B.kd,Z.B.fn,Z.B.ds,Z.B.bl,n,u,kk,Go,er,k1,hu,?_]] hp KN);exact q _ (R.go S' (eY (.inr (.inl Go))) R.l R.w)
def RX.call2 {sp:Sp}{te:TE}(Y:RX X a E) (c:CB X x ["reader","depth"] sp) (he:PE X e te) (hx:(x == [003])=Gc) (KN:F9 [e] X.env=[[001]]):PE X (.Call (.Name x p1) [.Name "reader" p2,e] [] p4) (A3 sp [] E (uk (gc 0) (uk te Ah))):=by
 obtain⟨G,hr,d,hg⟩:=c;exact aF G hr hg d Y.up (aa Y.rd (aa he ag KN) (by show _::F9 [e] X.env=_;rfl)) hx Go (by rw[KN];rfl)
end
def RoX (a:bi) (B:Rb) (H0:Hp) (L:FX) (Kn:FH) (Q:VK) (e:FN) (t:FD):Prop:= ∀H' v n,t.length<L->fz a B H' n t Kn->dg (eV B) H0 H'->ax a (eV B) H' e v->Q v H'
def Rz (w2:GP) (a:bi) (B:Rb) (H0:Hp) (L:FX) (Kn:FH) (Q:VK) (E:XK) (e:FN) (t:FD):Prop:=if w2=FS/\F3 t= .bad then QE a B H0 E 1 (IS t) else RoX a B H0 L Kn Q e t
inductive a0 (a:bi) (w2:GP) (p:FX->FX->FH->FQ FN) (c:FX) (ok:FX->FH->FD->Prop) (vs:Fx V) (H:Hp) (Q:VK) (E:XK):Prop
 |mk (B:Rb) (n:FX) (t:FD) (Kn:FH) (d:FX) (fuel:FX) (_:vs=[.ref B.r, .int d]) (_:d<=12) (_:ok d Kn t) (_:fz a B H n t Kn) (_:16*t.length+c<=fuel) (_:W (p fuel (12-d) Kn) t (Rz w2 a B H t.length Kn Q E) (QE a B H E)):a0 a w2 p c ok vs H Q E
def Lv (j:FX):FX->FH->FD->Prop:=λd _ _=>13<=d+j
def LvS (j:FX) (s:Fy):FX->FH->FD->Prop:=λd _ t=>13<=d+j/\F3 t= .sign s
def LvW (j:FX) (s:Fy):FX->FH->FD->Prop:=λd _ t=>13<=d+j/\F3 t= .word s
def LvC (j:FX):FX->FH->FD->Prop:=λd K t=>13<=d+j/\ ∃u f,F3 t= .word u/\u≠Fz "sum"/\G6.contains u=Gc/\K.funs.find? (λf=>f.1 == u)=FB f
section
variable {k:FX}{w2:GP}{pp:FX->FX->FH->FQ FN}{c:FX}{ok:FX->FH->FD->Prop}{x Hy:Gf}{st:Stmt}{f:FG}{fd:GQ}{N:Fx Gf}{ps:Fx Gf}
def j6 {s:FJ}{H:Hp}{E:XK}(T:aV K mg a) (XC:XT K a) (hk:8<=k) (S:ay N ("reader"::ps) (af st)) (hr:bZ k (A.deeper [011])):
  RX (fg (gb P w) P w K mg base N Hy (af st) f Hn A outer s H E) a E:=
 #[T,XC,hr.mono hk,aA,Jz,S.nd,by
  have e:=S.pre;cases N with
  |nil=>cases e
  |cons x l=>exact GO FB (JZ e).1,(S.par "reader" FL).elim .inl λz=> .inr (.inl z)]
def vK (T:aV K mg a) (XC:XT K a) (hk:8<=k) (F:o9 K x Hy st f fd) (S:ay N ["reader","depth"] (af st))
  (J3: ∀(Hn:FE) (A:Hm) (outer:Fx Env) (s:FJ) (H:Hp) (B:Rb) (t:FD) (Kn:FH) (d fuel:FX) (Q:VK) (E:XK),bZ k (A.deeper [011])->d<=12->ok d Kn t->16*t.length+c<=fuel->Kn.values.length+t.length<=4000->
   let X:=fg (gb P w) P w K mg base N Hy (af st) f Hn A outer s H E
   let D:eI:= { nx:=λ_ H'=>Q .Jm H',rt:=Q }
   let Z:Zf FN:=#[a,E,B,t.length,H,Rz w2 a B H t.length Kn Q E]
   RX X a E->RS Z [] Gc H t Kn (pp fuel (12-d) Kn)->Bd X (bh st) D (L2.start N [.ref B.r, .int d]) H):bW P w K mg base (gb P w) (k+1) f fd ["reader","depth"] (a0 a w2 pp c ok):=by
 refine fW F S [03] [02];obtain⟨B,n,t,Kn,d,fuel,rfl,hd,ho,St,hf,hW⟩:=h;exact J3 Hn A outer s H B t Kn d fuel Q E hr hd ho hf St.kn.len (j6 T XC hk S hr) #[#[n,St],dg.refl,λ{i x} e=>(by cases e),F5 _,hW]
end
section
variable {X:Cx}{β:Type}{Z:Zf β}{F:Fx (Fk×V)}{b:GP}{H:Hp}{t:FD}{Kn:FH}{D:eI}{ss:Fx Stmt}{σ:L2.St}{p0 p1 p2 p3 p4 p5:Pos}{j:FX}{v y:Gf}{s:String}{E:XK}{d:FX}
def RS.done {H0:Hp}{w2:GP}{Q:VK}{v:V}(R:RS #[a,E,B,L,H0,Rz w2 a B H0 L Kn Q E] F FS H t Kn (pure e)) (h:ax a (eV B) H e v) (nb:w2=FS->F3 t≠ .bad:=by intro z;cases z):Q v H:=by
 rw[00];have w:=R.w;rw[B3] at w;have w:Rz w2 a B H0 L Kn Q E e t:=w;unfold Rz at w;rw[FF λz=>nb z.1 z.2] at w;exact w H v n R.l S R.k h
def RS.tail {w2:GP}{Q:VK}{pp:FX->FX->FH->FQ FN}{c f:FX}{ok:FX->FH->FD->Prop}(R:RS #[a,E,B,t.length,H,Rz w2 a B H t.length Kn Q E] F b H t Kn (pp f (12-d) Kn)) (hd:d<=12) (ho:ok d Kn t) (hf:16*t.length+c<=f):a0 a w2 pp c ok [.ref B.r, .int d] H Q E:=by
 rw[00];exact#[B,n,t,Kn,d,f,Go,hd,ho,S,hf,R.w]
def yN (i:FX) {g:FX->FQ β}(Y:RX X Z.a Z.E) (hd:d<=12) (nb:F3 t≠ .bad) (R:RS Z F b H t Kn (HR (12-d)>>=g)) (q:d<12->RS Z F b H t Kn (g (12-(d+1)))->Bd X ss D ((FB (.ref Z.B.r)::FB (.int d)::σ).set i (FB (.int ((d+1:FX):Int)))) H)
  (h:Sl X i y:=by exact#[Go,Hs Go,Go]) (h1:X.N[1]?=FB ("depth":Gf):=by rfl) (v1:o6 X.env.scope "depth":=by exact Hs Go) (hg:Gl X "deeper":=by rfl):
  Bd X (.Assign [.Name y p0] (.Call (.Name "deeper" p1) [.Name "reader" p2, .Name "depth" p3] [] p4) p5::ss) D (FB (.ref Z.B.r)::FB (.int d)::σ) H:=by
 rw[00];obtain⟨⟨x,xp⟩,t',rfl,tok,RB,Ng,_⟩:=S.wh.first;have hW:=R.w;rw[jM] at hW;have nx:x≠ .bad:=nb;refine aO i Y.nd (h:=h) #[_,Y.call2 #[amu Y.T Y.C,Y.hr.mono [01],Y.T.d_g.c,hg] (dR h1 v1) [01] Go,Z.B.r,Z.B.q,Z.B.kd,Z.B.fn,Z.B.ds,Z.B.bl,n,(x,xp),t',d,Go,S.rd,λe=>?_,λe=>?_]
 .rw[FF nx]
  exact fJ (p:=HR (12-d)) (n:=6) (by unfold HR;rw[FI (by lia)]) nb hW H R.k
 .have ed:HR (12-d) ((x,xp)::t')= .ok (12-(d+1),(x,xp)::t'):=by unfold HR;rw[FF (by lia),show 12-d-1=12-(d+1) by lia]
  rw[yE ed] at hW;exact q (by lia) #[R.S,R.k,R.f,R.l,hW]
def En (Z:Zf β) (g:FN->FQ β):Prop:= ∀e r,F3 r= .bad->W (g e) r Z.Ro (QE Z.a Z.B Z.H0 Z.E)->QE Z.a Z.B Z.H0 Z.E 1 (IS r)
def n9 {g:FN->FQ β}(h: ∀e,aM (g e)):En Z g:=λe _ nb w=>(h e).Me nb w
def amL {H0:Hp}{Q:VK}{g:FN->FN} :En #[a,E,B,L,H0,Rz FS a B H0 L Kn Q E] (λy=>pure (g y)):=λe r nb w=>by
 rw[B3] at w;have w:Rz FS a B H0 L Kn Q E (g e) r:=w;unfold Rz at w;rw[FI #[Go,nb]] at w;exact w
def RS.Vg {w2:GP}{g:FN->FQ β}{pp:FX->FX->FH->FQ FN}{c f:FX}{ok:FX->FH->FD->Prop}{Q:VK}(R:RS Z F b H t Kn (pp f (12-d) Kn>>=g)) (st:w2=FS->En Z g) (hd:d<=12) (ho:ok d Kn t) (hf:16*t.length+c<=f)
  (q: ∀e v H' t',(w2=FS->F3 t'≠ .bad)->RS Z ((.e e,v)::F) FS H' t' Kn (g e)->Q v H'):a0 Z.a w2 pp c ok [.ref Z.B.r, .int d] H Q Z.E:=by
 rw[00];have hW:=R.w;rw[jM] at hW;have l:t.length<=Z.L:=F7 (Kr _ _) R.l;refine#[Z.B,n,t,Kn,d,f,Go,hd,ho,S,hf,hW.mono (λe r w=>?_) λ_ _ z H' k=>z H' (R.k.trans k)];unfold Rz;by_cases nb:w2=FS/\F3 r= .bad
 .rw[FI nb]
  exact λH' k=>st nb.1 e r nb.2 w H' (R.k.trans k)
 .rw[FF nb]
  exact λH' v n' l' S' k' h=>q e v H' r (λh z=>nb #[h,z]) ((R.go (b':=FS) S' k' (show r.length+1<=Z.L by lia) w).and h)
def RS.call {g:FN->FQ β}{pp:FX->FX->FH->FQ FN}{c f:FX}{ok:FX->FH->FD->Prop}{Q:VK}(R:RS Z F b H t Kn (pp f (12-d) Kn>>=g)) (st:En Z g) (hd:d<=12) (ho:ok d Kn t) (hf:16*t.length+c<=f)
  (q: ∀e v H' t',F3 t'≠ .bad->RS Z ((.e e,v)::F) FS H' t' Kn (g e)->Q v H'):a0 Z.a FS pp c ok [.ref Z.B.r, .int d] H Q Z.E:=R.Vg (λ_=>st) hd ho hf λe v H' t' nb=>q e v H' t' (nb Go)
def RS.aiU {g:FN->FQ β}{pp:FX->FX->FH->FQ FN}{c f:FX}{ok:FX->FH->FD->Prop}{Q:VK}(R:RS Z F b H t Kn (pp f (12-d) Kn>>=g)) (hd:d<=12) (ho:ok d Kn t) (hf:16*t.length+c<=f)
  (q: ∀e v H' t',RS Z ((.e e,v)::F) FS H' t' Kn (g e)->Q v H'):a0 Z.a Gc pp c ok [.ref Z.B.r, .int d] H Q Z.E:=R.Vg (λz=>nomatch z) hd ho hf λe v H' t' _=>q e v H' t'
def eB (i:FX) {x:Gf}{g:FN->FQ β}{pp:FX->FX->FH->FQ FN}{c f:FX}{ok:FX->FH->FD->Prop}{te:TE}(Y:RX X Z.a Z.E) (cl:CB X x ["reader","depth"] (a0 Z.a FS pp c ok)) (he:PE X e te) (hv: ∀Q:VK,Q (.int d) H->te (FB (.ref Z.B.r)::σ) H Q)
  (R:RS Z F FS H t Kn (pp f (12-d) Kn>>=g)) (st:En Z g) (hd:d<=12) (ho:ok d Kn t) (hf:16*Z.L+c<=f+16)
  (q: ∀e v H' t',RS Z ((.e e,v)::F) FS H' t' Kn (g e)->Bd X ss D ((FB (.ref Z.B.r)::σ).set i (FB v)) H')
  (h:Sl X i y:=by exact#[Go,Hs Go,Go]) (hx:(x == [003])=Gc:=by decide) (KN:F9 [e] X.env=[[001]]:=by rfl):
  Bd X (.Assign [.Name y p0] (.Call (.Name x p1) [.Name "reader" p2,e] [] p4) p5::ss) D (FB (.ref Z.B.r)::σ) H:=by
 have l:t.length+1<=Z.L:=R.l;refine aO i Y.nd #[_,Y.call2 cl he hx KN,?_] h;exact hv _ (R.call st hd ho (by lia) λe v H' t' _ R'=>q e v H' t' R')
def RX.make {c:Gf}{C:FG}{fs:Fx Gf}{e:HX}{es:Fx HX}{tt:TA}(Y:RX X a E) (nb:NB X c C fs) (ha:PA X (e::es) tt) (hg:Gl X c) (hx:(c == [003])=Gc) (he:F9 (e::es) X.env=[001]::F9 es X.env) (Ng:(Jr p4 (F9 es X.env)).any (·.1)=Gc):
  PE X (.Call (.Name c p1) (e::es) [] p4) (AR C (lz C fs) [] E0 tt):=by
 obtain⟨M,G,b,hm⟩:=nb;exact h9 M G (Y.hr.mono [01]) hg hm b .nil aR ha hx he Ng
def jU {c:Gf}{C:FG}{fs:Fx Gf}{e:HX}{es:Fx HX}{Q:VK}(Y:RX X a E) (nb:NB X c C fs) (q:Pa X (e::es) σ H λws H1=> ∀x dx,H1 x=FM->H1 dx=FM->dx≠x->lz C fs (.ref x::(ws++[])) (aI (aI H1 dx (.own x)) x (.ins C dx [])) (λv H2=>v= .Jm/\Q (.ref x) H2) E0)
  (hg:Gl X c:=by rfl) (hx:(c == [003])=Gc:=by decide) (he:F9 (e::es) X.env=[001]::F9 es X.env:=by rfl) (Ng:(Jr p4 (F9 es X.env)).any (·.1)=Gc:=by rfl):Pe X (.Call (.Name c p1) (e::es) [] p4) σ H Q:=#[_,Y.make nb uB hg hx he Ng,q]
def RS.new {p:FQ β}{Q:VK}(R:RS Z F b H t Kn p) (hl:ws.length=fs.length) (q: ∀u H',bF (eV Z.B) H' C (fs.zip ws) u->RS Z F b H' t Kn p->Q u H'):
  ∀x dx,H x=FM->H dx=FM->dx≠x->lz C fs (.ref x::(ws++[])) (aI (aI H dx (.own x)) x (.ins C dx [])) (λv H2=>v= .Jm/\Q (.ref x) H2) E0:=λx dx hx VA ne=>by
 rw[00];refine#[x,dx,ws++[],Go,by rw[Hj];exact hl,ae,λH' h1 h2=>#[Go,?_]];rw[Hj] at h1;have sm:aU H H':=λb o e=>h2 b o (by rw[ac (aj e hx),ac (aj e VA)];exact e) (aj e hx);exact q _ H' #[x,dx,Go,S.fresh hx,h1] (R.go (S.same sm) (OS.aU.keeps sm) R.l R.w)
def ig {p:FQ β}{c:Gf}(Y:RX X Z.a Z.E) (nb:NB X c C fs) (ha:PA X (e::es) tt) (hv: ∀Q:Fx V->Hp->Prop,Q ws H->tt σ H Q) (R:RS Z F b H t Kn p) (hl:ws.length=fs.length) (q: ∀u H',bF (eV Z.B) H' C (fs.zip ws) u->RS Z F b H' t Kn p->D.rt u H')
  (hg:Gl X c:=by rfl) (hx:(c == [003])=Gc:=by decide) (he:F9 (e::es) X.env=[001]::F9 es X.env:=by rfl) (Ng:(Jr p4 (F9 es X.env)).any (·.1)=Gc:=by rfl):
  Bd X [.Return (FB (.Call (.Name c p1) (e::es) [] p4)) p5] D σ H:=eE (aH (Y.make nb ha hg hx he Ng)) (hv _ (R.new hl q))
end
def yP:ee "(" (Fz "("):=[008]
def wj:ee ")" (Fz ")"):=[008]
def vQ:c7 "sum" (Fz "sum"):=[007]
def Zh:c7 "in" (Fz "in"):=[007]
def Zi:ee ".." (Fz ".."):=[008]
def Zj:ee ":" (Fz ":"):=[008]
def sW {Kn:FH}{t:FD} :He (f+1) d Kn ((.word (Fz "sum"),xp)::t)=
  (HR d>>=λe=>G7>>=λ_=>Gz "(">>=λ_=>Hg Kn>>=λx=>HK "in">>=λ_=>Gg f e Kn>>=λlo=>Gz "..">>=λ_=>Gg f e Kn>>=λhi=>Gz ":">>=λ_=>
   Gg f e (Kn.with x)>>=λy=>Gz ")">>=λ_=>pure (.sum x lo hi y):FQ FN) ((.word (Fz "sum"),xp)::t):=by
 rw[He];show(if Fz "sum"=Fz "sum" then _ else _)=_
 rw[FI Go]
def xT:c7 "if" (Fz "if"):=[007]
def E1:c7 "then" (Fz "then"):=[007]
def rP:c7 "else" (Fz "else"):=[007]
def Ey {Kn:FH}{t:FD} :Gg (f+1) d Kn ((.word (Fz "if"),xp)::t)=
  (HR d>>=λe=>G7>>=λ_=>Gg f e Kn>>=λc=>HK "then">>=λ_=>Gg f e Kn>>=λx=>HK "else">>=λ_=>Gg f e Kn>>=λy=>pure (.pick c x y):FQ FN) ((.word (Fz "if"),xp)::t):=by
 rw[Gg];show(if FR ((.word (Fz "if"),xp)::t) "if"=FS then _ else _)=_
 rw[FI (by unfold FR;exact Ht _)]
def vE {Kn:FH}{t:FD} :He (f+1) d Kn ((.sign (Fz "("),xp)::t)=
  (HR d>>=λe=>G7>>=λ_=>Gg f e Kn>>=λx=>Gz ")">>=λ_=>pure x:FQ FN) ((.sign (Fz "("),xp)::t):=by
 rw[He];show(if GA ((.sign (Fz "("),xp)::t) "("=FS then _ else _)=_
 rw[FI (by unfold GA;exact Ht _)]
def e8 {β:Type}{Z:Zf β}{F:Fx (Fk×V)}{b:GP}{H:Hp}{t:FD}{Kn:FH}{p:FQ β}(R:RS Z F b H t Kn p) (h:F3 t= .word u): ∃xp r,t=(.word u,xp)::r:=by
 rw[00];obtain⟨⟨x,xp⟩,r,rfl,_,_,_,_⟩:=S.wh.first;exact#[xp,r,by rw[show x= .word u from h]]
def xi {β:Type}{Z:Zf β}{F:Fx (Fk×V)}{b:GP}{H:Hp}{t:FD}{Kn:FH}{p:FQ β}(R:RS Z F b H t Kn p) (h:F3 t= .sign u): ∃xp r,t=(.sign u,xp)::r:=by
 rw[00];obtain⟨⟨x,xp⟩,r,rfl,_,_,_,_⟩:=S.wh.first;exact#[xp,r,by rw[show x= .sign u from h]]
def Cq (h:16*L+c<=f) (hc:6<=c): ∃g,f=g+1/\16*L+12<=g+16:=#[f-1,by lia,by lia]
section
variable {β:Type}{Z:Zf β}{H:Hp}
def iU {g:Nc->FQ β}(Y:RX X Z.a Z.E) (l:c7 v (Fz s)) (R:RS Z F b H ((.word (Fz s),xp)::t) Kn (G7>>=g)) (q: ∀H' t',RS Z F FS H' t' Kn (g ())->Bd X ss D (FB (.ref Z.B.r)::σ) H') (hp:iB p2 p4:=by rfl):
  Bd X (.Expr (.Call (.Attribute [005] "expect" p2) [.Constant (.str v) j p3] [] p4) p5::ss) D (FB (.ref Z.B.r)::σ) H:=
 rS Y R (λr e ok=>by
  cases e;exact AG t (by rw[ca ok l];exact Ht _) (by intro z;cases z) (by intro z;cases z with|inl z=>cases z|inr z=>cases z)) q hp
def CZ {g:Nc->FQ β}(Y:RX X Z.a Z.E) (l:ee v (Fz s)) (R:RS Z F b H ((.sign (Fz s),xp)::t) Kn (G7>>=g)) (q: ∀H' t',RS Z F FS H' t' Kn (g ())->Bd X ss D (FB (.ref Z.B.r)::σ) H') (hp:iB p2 p4:=by rfl):
  Bd X (.Expr (.Call (.Attribute [005] "expect" p2) [.Constant (.str v) j p3] [] p4) p5::ss) D (FB (.ref Z.B.r)::σ) H:=
 rS Y R (λr e ok=>by
  cases e;exact AG t (by rw[cT ok l];exact Ht _) (by intro z;cases z) (by intro z;cases z with|inl z=>cases z|inr z=>cases z)) q hp
end
def aiV (T:aV K mg a) (XC:XT K a) (hk:8<=k)
  (G:T.Tj.O P w base k (a0 a FS Gg 12 (Lv j))):
  T.Xy.O P w base (k+1) (a0 a Gc He 6 (LvW (j+1) (Fz "sum"))):=by
 refine vK T XC hk T.Xy.F ahO λHn A outer s H B t Kn d fuel Q E hr hd ho hf hm=>?_;intro X D Z Y R;obtain⟨hl,h0⟩:=ho;obtain⟨xp,r,rfl⟩:=e8 R h0;obtain⟨f,rfl,hF⟩:=Cq hf [01];have c:CB X "read_exp" ["reader","depth"] (a0 a FS Gg 12 (Lv j)):=#[G,hr,T.Tj.c,Go];have hl:13<=d+1+j:=by rw[Ny];exact hl
 refine yN 2 Y hd (by intro z;cases z) (R.as sW) λlt R=>?_;refine iU Y vQ R λH t R=>?_;refine cJ Y yP R λH t R=>?_;refine ji 3 Y R λu H t ft R=>?_;refine ld Y Zh R λH t R=>?_;refine eB 4 Y c (pv 2) [05] R (n9 λx=>(bj "..").bind) lt hl hF λe1 v1 H t R=>?_;refine cJ Y Zi R λH t R=>?_;refine eB 5 Y c (pv 2) [05] R (n9 λx=>(bj ":").bind) lt hl hF λe2 v2 H t R=>?_;refine cJ Y Zj R λH t R=>?_;refine gN Y (pv 3) [05] ft hm R λH R=>?_;refine eB 6 Y c (pv 2) [05] R (n9 λx=>(bj ")").bind) lt hl hF λe3 v3 H t R=>?_;refine k9 Y (pv 3) [05] ft R λH R=>?_;refine cJ Y wj R λH t R=>?_;refine ig Y (abD T) (aa (pv 3) (aa (pv 4) (aa (pv 5) (aa (pv 6) ag)))) [05] R Go λu H i R=>R.done ?_;unfold ax;exact#[v1,v2,v3,i,R.f (i:=2) Go,R.f (i:=1) Go,R.f (i:=0) Go]
def aiW (T:aV K mg a) (XC:XT K a) (hk:8<=k)
  (G:T.Tj.O P w base k (a0 a FS Gg 12 (Lv j))):
  T.Xx.O P w base (k+1) (a0 a Gc He 6 (LvS (j+1) (Fz "("))):=by
 refine vK T XC hk T.Xx.F ahN λHn A outer s H B t Kn d fuel Q E hr hd ho hf hm=>?_;intro X D Z Y R;obtain⟨hl,h0⟩:=ho;obtain⟨xp,r,rfl⟩:=xi R h0;obtain⟨f,rfl,hF⟩:=Cq hf [01];have c:CB X "read_exp" ["reader","depth"] (a0 a FS Gg 12 (Lv j)):=#[G,hr,T.Tj.c,Go];have hl:13<=d+1+j:=by rw[Ny];exact hl
 refine yN 2 Y hd (by intro z;cases z) (R.as vE) λlt R=>?_;refine CZ Y yP R λH t R=>?_;refine eB 3 Y c (pv 2) [05] R (n9 λx=>(bj ")").bind) lt hl hF λe v H t R=>?_;refine cJ Y wj R λH t R=>?_;exact aN (bA 3 (R.done (R.f (i:=0) Go)))
def aiX (T:aV K mg a) (XC:XT K a) (hk:8<=k)
  (G:T.Tj.O P w base k (a0 a FS Gg 12 (Lv j))):
  T.Xv.O P w base (k+1) (a0 a FS Gg 12 (LvW (j+1) (Fz "if"))):=by
 refine vK T XC hk T.Xv.F ahK λHn A outer s H B t Kn d fuel Q E hr hd ho hf hm=>?_;intro X D Z Y R;obtain⟨hl,h0⟩:=ho;obtain⟨xp,r,rfl⟩:=e8 R h0;obtain⟨f,rfl,hF⟩:=Cq hf [01];have c:CB X "read_exp" ["reader","depth"] (a0 a FS Gg 12 (Lv j)):=#[G,hr,T.Tj.c,Go];have hl:13<=d+1+j:=by rw[Ny];exact hl
 refine yN 2 Y hd (by intro z;cases z) (R.as Ey) λlt R=>?_;refine iU Y xT R λH t R=>?_;refine eB 3 Y c (pv 2) [05] R (n9 λx=>(eZ "then").bind) lt hl hF λe1 v1 H t R=>?_;refine ld Y E1 R λH t R=>?_;refine eB 4 Y c (pv 2) [05] R (n9 λx=>(eZ "else").bind) lt hl hF λe2 v2 H t R=>?_;refine ld Y rP R λH t R=>?_;have l:t.length+1<=Z.L:=R.l;refine aN (jU Y (zN T) (aP (bA 3 (aP (bA 4 (aP #[_,Y.call2 c (pv 2) [01] Go,R.call amL lt hl (by lia) λe3 v3 H t nb R=>cH (R.new Go λu H i R=>R.done ?_ λ_=>nb)]))))));unfold ax;exact#[v1,v2,v3,i,R.f (i:=2) Go,R.f (i:=1) Go,R.f (i:=0) Go]
end OS
namespace OS
open Vbemac
def ors (f d:FX) (Kn:FH):FQ FN:=do
 let x<-ands f d Kn
 let l<-moreOr f d Kn
 return (match l with
  | .nil=>x
  |l=> .either x l)
abbrev Pairs:=Fx (GK×Exp)
def vz:Pairs->Exps->Exps
 |[],l=>l
 |x::r,l=> .cons x.2 (vz r l)
def uZ:Pairs->Rest->Rest
 |[],l=>l
 |x::r,l=> .cons x.1 x.2 (uZ r l)
def sx:vz (es++[x]) l=vz es (.cons x.2 l):=by
 induction es with
 |nil=>rfl
 |cons y r ih=>show Exps.cons y.2 (vz (r++[x]) l)=_;rw[ih];rfl
def sY:uZ (es++[x]) l=uZ es (.cons x.1 x.2 l):=by
 induction es with
 |nil=>rfl
 |cons y r ih=>show Rest.cons y.1 y.2 (uZ (r++[x]) l)=_;rw[ih];rfl
def bL {α β:Type}{p:P α}{g:α->P β}{x:α}(h:p t= .ok (x,r)):(p>>=g) t=g x r:=by
 show Gh p g t=_
 unfold Gh;rw[h]
 rfl
def ke {α β:Type}{p q:P α}{g:α->P β}(e:p t=q t'):(p>>=g) t=(q>>=g) t':=by
 show Gh p g t=Gh q g t'
 unfold Gh;rw[e]
structure ChP (p sub:FX->FX->Known->P Exp) (c c':FX) (sg:Fx GK) (once:GP) (res:Exp->Pairs->Exp) where
 q:FX->FX->Known->Exp->Pairs->P Exp
 start: ∀ {fuel d:FX}{Kn:Known}{n:FX},16*n+c<=fuel-> ∃f,16*n+c'<=f/\p fuel d Kn=(sub f d Kn>>=λe=>q f d Kn e [])
 Qc: ∀f d Kn e es,ib (q f d Kn e es)
 stop: ∀ {f d:FX}{Kn:Known}{e:Exp}{es:Pairs}{t:Nf},1<=f->(once=FS->es.length<=1)->(once=FS/\es≠[]\/ ∀op,peek t= .sign op->op∉sg)->q f d Kn e es t= .ok (res e es,t)
 go: ∀ {f d:FX}{Kn:Known}{e:Exp}{es:Pairs}{x:Tok×Pos}{t:Nf}{op:GK},16*(t.length+1)+c'<=f->(once=FS->es=[])->x.1= .sign op->op∈sg-> ∃f',16*t.length+c'<=f'/\q f d Kn e es (x::t)=(sub f' d Kn>>=λe2=>q f' d Kn e (es++[(op,e2)])) t
def Fs (e:Exp):Exps->Exp
 | .nil=>e
 |l=> .either e l
def bth (e:Exp):Exps->Exp
 | .nil=>e
 |l=> .both e l
def sms (e:Exp):Rest->Exp
 | .nil=>e
 |l=> .sums e l
def o7 (e:Exp):Rest->Exp
 | .nil=>e
 |l=> .prods e l
def S0:Fx GK:=[text "||"]
def S1:Fx GK:=[text "&&"]
def S2:Fx GK:=["==","!=","<=",">=","<",">"].map text
def S3:Fx GK:=["+","-"].map text
def S4:Fx GK:=["*","/","%"].map text
def abW {f d:FX}{Kn:Known} :ors f d Kn=(ands f d Kn>>=λx=>moreOr f d Kn>>=λl=>pure (Fs x l):P Exp):=by
 unfold ors
 congr 1
def Em {f d:FX}{Kn:Known} :ands (f+1) d Kn=(compared f d Kn>>=λx=>moreAnd f d Kn>>=λl=>pure (bth x l):P Exp):=by
 rw[ands]
 congr 1
def AQ {f d:FX}{Kn:Known} :added (f+1) d Kn=(times f d Kn>>=λx=>moreAdded f d Kn>>=λl=>pure (sms x l):P Exp):=by
 rw[added]
 congr 1
def AS {f d:FX}{Kn:Known} :times (f+1) d Kn=(unary f d Kn>>=λx=>moreTimes f d Kn>>=λl=>pure (o7 x l):P Exp):=by
 rw[times]
 congr 1
def nB {t:Nf}{s:String}{l:Fx GK}(h: ∀op,peek t= .sign op->op∉l) (m:text s∈l):Mv t s=Gc:=by
 unfold Mv;rw[beq_eq_false_iff_ne];exact λz=>h _ z m
def jW (h: ∀op,peek t= .sign op->op∉l.map text):L6 l t= .ok (FM,t):=by
 unfold L6;cases e:peek t with
 |sign s=>
  dsimp only;rw[FF (by rw[GN];exact h s e)]
 |_=>rfl
def lK (e:x.1= .sign op) (h:op∈l.map text):L6 l (x::t)= .ok (FB op,t):=by
 unfold L6;have e:peek (x::t)= .sign op:=e;rw[e];dsimp only;rw[FI (by rw[GN];exact h)]
 rfl
def vj {f d:FX}{Kn:Known}{t:Nf}(h:Mv t "||"=Gc):moreOr (f+1) d Kn t= .ok (.nil,t):=by
 rw[moreOr];show(Gh (ifSign "||") _) t=_;unfold Gh ifSign;rw[h]
 rfl
def ux {f d:FX}{Kn:Known}{t:Nf}(h:Mv t "&&"=Gc):moreAnd (f+1) d Kn t= .ok (.nil,t):=by
 rw[moreAnd];show(Gh (ifSign "&&") _) t=_;unfold Gh ifSign;rw[h]
 rfl
def zn {f d:FX}{Kn:Known}{x:Tok×Pos}{t:Nf}(h:Mv (x::t) "||"=FS):moreOr (f+1) d Kn (x::t)=(ands f d Kn>>=λa=>moreOr f d Kn>>=λl=>pure (.cons a l):P Exps) t:=by
 rw[moreOr];show(Gh (ifSign "||") _) (x::t)=_;unfold Gh ifSign;rw[h]
 rfl
def uQ {f d:FX}{Kn:Known}{x:Tok×Pos}{t:Nf}(h:Mv (x::t) "&&"=FS):moreAnd (f+1) d Kn (x::t)=(compared f d Kn>>=λa=>moreAnd f d Kn>>=λl=>pure (.cons a l):P Exps) t:=by
 rw[moreAnd];show(Gh (ifSign "&&") _) (x::t)=_;unfold Gh ifSign;rw[h]
 rfl
def pk {f d:FX}{Kn:Known}{t:Nf}(h: ∀op,peek t= .sign op->op∉S3):moreAdded (f+1) d Kn t= .ok (.nil,t):=by
 rw[moreAdded];show(Gh (L6 ["+","-"]) _) t=_;unfold Gh;rw[jW h]
 rfl
def pc {f d:FX}{Kn:Known}{t:Nf}(h: ∀op,peek t= .sign op->op∉S4):moreTimes (f+1) d Kn t= .ok (.nil,t):=by
 rw[moreTimes];show(Gh (L6 ["*","/","%"]) _) t=_;unfold Gh;rw[jW h]
 rfl
def rQ {f d:FX}{Kn:Known}{x:Tok×Pos}{t:Nf}{op:GK}(e:x.1= .sign op) (h:op∈S3):moreAdded (f+1) d Kn (x::t)=(times f d Kn>>=λa=>moreAdded f d Kn>>=λl=>pure (.cons op a l):P Rest) t:=by
 rw[moreAdded];show(Gh (L6 ["+","-"]) _) (x::t)=_;unfold Gh;rw[lK e h]
 rfl
def qY {f d:FX}{Kn:Known}{x:Tok×Pos}{t:Nf}{op:GK}(e:x.1= .sign op) (h:op∈S4):moreTimes (f+1) d Kn (x::t)=(unary f d Kn>>=λa=>moreTimes f d Kn>>=λl=>pure (.cons op a l):P Rest) t:=by
 rw[moreTimes];show(Gh (L6 ["*","/","%"]) _) (x::t)=_;unfold Gh;rw[lK e h]
 rfl
def nO (f d:FX) (Kn:Known) (a:Exp):P Exp:=L6 ["==","!=","<=",">=","<",">"]>>=λs=>match s with
 |none=>pure a
 |some op=>added f d Kn>>=λb=>pure (.cmp op a b)
def uF {f d:FX}{Kn:Known} :compared (f+1) d Kn=(added f d Kn>>=λx=>nO f d Kn x:P Exp):=by
 rw[compared]
 rfl
def wb (f d:FX) (Kn:Known) (a:Exp):ib (nO f d Kn a):=(tH _).bind λs=>by
 cases s with
 |none=>exact fN _
 |some op=>exact(j9 f d Kn).bind.Qc
def zR {f d:FX}{Kn:Known}{a:Exp}{t:Nf}(h: ∀op,peek t= .sign op->op∉S2):nO f d Kn a t= .ok (a,t):=by
 unfold nO;show(Gh (L6 ["==","!=","<=",">=","<",">"]) _) t=_;unfold Gh;rw[jW h]
 rfl
def BT {f d:FX}{Kn:Known}{a:Exp}{x:Tok×Pos}{t:Nf}{op:GK}(e:x.1= .sign op) (h:op∈S2):nO f d Kn a (x::t)=(added f d Kn>>=λb=>pure (.cmp op a b):P Exp) t:=by
 unfold nO;show(Gh (L6 ["==","!=","<=",">=","<",">"]) _) (x::t)=_;unfold Gh;rw[lK e h]
 rfl
def xm {x:Tok×Pos}{t:Nf}{op:GK}{s:String}(e:x.1= .sign op) (h:op∈[text s]):Mv (x::t) s=FS:=by
 unfold Mv;obtain rfl:=Ga.mp h;exact beq_iff_eq.mpr e
def amM:ChP ors ands 11 11 S0 Gc (λe es=>Fs e (vz es .nil)) where
 q f d Kn e es:=moreOr f d Kn>>=λl=>pure (Fs e (vz es l))
 start {fuel d Kn n} hf:=#[fuel,by lia,by rw[abW];rfl]
 Qc f d Kn e es:=(sr f d Kn).bind λl=>fN _
 stop {f d Kn e es t} hf _ h:=by
  rw[03];rcases h with⟨h,_⟩|h
  .cases h
  .exact bL (vj (nB h (Ga.mpr Go)))
 go {f d Kn e es x t op} hf _ e1 h:=by
  rw[03];refine#[f,by lia,?_];rw[ke (zn (xm e1 h)),bind_assoc];refine GO (λg=>(ands f d Kn>>=g:P Exp) t) (funext λa=>?_);rw[bind_assoc];simp only[sx]
  rfl
def aiY:ChP ands compared 11 10 S1 Gc (λe es=>bth e (vz es .nil)) where
 q f d Kn e es:=moreAnd f d Kn>>=λl=>pure (bth e (vz es l))
 start {fuel d Kn n} hf:=by
  obtain⟨f,rfl⟩: ∃f',fuel=f'+1:=#[fuel-1,by lia];exact#[f,by lia,by rw[Em];rfl]
 Qc f d Kn e es:=(qW f d Kn).bind λl=>fN _
 stop {f d Kn e es t} hf _ h:=by
  rw[03];rcases h with⟨h,_⟩|h
  .cases h
  .exact bL (ux (nB h (Ga.mpr Go)))
 go {f d Kn e es x t op} hf _ e1 h:=by
  rw[03];refine#[f,by lia,?_];rw[ke (uQ (xm e1 h)),bind_assoc];refine GO (λg=>(compared f d Kn>>=g:P Exp) t) (funext λa=>?_);rw[bind_assoc];simp only[sx]
  rfl
def aiZ:ChP added times 9 8 S3 Gc (λe es=>sms e (uZ es .nil)) where
 q f d Kn e es:=moreAdded f d Kn>>=λl=>pure (sms e (uZ es l))
 start {fuel d Kn n} hf:=by
  obtain⟨f,rfl⟩: ∃f',fuel=f'+1:=#[fuel-1,by lia];exact#[f,by lia,by rw[AQ];rfl]
 Qc f d Kn e es:=(nI f d Kn).bind λl=>fN _
 stop {f d Kn e es t} hf _ h:=by
  rw[03];rcases h with⟨h,_⟩|h
  .cases h
  .exact bL (pk h)
 go {f d Kn e es x t op} hf _ e1 h:=by
  rw[03];refine#[f,by lia,?_];rw[ke (rQ e1 h),bind_assoc];refine GO (λg=>(times f d Kn>>=g:P Exp) t) (funext λa=>?_);rw[bind_assoc];simp only[sY]
  rfl
def ai0:ChP times unary 8 7 S4 Gc (λe es=>o7 e (uZ es .nil)) where
 q f d Kn e es:=moreTimes f d Kn>>=λl=>pure (o7 e (uZ es l))
 start {fuel d Kn n} hf:=by
  obtain⟨f,rfl⟩: ∃f',fuel=f'+1:=#[fuel-1,by lia];exact#[f,by lia,by rw[AS];rfl]
 Qc f d Kn e es:=(nY f d Kn).bind λl=>fN _
 stop {f d Kn e es t} hf _ h:=by
  rw[03];rcases h with⟨h,_⟩|h
  .cases h
  .exact bL (pc h)
 go {f d Kn e es x t op} hf _ e1 h:=by
  rw[03];refine#[f,by lia,?_];rw[ke (qY e1 h),bind_assoc];refine GO (λg=>(unary f d Kn>>=g:P Exp) t) (funext λa=>?_);rw[bind_assoc];simp only[sY]
  rfl
def ai1 (e:Exp):Pairs->Exp
 |[]=>e
 |x::_=> .cmp x.1 e x.2
def amN (f d:FX) (Kn:Known) (e:Exp):Pairs->P Exp
 |[]=>nO f d Kn e
 |x::_=>pure (.cmp x.1 e x.2)
def ai2:ChP compared added 10 9 S2 FS ai1 where
 q:=amN
 start {fuel d Kn n} hf:=by
  obtain⟨f,rfl⟩: ∃f',fuel=f'+1:=#[fuel-1,by lia];exact#[f,by lia,by rw[uF];rfl]
 Qc f d Kn e es:=by
  cases es with
  |nil=>exact wb f d Kn e
  |cons x r=>exact fN _
 stop {f d Kn e es t} hf _ h:=by
  cases es with
  |nil=>
   rcases h with⟨_,h⟩|h
   .exact F6 Go h
   .exact zR h
  |cons x r=>rfl
 go {f d Kn e es x t op} hf h0 e1 h:=by
  obtain rfl:=h0 Go;exact#[f,by lia,BT e1 h]
end OS
namespace OS
open PySem PySem.Spec L2
open PyProof.Rows hiding St
variable {P:Gy}{w:Hf}{K:FC}{mg:Gf->FP FE}{base:Ho}{a:bi}
def Zk {u:Fy}{xp:GS} : ¬jG (.word u,xp):=by intro z;cases z with|inl z=>cases z|inr z=>cases z
def nfS {u:Fy}{xp:GS} : ¬jG (.sign u,xp):=by intro z;cases z with|inl z=>cases z|inr z=>cases z
def nfN {xp:GS} : ¬jG (.num m,xp):=by intro z;cases z with|inl z=>cases z|inr z=>cases z
def uE (h:lZ x=FS): ∃m,x= .num m:=by
 cases x with
 |num m=>exact#[m,Go]
 |_=>cases h
def gW (h:cR x=FS): ∃u,x= .word u/\G6.contains u=Gc:=by
 cases x with
 |word u=>rw[dC] at h;exact#[u,Go,by cases e:G6.contains u;rfl;rw[e] at h;cases h]
 |_=>cases h
def Cd {A:Type} [BEq A] [LawfulBEq A] {x y:A}(h:(x == y)=Gc):x≠y:=beq_eq_false_iff_ne.mp h
def sh:He (f+1) d Kn ((.num m,xp)::t)=(G7>>=λ_=>pure (.num m):FQ FN) ((.num m,xp)::t):=by rw[He];rfl
def vP (h0:lZ x=Gc) (h1:x≠ .sign (Fz "(")) (h2:x≠ .word (Fz "sum")) (h3:cR x=Gc):He (f+1) d Kn ((x,xp)::t)=F8 2 ((x,xp)::t):=by
 rw[He];cases x with
 |num m=>cases h0
 |sign u=>
  show(if GA ((.sign u,xp)::t) "("=FS then _ else F8 2 ((.sign u,xp)::t))=_
  rw[FF (show¬GA ((.sign u,xp)::t) "("=FS from λz=>h1 (beq_iff_eq.mp z))]
 |word u=>
  rw[dC] at h3;show(if u=Fz "sum" then _ else if G6.contains u=FS then _ else _)=_
  rw[FF λz=>h2 (by rw[z]),FI (by cases e:G6.contains u;rw[e] at h3;cases h3;rfl)]
 |eof=>rfl
 |bad=>rfl
def qZ (ns:HU u≠ .word (Fz "sum")) (hk:G6.contains u=Gc) (hf:(Kn.funs.find? λf=>f.1 == u).isSome=Gc):He (f+1) d Kn ((.word u,xp)::t)=if Kn.values.contains u=FS then .ok (.name u,t) else F8 3 ((.word u,xp)::t):=by
 rw[He];show(if u=Fz "sum" then _ else if G6.contains u=FS then _ else _)=_
 rw[FF λz=>ns (by rw[z]),FF (by rw[hk];exact FA),FP.isSome_eq_false_iff.mp hf |> FP.isNone_iff_eq_none.mp]
 rfl
def ai3 (T:aV K mg a) (XC:XT K a) (hk:8<=k)
  (G1:T.Xx.O P w base k (a0 a Gc He 6 (LvS j (Fz "("))))
  (G2:T.Xy.O P w base k (a0 a Gc He 6 (LvW j (Fz "sum"))))
  (G3:T.d_2.O P w base k (a0 a Gc He 6 (LvC j))):
  T.Xw.O P w base (k+1) (a0 a Gc He 6 (Lv j)):=by
 refine vK T XC hk T.Xw.F ahM λHn A outer s H B t Kn d fuel Q E hr hd hl hf hm=>?_;intro X D Z Y R;obtain⟨⟨x,xp⟩,r,rfl⟩:=R.cons;have tok:gk x:=R.tok;have st:=iW fuel (12-d) Kn;refine bI (du (Zg Y T.aao.c (qS T XC) [01] (λ_=>rfl) R st λnb=>#[_,Go,aQ [015] λe0=>?_]))
 .obtain⟨m,rfl⟩:=uE e
  obtain⟨f,rfl,_⟩:=Cq hf [01];exact aN (jU Y (zL T) (aP (iX Y (R.as sh) nfN λH R=>cH (R.new Go λu H i R=>R.done (by unfold ax;exact i)))))
 refine bI (du (je Y R nb #[_,Go,aQ [015] λe1=>?_]))
 .obtain rfl:x=_:=beq_iff_eq.mp ((cT tok yP).symm.trans e)
  exact aN #[_,Y.call2 #[G1,hr,T.Xx.c,Go] (pv 1) [01] Go,R.tail hd #[hl,Go] hf]
 refine bI (du (je Y R nb #[_,Go,aQ [015] λe2=>?_]))
 .obtain rfl:x=_:=beq_iff_eq.mp ((ca tok vQ).symm.trans e)
  exact aN #[_,Y.call2 #[G2,hr,T.Xy.c,Go] (pv 1) [01] Go,R.tail hd #[hl,Go] hf]
 have h1:=Cd ((cT tok yP).symm.trans e1)
 have h2:=Cd ((ca tok vQ).symm.trans e2);obtain⟨f,rfl,_⟩:=Cq hf [01];refine bB (p_e Y R st (λ_ e=>vP e0 h1 h2 e) λ_ e=>?_)
 obtain⟨u,rfl,hu⟩:=gW e;refine aO 2 Y.nd (aiT Y R st λ_=>?_);refine bI (abU Y R (pv 2) [05] (aQ [015] λe3=>?_))
 .obtain⟨g,hg⟩:=Lh.mp e
  exact aN #[_,Y.call2 #[G3,hr,T.d_2.c,Go] (pv 1) [01] Go,R.tail hd #[hl,u,g,Go,λz=>h2 (by rw[z]),hu,hg] hf]
 have ep:=qZ (f:=f) (d:=12-d) (xp:=xp) (t:=r) h2 hu e3;refine bI (abV Y R (pv 2) [05] (aQ [015] λe4=>?_))
 .refine bB (rF Y (aS (by rfl) T.QY) R nb ?_)
  rw[Wb] at e;rw[ep,e]
  rfl
 .refine aN (jU Y (D6 T) (aP (iX Y (R.as (p':=G7>>=λ_=>pure (.name u)) ?_) Zk λH R=>cH (R.new Go λu H i R=>R.done (by unfold ax;exact i)))))
  rw[Qh] at e4;rw[ep,e4]
  rfl
def amO:ee "-" (Fz "-"):=[008]
def amP:ee "!" (Fz "!"):=[008]
def d7 {t:FD} :GA (x::t) s=(x.1 == .sign (Fz s)):=rfl
def yy {f d:FX}{Kn:FH}{xp:GS}{t:FD} :Hl (f+1) d Kn ((.sign (Fz "!"),xp)::t)=
  (HR d>>=λe=>G7>>=λ_=>Hl f e Kn>>=λx=>pure (.not x):FQ FN) ((.sign (Fz "!"),xp)::t):=by
 rw[Hl];show(if GA ((.sign (Fz "!"),xp)::t) "-"=FS then _ else if GA ((.sign (Fz "!"),xp)::t) "!"=FS then _ else _)=_
 rw[FF (by rw[d7];show¬(JB (Fz "!") == .sign (Fz "-"))=FS;decide+kernel),FI (by rw[d7];exact Ht _)]
def zk {f d:FX}{Kn:FH}{xp:GS}{t:FD}(h: ∀m,F3 t≠ .num m):Hl (f+1) d Kn ((.sign (Fz "-"),xp)::t)=
  (HR d>>=λe=>G7>>=λ_=>Hl f e Kn>>=λx=>pure (.neg x):FQ FN) ((.sign (Fz "-"),xp)::t):=by
 rw[Hl];show(if GA ((.sign (Fz "-"),xp)::t) "-"=FS then(match F3 t with
   | .num n=>_
   |_=>_) else _)=_
 rw[FI (by rw[d7];exact Ht _)];cases e:F3 t with
 |num m=>exact F6 e (h m)
 |_=>rfl
def zm {f d m:FX}{Kn:FH}{xp:GS}{t:FD}(h:F3 t= .num m):Hl (f+1) d Kn ((.sign (Fz "-"),xp)::t)= .ok (.neg (.num m),t.drop 1):=by
 rw[Hl];show(if GA ((.sign (Fz "-"),xp)::t) "-"=FS then(match F3 t with
   | .num n=>_
   |_=>_) else _)=_
 rw[FI (by rw[d7];exact Ht _),h]
 rfl
def oJ {f d:FX}{Kn:FH}{t:FD}(h1:(x.1 == .sign (Fz "-"))=Gc) (h2:(x.1 == .sign (Fz "!"))=Gc):Hl (f+1) d Kn (x::t)=He f d Kn (x::t):=by
 rw[Hl];show(if GA (x::t) "-"=FS then _ else if GA (x::t) "!"=FS then _ else _)=_
 rw[FF (by rw[d7,h1];exact FA),FF (by rw[d7,h2];exact FA)]
def Fm {f d m:FX}{Kn:FH}{xp:GS}{t:FD} :Hl (f+2) d Kn ((.num m,xp)::t)= .ok (.num m,t):=by
 rw[oJ Go Go,He]
 rfl
def vd {f d m:FX}{Kn:FH}{xp:GS}{t:FD}(hf:2<=f) (w:t≠[]) (h:F3 t= .num m):Hl (f+1) d Kn ((.sign (Fz "-"),xp)::t)=(G7>>=λ_=>Hl f d Kn>>=λx=>pure (.neg x):FQ FN) ((.sign (Fz "-"),xp)::t):=by
 rw[zm h];obtain⟨g,rfl⟩: ∃g,f=g+2:=#[f-2,by lia];cases t with
 |nil=>exact F6 Go w
 |cons y r=>
  obtain⟨y,yp⟩:=y;obtain rfl:y= .num m:=h;show _=(Hl (g+2) d Kn>>=λx=>pure (.neg x):FQ FN) ((.num m,yp)::r)
  rw[bL Fm]
  rfl
def gQ (okT okC:FX->FH->FD->Prop) (T:aV K mg a) (XC:XT K a) (hk:8<=k)
  (h0: ∀d Kn t,okT d Kn t->13<=d+j) (h1: ∀d Kn s xp t,okT d Kn ((.sign s,xp)::t)->d<12->okC (d+1) Kn t) (h2: ∀d Kn s xp t m,okT d Kn ((.sign s,xp)::t)->F3 t= .num m->okC d Kn t)
  (G1:T.Xw.O P w base k (a0 a Gc He 6 (Lv j)))
  (G2:T.W9.O P w base k (a0 a Gc Hl 7 okC)):
  T.W9.O P w base (k+1) (a0 a Gc Hl 7 okT):=by
 refine vK T XC hk T.W9.F abo λHn A outer s H B t Kn d fuel Q E hr hd ho hf hm=>?_;intro X D Z Y R;obtain⟨⟨x,xp⟩,r,rfl⟩:=R.cons;have tok:gk x:=R.tok;have st:=kI fuel (12-d) Kn;have vm:=cT tok amO;have vn:=cT tok amP;obtain⟨f,rfl⟩: ∃f,fuel=f+1:=#[fuel-1,by lia];rw[FW] at hf;have tail: ∀(c:Fy) (d2:FX) (mk:FN->FN),x= .sign c->(∀ {H:Hp}{e:FN}{u v:V},bF (eV B) H a.Ll [("sign",iy (.sign c)),("operand",u)] v->ax a (eV B) H e u->ax a (eV B) H (mk e) v)->d2<=12->okC d2 Kn r->
   RS Z [] Gc H ((x,xp)::r) Kn (G7>>=λ_=>Hl f (12-d2) Kn>>=λy=>pure (mk y))->Bd X ((bh s_n).drop 3) D [FB (.ref B.r),FB (.int d),FB (.int d2),FM] H:=by
  intro c d2 mk ex hmk hd2 hC R;subst ex;refine aO 3 Y.nd (iX Y R nfS λH R=>?_);exact aN (jU Y (BD T) (aP (bA 3 (aP #[_,Y.call2 #[G2,hr,T.W9.c,Go] (pv 2) [01] Go,R.aiU hd2 hC (by lia) λe v H t R=>cH (R.new Go λu H i R=>R.done (hmk i (R.f (i:=0) Go)))]))))
 refine bI (DF (jw (du (iO Y R st λnb=>#[_,Go,?_]))));have vm:mr "-" (F3 ((x,xp)::r))=_:=vm;have vn:mr "!" (F3 ((x,xp)::r))=_:=vn;rw[vm];cases em:(x == JB (Fz "-")) with
 |true=>
  obtain rfl:x=_:=beq_iff_eq.mp em;refine bG (bG ?_);refine aO 2 Y.nd (bA 1 ?_);refine bI (agB (du (je Y R nb #[_,Go,?_])));rw[vn];refine bG (jw (du (abT Y R nfS #[_,Go,?_])));cases ey:lZ (F3 r) with
  |true=>
   obtain⟨m,e⟩:=uE ey;refine bG (tail _ d _ Go (λi h=>by unfold ax;exact#[_,i,h]) hd (h2 _ _ _ _ _ m ho e) (R.as (vd (by lia) (λz=>by rw[z] at e;cases e) e)))
  |false=>
   refine b8 (yN 2 Y hd (by intro z;cases z) (R.as (zk λm z=>by rw[z] at ey;cases ey)) λlt R=>vh ?_);exact tail _ (d+1) _ Go (λi h=>by unfold ax;exact#[_,i,h]) lt (h1 _ _ _ _ _ ho lt) R
 |false=>
  refine b8 (jw (du (je Y R nb #[_,Go,?_])));rw[vn];cases en:(x == JB (Fz "!")) with
  |true=>
   obtain rfl:x=_:=beq_iff_eq.mp en;refine bG ?_;refine aO 2 Y.nd (bA 1 ?_);refine bI (agB (du (je Y R nb #[_,Go,?_])));rw[vn,en];refine b8 (b8 (yN 2 Y hd (by intro z;cases z) (R.as yy) λlt R=>vh ?_));exact tail _ (d+1) _ Go (λi h=>by unfold ax;exact#[_,i,h]) lt (h1 _ _ _ _ _ ho lt) R
  |false=>exact b8 (aN #[_,Y.call2 #[G1,hr,T.Xw.c,Go] (pv 1) (by decide) Go,RS.tail (R.as (oJ em en)) hd (h0 _ _ _ ho) (by rw[FW];lia)])
def Zf.mo {β:Type}(Z:Zf β) (L:FG) (us:Fx V):Zf β:= { Z with B:=Z.B.more L us }
def dg.wide {M M':FG->Prop}{H H':Hp}(k:dg M H H') (h: ∀b,M b->M' b):dg M' H H':=λb o e m=>k b o e λz=>m (h b z)
section
variable {β:Type}{Z:Zf β}{H:Hp}{p:FQ β}{Q:VK}
structure wB (Z:Zf β) (L:FG):Prop where
 n0:Z.H0 L=FM
 nm: ¬eV Z.B L
 nx: ∀zs,¬Z.B.bl.x L zs
 nq:L≠Z.B.q
def RS.nwl (R:RS Z F b H t Kn p) (h:H L=FM):wB Z L:=by
 rw[00];have nm:=S.fresh h;refine#[?_,nm,λzs z=>(by rw[S.fr L zs z] at h;cases h),λz=>(by obtain⟨as,all,h1,_⟩:=S.rd.toks;rw[z,h1] at h;cases h)];cases e:Z.H0 L with
 |none=>rfl
 |some o=>rw[R.k L o e nm] at h;cases h
theorem RS.more {us:Fx V}(R:RS Z F b H t Kn p) (h:H L=FM):RS (Z.mo L us) F b (aI H L (.lst us)) t Kn p:=by
 rw[00];have N:=R.nwl h;have sm:aU H (aI H L (.lst us)):=bH h;refine#[#[n,(S.same sm).more ae],(R.k.trans (OS.aU.keeps sm)).wide λb=>cA,λe=>jr.Iv (λb o e m=>#[λz=>(df z).elim (λz=>by rw[z,h] at e;cases e) m,sm b o e]) (R.f e),R.l,R.w.mono (λ_ _ z=>z) λ_ _ z H' k=>z H' λb o e m=>k b o e λz=>(df z).elim (λz=>by rw[z,N.n0] at e;cases e) m]
theorem RS.Rc (R:RS (Z.mo L us) F b H t Kn p):H L=FB (.lst us):=by
 rw[00];exact S.Rc
def RS.push {v:V}(N:wB Z L) (R:RS (Z.mo L us) F b H t Kn p):RS (Z.mo L (us++[v])) F b (aI H L (.lst (us++[v]))) t Kn p:=by
 rw[00];have mm: ∀c,eV (Z.B.more L us) c->eV (Z.B.more L (us++[v])) c:=λc h=>(df h).elim (λz=>by rw[z];exact fk) λz=>cA z;have mm': ∀c,eV (Z.B.more L (us++[v])) c->eV (Z.B.more L us) c:=λc h=>(df h).elim (λz=>by rw[z];exact fk) λz=>cA z;refine#[#[n,S.write N.nx N.nq],(R.k.wide mm).trans (eY fk),λe=>jr.Iv (λc o e m=>#[λz=>m (mm' c z),by rw[ac λz=>m (by rw[z];exact fk)];exact e]) (R.f e),R.l,R.w.mono (λ_ _ z=>z) λ_ _ z H' k=>z H' (k.wide mm')]
theorem RS.less (N:wB Z L) (R:RS (Z.mo L us) F b H t Kn p):RS Z F b H t Kn p:=by
 rw[00];refine#[#[n,S.less],λb o e m=>R.k b o e λz=>(df z).elim (λz=>by rw[z,N.n0] at e;cases e) m,λe=>jr.Iv (λb o e m=>#[λz=>m (cA z),e]) (R.f e),R.l,R.w.mono (λ_ _ z=>z) λ_ _ z H' k=>z H' (k.wide λb=>cA)]
theorem wB.mo (N:wB Z L') (ne:L'≠L):wB (Z.mo L us) L':=#[N.n0,λz=>(df z).elim ne N.nm,λzs z=>z.elim (N.nx zs) λz=>ne z.1,N.nq]
def RS.swap (R:RS ((Z.mo L us).mo L' Px) F b H t Kn p):RS ((Z.mo L' Px).mo L us) F b H t Kn p:=by
 rw[00];have m1: ∀c,eV ((Z.B.more L us).more L' Px) c->eV ((Z.B.more L' Px).more L us) c:=λc h=>(df h).elim (λz=>by rw[z];exact cA fk) λz=>(df z).elim (λz=>by rw[z];exact fk) λz=>cA (cA z);have m2: ∀c,eV ((Z.B.more L' Px).more L us) c->eV ((Z.B.more L us).more L' Px) c:=λc h=>(df h).elim (λz=>by rw[z];exact cA fk) λz=>(df z).elim (λz=>by rw[z];exact fk) λz=>cA (cA z);exact#[#[n,S.rd,S.wh,S.kn,S.TF,S.S7,S.QB,λc zs z=>S.fr c zs (z.elim (λz=>z.elim (λz=> .inl (.inl z)) .inr) λz=> .inl (.inr z))],R.k.wide m1,λe=>jr.Iv (λc o e m=>#[λz=>m (m2 c z),e]) (R.f e),R.l,R.w.mono (λ_ _ z=>z) λ_ _ z H' k=>z H' (k.wide m2)]
def my (i:FX) (Y:RX X Z.a Z.E) (R:RS Z F b H t Kn p) (q: ∀L H',wB Z L->RS (Z.mo L []) F b H' t Kn p->Bd X ss D (σ.set i (FB (.ref L))) H') (h:Sl X i y:=by exact#[Go,Hs Go,Go]):Bd X (.Assign [.Name y p0] (.List [] p1) p5::ss) D σ H:=
 aO i Y.nd (mE λL h=>q L _ (R.nwl h) (R.more h)) h
def rJ {te:TE}(N:wB Z L) (R:RS (Z.mo L us) F b H t Kn p) (he:PE X e te) (hv: ∀R:VK,R (.ref L) H->te σ H R) (q:Pe X f σ H λv H1=> ∃F' b' t' X9 p',us.length<GD/\RS (Z.mo L us) F' b' H1 t' X9 p'/\(∀H2,RS (Z.mo L (us++[v])) F' b' H2 t' X9 p'->Bd X ss D σ H2))
  (hb:Ja e "append" X.env (eval e X.env)=eval e X.env:=by rfl) (KN:F9 [f] X.env=[(Gc,eval f X.env)]:=by rfl) (hp:iB p2 p4:=by rfl):
  Bd X (.Expr (.Call (.Attribute e "append" p2) [f] [] p4) p5::ss) D σ H:=by
 refine iH he hv R.Rc (q.mono λv H1 z=>?_) hb KN hp;obtain⟨F',b',t',X9,p',h1,R',h2⟩:=z;exact#[us,R'.Rc,h1,h2 _ (R'.push N)]
def lE (Y:RX X Z.a Z.E) (R:RS Z F b H t Kn p) (lit:ee v (Fz s)) (st:aM p) (h:GA t s=FS->p t=F8 5 t) (q:GA t s=Gc->Bd X ss D (FB (.ref Z.B.r)::σ) H) (hg:Gl X "refuse_here":=by rfl):
  Bd X (.Expr (.Call (.Name "refuse_here" p1) [.Name "reader" p2, .Constant (.str v) j p3] [] p4) p5::ss) D (FB (.ref Z.B.r)::σ) H:=by
 rw[00];obtain⟨x,t',rfl,tok,RB,Ng,_⟩:=S.wh.first;refine bB #[_,aF (aif Y.T Y.C) (Y.hr.mono [01]) hg Y.T.aav.c Y.up (aa Y.rd (aa dI ag)),Z.B.r,Z.B.q,Z.B.kd,Z.B.fn,Z.B.ds,Z.B.bl,n,x,t',v,Go,S.rd,λb=>st.Me (RB.trans b) R.w H R.k,λnb e=>?_,λnb e=>?_]
 .rw[cT tok lit] at e
  exact fJ (h e) nb R.w H R.k
 .rw[cT tok lit] at e
  exact q e
end
end OS
namespace OS
open Vbemac
def cK (f e:FX) (K:Known) (m:FX):P Exps:=λu=>
 if m=0 then(if Mv u ","=FS then fail 5 u else(sign ")">>=λ_=>pure .nil:P Exps) u)
 else(if Mv u ")"=FS then fail 5 u else(sign ",">>=λ_=>arguments f e K m:P Exps) u)
def xk:Fx Exp->Exps->Exps
 |[],l=>l
 |e::r,l=> .cons e (xk r l)
def sI {es:Fx Exp}{x:Exp}{l:Exps} :xk (es++[x]) l=xk es (.cons x l):=by
 induction es with
 |nil=>rfl
 |cons y r ih=>show Exps.cons y (xk (r++[x]) l)=_;rw[ih];rfl
def dP (f e:FX) (K:Known) (m:FX):aM (cK f e K m):=λt h=>by
 unfold cK;rw[c8 h,c8 h];by_cases c:m=0
 .rw[FI c,FF FA]
  exact(bj ")").bind t h
 .rw[FF c,FF FA]
  exact(bj ",").bind t h
def rh {f d:FX}{Kn:Known}{u:GK}{xp:Pos}{t:Nf}{g:GK×FX}(hs:u≠text "sum") (hk:KEYS.contains u=Gc) (hf:Kn.funs.find? (λf=>f.1 == u)=FB g):
  primary (f+1) d Kn ((.word u,xp)::t)=(deeper d>>=λe=>next>>=λ_=>sign "(">>=λ_=>(if g.2=0 then(sign ")">>=λ_=>pure (.call u .nil)) else(arguments f e Kn g.2>>=λl=>pure (.call u l))):P Exp) ((.word u,xp)::t):=by
 rw[primary];show(if u=text "sum" then _ else _)=_
 rw[FF hs,FF (by rw[hk];exact FA)];simp only[hf]
end OS
namespace OS
open PySem PySem.Spec L2
open PyProof.Rows hiding St
variable {P:Gy}{w:Hf}{K:FC}{mg:Gf->FP FE}{base:Ho}{a:bi}
section
open Vbemac (arguments)
def yj:ee "," (Fz ","):=[008]
section
variable {α β γ:Type}{p q:FQ α}{g:α->FQ β}{h:β->FQ γ}
def aW (e:p t=q t):(p>>=g) t=(q>>=g) t:=by
 show Gh p g t=Gh q g t
 unfold Gh;rw[e]
end
def Zf.at {β:Type}(Z:Zf β) (l:FX):Zf β:= { Z with L:=l }
section
variable {β:Type}{Z:Zf β}{F:Fx (Fk×V)}{b:GP}{H:Hp}{t:FD}{Kn:FH}{p:FQ β}{L:FG}{l:FX}
theorem RS.at (R:RS Z F b H t Kn p):RS (Z.at t.length) F Gc H t Kn p:=#[R.S,R.k,R.f,F5 _,R.w]
def RS.back (h:l<=Z.L) (R:RS (Z.at l) F FS H t Kn p):RS Z F FS H t Kn p:=#[R.S,R.k,R.f,F7 R.l h,R.w]
end
def oY {K:FH}{t:FD}(h:GA t ","=Gc):cK f e K 0 t=(Gz ")">>=λ_=>pure .nil:FQ Kt) t:=by
 unfold cK;rw[FI Go,FF (by rw[h];exact FA)]
def m8 {K:FH}{t:FD}(hm:m≠0) (h:GA t ")"=Gc):cK f e K m t=(Gz ",">>=λ_=>arguments f e K m:FQ Kt) t:=by
 unfold cK;rw[FF hm,FF (by rw[h];exact FA)]
def gZ {K:FH}{t:FD}(h:if m=0 then GA t ","=FS else GA t ")"=FS):cK f e K m t=F8 5 t:=by
 unfold cK;by_cases c:m=0
 .rw[FI c] at h ⊢; rw[FI h]
 .rw[FF c] at h ⊢; rw[FI h]
def abX {K:FH}{t:FD}(h:GA t ")"=FS):arguments (f+1) e K n t=F8 5 t:=by
 rw[arguments];show(if GA t ")"=FS then _ else _)=_
 rw[FI h]
def Fj {K:FH}{t:FD}(hn:1<=n) (h:GA t ")"=Gc):arguments (f+1) e K n t=(Gg f e K>>=λa=>cK f e K (n-1)>>=λl=>pure (.cons a l):FQ Kt) t:=by
 rw[arguments];show(if GA t ")"=FS then _ else _)=_
 rw[FF (by rw[h];exact FA)];show Gh _ _ t=Gh _ _ t;unfold Gh
 congr 1
 funext #[a,u]
 show(if n<=1 then _ else _:FQ Kt) u=(cK f e K (n-1)>>=λl=>pure (.cons a l):FQ Kt) u
 by_cases n1:n<=1
 .rw[FI n1,show n-1=0 by lia]
  show(if GA u ","=FS then F8 5 u else _)=_
  by_cases c:GA u ","=FS
  .rw[FI c,aW (gZ (by rw[FI Go];exact c))]
   rfl
  .rw[FF c,aW (oY (by cases h:GA u ",";rfl;exact F6 h c)),bind_assoc]
   rfl
 .rw[FF n1]
  show(if GA u ")"=FS then F8 5 u else _)=_
  by_cases c:GA u ")"=FS
  .rw[FI c,aW (gZ (by rw[FF (by lia)];exact c))]
   rfl
  .rw[FF c,aW (m8 (by lia) (by cases h:GA u ")";rfl;exact F6 h c)),bind_assoc]
def xI (f e:FX) (Kn:FH) (u:Fy) (wanted:FX):Fx FN->FQ FN
 |[]=>if wanted=0 then(Gz ")">>=λ_=>pure (.call u .nil)) else(arguments f e Kn wanted>>=λl=>pure (.call u l))
 |x::es=>cK f e Kn (wanted-(x::es).length)>>=λl=>pure (.call u (xk (x::es) l))
def wu {f e w:FX}{Kn:FH}{t:FD}(lt:es.length<w) (hc:GA t ")"=Gc):
  (arguments (f+1) e Kn (w-es.length)>>=λl=>pure (.call u (xk es l)):FQ FN) t=(Gg f e Kn>>=λa=>xI f e Kn u w (es++[a])) t:=by
 rw[aW (Fj (by lia) hc),bind_assoc];refine GO (λg=>(Gg f e Kn>>=g:FQ FN) t) (funext λa=>?_);rw[bind_assoc];have n:w-es.length-1=w-(es++[a]).length:=by rw[Gb,JT];lia
 have e1:(λl=>(pure (Uo u (xk es (.cons a l))):FQ FN))=λl=>pure (.call u (xk (es++[a]) l)):=funext λl=>by rw[sI]
 rw[n];show(cK f e Kn _>>=λl=>(pure (Uo u (xk es (.cons a l))):FQ FN))=_
 rw[e1];cases es with
 |nil=>rfl
 |cons y r=>rfl
abbrev fkE (ps:Fx (FN×V)):Fx (Fk×V):=ps.map λx=>(.e x.1,x.2)
theorem yh {a:bi}{M:FG->Prop}{H:Hp}{l:Kt}{ws:Fx V}(hl:cy a M H l ws): ∀ {ps:Fx (FN×V)},(∀ {i:FX}{x:Fk×V},(fkE ps)[i]?=FB x->jr a M H x)->cy a M H (xk (ps.map (·.1)).reverse l) ((ps.map (·.2)).reverse++ws)
 |[],_=>hl
 | (e,v)::ps,h=>by
  rw[Ge,Ge,Hh,Hh,sI,G9];refine yh (l:= .cons e l) ?_ λ{i x} q=>h (i:=i+1) q;unfold cy;exact#[v,ws,Go,h (i:=0) Go,hl]
def mZ {Z:Zf FN}{F:Fx (Fk×V)}{b:GP}{H:Hp}{t:FD}{Kn K:FH}{f e w:FX}{u:Fy}{x:FN×V}{r:Fx (FN×V)}(R:RS Z F b H t Kn (xI f e K u w ((x::r).map (·.1)).reverse)):RS Z F b H t Kn (cK f e K (w-((x::r).map (·.1)).reverse.length)>>=λl=>pure (.call u (xk ((x::r).map (·.1)).reverse l))):=by
 cases h:((x::r).map (·.1)).reverse with
 |nil=>rw[Fx.reverse_eq_nil_iff] at h;cases h
 |cons y l=>rw[h] at R;exact R
def ai4 {b:GP}{A B:Prop}(e:b=FS) (h:A):if b=FS then A else B:=by rw[FI e];exact h
def rB (f e:FX) (K:FH) (u:Fy) (w:FX) (es:Fx FN) (x:FN):aM (xI f e K u w (es++[x])):=by
 cases es with
 |nil=>exact(dP _ _ _ _).bind
 |cons y r=>exact(dP _ _ _ _).bind
def ai5 {β:Type}{Z:Zf β}{F:Fx (Fk×V)}{b:GP}{H:Hp}{t:FD}{Kn:FH}{p:FQ β}{Q:VK}{te:TE}{g:Fy×FX}(Y:RX X Z.a Z.E) (R:RS Z F b H t Kn p) (he:PE X e te) (hv: ∀Q:VK,Q (.str (sb u)) H->te (FB (.ref Z.B.r)::σ) H Q) (hg:Kn.funs.find? (λf=>f.1 == u)=FB g) (q:Q (.int (g.2:FX)) H) (hs:Fn e:=by exact λ_ _=>rfl):
  Pe X (.Subscript (.Attribute [005] "functions" p2) e p3) (FB (.ref Z.B.r)::σ) H Q:=by
 rw[00];rw[02];obtain⟨ff,f1,f2⟩:=S.kn.funs;have f2:=f2 u;rw[hg] at f2;exact#[_,kX (dv Y.hr) (ai Y.rd Go) he hs,Z.B.r,_,dr,_,_,Go,er,Y.T.Gx,Y.T.Ji,Go,hv _ #[Z.B.fn,_,Go, .inl #[ff,nk u, .inl f1,Go,f2.symm],q]]
inductive Zl (Z:Zf FN) (L:FG) (Kn:FH) (u:Fy) (w e:FX) (σ0:L2.St) (m:FX) (σ:L2.St) (H:Hp):Prop
 |mk (ps:Fx (FN×V)) (t:FD) (f:FX) (_:m=w-ps.length) (_:σ=σ0) (_:ps.length<=w) (_:ps.length+t.length<=Z.L) (_:16*t.length+12<=f) (_:ps=[]->16*t.length+13<=f) (_:RS (Z.mo L (ps.map (·.2)).reverse) (fkE ps) FS H t Kn (xI f e Kn u w (ps.map (·.1)).reverse)):Zl Z L Kn u w e σ0 m σ H
inductive ai6 (Z:Zf FN) (L:FG) (Kn:FH) (u:Fy) (w e:FX) (σ0:L2.St) (ps:Fx (FN×V)) (l:FX) (σ:L2.St) (H:Hp):Prop
 |mk (t:FD) (f:FX) (_:σ=σ0) (_:t.length<=l) (_:16*t.length+12<=f) (_:RS (Z.mo L (ps.map (·.2)).reverse) (fkE ps) FS H t Kn (arguments (f+1) e Kn (w-(ps.map (·.1)).reverse.length)>>=λl=>pure (.call u (xk (ps.map (·.1)).reverse l)))):ai6 Z L Kn u w e σ0 ps l σ H
section
variable {k j:FX}
def amQ (T:aV K mg a) (XC:XT K a) (hk:8<=k)
  (G:T.Tj.O P w base k (a0 a FS Gg 12 (Lv j))):
  T.d_2.O P w base (k+1) (a0 a Gc He 6 (LvC (j+1))):=by
 refine vK T XC hk T.d_2.F amb λHn A outer s H B t Kn d fuel Q E hr hd ho hf hm=>?_;intro X D Z Y R;obtain⟨hl,u,g,h0,hs,hu,hg⟩:=ho;obtain⟨xp,r,rfl⟩:=e8 R h0;obtain⟨f,rfl⟩: ∃f,fuel=f+1:=#[fuel-1,by lia];have c:CB X "read_exp" ["reader","depth"] (a0 a FS Gg 12 (Lv j)):=#[G,hr,T.Tj.c,Go];have hl:13<=d+1+j:=by rw[Ny];exact hl
 refine yN 2 Y hd (by intro z;cases z) (R.as (rh hs hu hg)) λlt R=>?_;refine aO 3 Y.nd (iX Y R Zk λH R=>?_);refine cJ Y yP R λH t R=>?_;have l1:t.length+1<=Z.L:=R.l;refine aO 4 Y.nd (ai5 Y R (pv 3) [05] hg ?_);refine my 5 Y R λL H N R=>?_;have hL:(r.length+1:FX)<=Z.L:=F5 _;have hm:Kn.values.length+Z.L<=4000:=hm;have hf:16*Z.L+6<=f+1:=hf;refine fZ Y.lv (Zl Z L Kn u g.2 (12-(d+1)) [FB (.ref B.r),FB (.int d),FB (.int ((d+1:FX):Int)),FB (.str (sb u)),FB (.int (g.2:FX)),FB (.ref L)]) _ #[[],t,f,Go,Go,Gn _,by show 0+t.length<=_;lia,by lia,λ_=>by lia,R] ?_;rintro m σ H ⟨ps,t,f,rfl,rfl,h1,h2,h3,h4,R⟩;refine cS io (iJ T.KW R.Rc (pv 5) [05] (bA 4 #[_,_,Go,Go,_,Go,aQ [015] λe=>?_]))
 .have lt':ps.length<g.2:=by have:=Gj e;rw[Hc,FT] at this;lia
  have len:((ps.map (·.1)).reverse:Fx FN).length=ps.length:=by rw[Hc,FT]
  refine gi (ai6 Z L Kn u g.2 (12-(d+1)) [FB (.ref B.r),FB (.int d),FB (.int ((d+1:FX):Int)),FB (.str (sb u)),FB (.int (g.2:FX)),FB (.ref L)] ps t.length) ?_ ?_
  .rintro σ H ⟨t1,f1,rfl,l1,hf1,R⟩
   refine lE Y R wj (ly _ _ _ _).bind (λh=>(aW (abX h)).trans Go) λhc=>?_;have R:=R.as (wu (by rw[len];exact lt') hc);refine rJ N R (pv 5) [05] #[_,Y.call2 c (pv 2) [01] Go,R.at.call (n9 λx=>rB _ _ _ _ _ _ _) lt hl (by lia) λe1 v1 H t2 _ R2=>#[_,_,_,_,_,by rw[Hc,FT];exact GF (show ps.length<=4000 by lia) [01],RS.back (Z:=Z.mo L _) (l:=t1.length) (by show t1.length<=Z.L;lia) R2,λH3 R3=>?_]];have l2:t2.length+1<=t1.length:=R2.l;refine gh #[_,(show g.2-((e1,v1)::ps).length<g.2-ps.length by rw[FW];lia),(e1,v1)::ps,t2,f1,Go,Go,(by rw[FW];lia),(by rw[FW];lia),(by lia),(λz=>nomatch z),?_]
   rw[Ge,Ge,Hh,Hh];exact R3
  .refine cS fS (iJ T.KW R.Rc (pv 5) [05] (cP #[_,_,Go,Go,_,Go,?_]))
   cases ps with
   |nil=>
    refine bG ?_;have R:RS _ (fkE []) FS H t Kn (if g.2=0 then _ else _):=R
    rw[FF (by have:0<g.2:=lt';lia)] at R;rw[03];exact#[t,f,Go,F5 _,FX.le_of_succ_le_succ (h4 Go),R]
   |cons x r=>
    refine ai4 (GL (by rw[Hc,FT,FW];lia)) ?_;have R:=mZ R;refine lE Y R wj (dP _ _ _ _).bind (λh=>(aW (gZ (by rw[FF (by rw[len];lia)];exact h))).trans Go) λhc=>?_;refine cJ (Z:=(Z.mo L ((x::r).map (·.2)).reverse).at t.length) Y yj (R.at.as ((aW (m8 (by rw[len];lia) hc)).trans (congrFun (bind_assoc _ _ _) t))) λH t2 R2=>cg ?_;have l2:t2.length+1<=t.length:=R2.l;rw[03];exact#[t2,f,Go,by lia,by lia,RS.back (Z:=Z.mo L _) (l:=t.length) (by show t.length<=Z.L;lia) R2]
 .have eq:ps.length=g.2:=by have:=Gw e;rw[Hc,FT] at this;lia
  have len:((ps.map (·.1)).reverse:Fx FN).length=ps.length:=by rw[Hc,FT]
  have R:RS (Z.mo L (ps.map (·.2)).reverse) (fkE ps) FS H t Kn (if g.2=0 then(Gz ")">>=λ_=>pure (.call u .nil)) else(cK f (12-(d+1)) Kn 0>>=λl=>pure (.call u (xk (ps.map (·.1)).reverse l)))):=by
   cases ps with
   |nil=>
    have h0:g.2=0:=eq.symm
    have R:RS _ (fkE []) FS H t Kn (if g.2=0 then _ else _):=R
    rw[FI h0] at R ⊢;exact R
   |cons x r=>
    have R:=mZ R;rw[len,eq,Q1] at R;rw[FF (by rw[<-eq,FW];lia)];exact R
  have eS:RS (Z.mo L (ps.map (·.2)).reverse) (fkE ps) FS H t Kn (Gz ")">>=λ_=>pure (.call u (xk (ps.map (·.1)).reverse .nil)))->Bd X ((bh s_2).drop 7) D [FB (.ref B.r),FB (.int d),FB (.int ((d+1:FX):Int)),FB (.str (sb u)),FB (.int (g.2:FX)),FB (.ref L)] H:=λR=>by
   refine cJ Y wj R λH t R=>?_;have hL:=R.Rc;refine aN (jU Y (EQ T) (aP (bA 3 (aP (bA 5 (cH (R.new Go λv H i R=>?_)))))));have hL:=R.Rc;have R:=R.less N;refine R.done ?_;unfold ax;refine#[.ref L,_,bF.keep (λb o e m=>#[λz=>m (cA z),e]) i,#[L,Go,N.nm,hL],?_];have:=yh (l:= .nil) (ws:=[]) (by unfold cy;rfl) R.f;rw[Hj] at this;exact this
  refine bI (cS fS (bA 4 (cP #[_,_,Go,Go,_,Go,aQ [015] λe=>?_])))
  .have h0:g.2≠0:=by have:=Gj e;lia
   rw[FF h0] at R;refine lE Y R yj (dP _ _ _ _).bind (λh=>(aW (gZ (by rw[FI Go];exact h))).trans Go) λhc=>vh (eS (R.as ?_));exact(aW (oY hc)).trans (congrFun (bind_assoc _ _ _) t)
  .have h0:g.2=0:=by have:=Gw e;lia
   rw[FI h0] at R;obtain rfl:ps=[]:=Od.mp (eq.trans h0);exact eS R
end
end
theorem ma {α β:Type}{F:α->β->Prop} : ∀ {l:Fx α}{m:Fx β}{i:FX}{y:β},Paired F l m->m[i]?=FB y-> ∃x,l[i]?=FB x/\F x y
 |_,_,_,_, .nil,h=>by cases h
 |_,_,0,_, .cons r t,h=>#[_,Go,by obtain rfl:=F4 h;exact r]
 |_,_,i+1,_, .cons r t,h=>ma (i:=i) t h
def Ak.row {K:FC}{ad:FG}{i:FX}{xs:Fx V}{H:Hp}(h:Ak K ad di) (e:di[i]?=FB xs): ∃qs:Fx FG,qs.length=5/\qQ K H ad (qs.map V.ref)/\ ∃q,Al (qs.map V.ref) (i:FX)=FB (.ref q)/\qQ K H q xs:=by
 obtain⟨qs,h1,h2⟩:=h;obtain⟨q,hq,hk⟩:=ma h2 e;refine#[qs,aZ h2,h1.sq,q,?_,hk.sq];refine bv ?_;rw[GR,hq]
 rfl
def CV {x:Ha}(tok:gk x) {sg:Fx Fy}(hs: ∀o∈sg,o∈Hb) (h:uL (iy x) (sg.map λo=>V.str (dJ o))=FS): ∃op∈sg,x= .sign op:=by
 unfold uL at h;rw[T4,Ms] at h;obtain⟨o,ho,e⟩:=h;refine#[o,ho,(tV tok (x:=dJ o) #[Go,hs o ho]).mp ?_];have e:D5 (V.str (dJ o)) (iy x)=FS:=e;cases x with
 |word u=>exact GO FB (beq_iff_eq.mp (show(dJ o == sb u)=FS from e)).symm
 |num n=>cases (show Gc=FS from e)
 |sign u=>exact GO FB (beq_iff_eq.mp (show(dJ o == dJ u)=FS from e)).symm
 |eof=>exact GO FB (beq_iff_eq.mp (show(dJ o == sb [])=FS from e)).symm
 |bad=>exact GO FB (beq_iff_eq.mp (show(dJ o == sb [])=FS from e)).symm
def BA {op:Fy}{sg:Fx Fy}(h:op∈sg):uL (iy (.sign op)) (sg.map λo=>V.str (dJ o))=FS:=by
 unfold uL;rw[T4,Ms];exact#[op,h,show(dJ op == dJ op)=FS from Ht _]
def Ad (x:Ha):jB (iy x)=FS:=by cases x<;>rfl
def vB (sg:Fx Fy):(sg.map λo=>V.str (dJ o)).all jB=FS:=by
 rw[TZ,Mq];exact λ_ _=>rfl
section
variable {M:FG->Prop}{H:Hp}
theorem vp: ∀ {es:Pairs}{us:Fx V},Paired (λ(x:Fy×FN) u=>ax a M H x.2 u) es us->cy a M H (vz es .nil) us
 |_,_, .nil=>by unfold vz cy;rfl
 |_,_, .cons h t=>by unfold vz cy;exact#[_,_,Go,h,vp t]
theorem vJ: ∀ {es:Pairs}{us:Fx V},Paired (λ(x:Fy×FN) u=>ax a M H x.2 u) es us->dF a M H (uZ es .nil) us (es.map λx=>V.str (dJ x.1))
 |_,_, .nil=>by unfold uZ dF;exact#[Go,Go]
 |_,_, .cons h t=>by unfold uZ dF;exact#[_,_,_,Go,Go,h,vJ t]
theorem rL {F:Fy×FN->V->Prop}{o:Fy} : ∀ {es:Pairs}{us:Fx V},Paired F es us->(∀x∈es,x.1∈[o])->(es.map λx=>V.str (dJ x.1))=us.map λ_=>V.str (dJ o)
 |_,_, .nil,_=>rfl
 |_,_, .cons h t,hx=>by
  rw[Ge,Ge,Ga.mp (hx _ (FL ..)),rL t λy hy=>hx y (FK _ hy)]
end
def ai7:dJ (Fz "||")="||":=by decide+kernel
def abY:dJ (Fz "&&")="&&":=by decide+kernel
structure qD (s:FX) (sg:Fx Fy) (once:GP) (res:FN->Pairs->FN):Prop where
 VD: ∀e,res e []=e
 at_: ∀ {a:bi}{M:FG->Prop}{H:Hp}{e:FN}{es:Pairs}{v w:V}{us:Fx V}{q g:V},es≠[]->(∀x∈es,x.1∈sg)->(once=FS->es.length<=1)->bF M H a.Kd [("strength", .int (s:FX)),("operands",q),("signs",g)] w->
  b9 M H (v::us) q->b9 M H (es.map λx=>V.str (dJ x.1)) g->ax a M H e v->Paired (λ(x:Fy×FN) u=>ax a M H x.2 u) es us->ax a M H (res e es) w
def abZ:qD 0 S0 Gc (λe es=>Fs e (vz es .nil)) where
 VD e:=rfl
 at_ {a M H e es v w us q g} h0 hs _ hi hq hg he WR:=by
  cases es with
  |nil=>exact F6 Go h0
  |cons y r=>
   rw[rL WR hs,ai7] at hg;show ax a M H (.either e (vz (y::r) .nil)) w;unfold ax;exact#[q,g,v,_,hi,hq,hg,he,vp WR]
def D0:qD 1 S1 Gc (λe es=>bth e (vz es .nil)) where
 VD e:=rfl
 at_ {a M H e es v w us q g} h0 hs _ hi hq hg he WR:=by
  cases es with
  |nil=>exact F6 Go h0
  |cons y r=>
   rw[rL WR hs,abY] at hg;show ax a M H (.both e (vz (y::r) .nil)) w;unfold ax;exact#[q,g,v,_,hi,hq,hg,he,vp WR]
def Fe:qD 3 S3 Gc (λe es=>sms e (uZ es .nil)) where
 VD e:=rfl
 at_ {a M H e es v w us q g} h0 hs _ hi hq hg he WR:=by
  cases es with
  |nil=>exact F6 Go h0
  |cons y r=>
   show ax a M H (.sums e (uZ (y::r) .nil)) w
   unfold ax;exact#[q,g,v,_,_,hi,hq,hg,he,vJ WR]
def Fw:qD 4 S4 Gc (λe es=>o7 e (uZ es .nil)) where
 VD e:=rfl
 at_ {a M H e es v w us q g} h0 hs _ hi hq hg he WR:=by
  cases es with
  |nil=>exact F6 Go h0
  |cons y r=>
   show ax a M H (.prods e (uZ (y::r) .nil)) w
   unfold ax;exact#[q,g,v,_,_,hi,hq,hg,he,vJ WR]
def EN:qD 2 S2 FS ai1 where
 VD e:=rfl
 at_ {a M H e es v w us q g} h0 hs h1 hi hq hg he WR:=by
  cases WR with
  |nil=>exact F6 Go h0
  |cons h t=>
   cases t with
   |nil=>
    show ax a M H (.cmp _ e _) w
    unfold ax;exact#[q,g,v,_,hi,hq,hg,he,h]
   |cons h2 t2=>
    have:=h1 Go;rw[FW,FW] at this;lia
inductive we (a:bi) (w2:GP) (s:FX) (p:FX->FX->FH->FQ FN) (c:FX) (ok:FX->FH->FD->Prop) (vs:Fx V) (H:Hp) (Q:VK) (E:XK):Prop
 |mk (u v:V) (_:vs=[u,v, .int (s:FX)]) (_:a0 a w2 p c ok [u,v] H Q E):we a w2 s p c ok vs H Q E
def Eh {β:Type}(Z:Zf β):Prop:= ∀e r,F3 r= .bad->Z.Ro e r->QE Z.a Z.B Z.H0 Z.E 1 (IS r)
theorem Eh.mo {β:Type}{Z:Zf β}(h:Eh Z) (N:wB Z L):Eh (Z.mo L us):=λe r b o H' k=>h e r b o H' λc o e m=>k c o e λz=>(df z).elim (λz=>by rw[z,N.n0] at e;cases e) m
theorem Eh.bad {β:Type}{Z:Zf β}{p:FQ β}(h:Eh Z) (hr:ib p) (b:F3 t= .bad) (w:W p t Z.Ro (QE Z.a Z.B Z.H0 Z.E)):QE Z.a Z.B Z.H0 Z.E 1 (IS t):=by
 rcases hr t b with e|⟨x,e⟩
 .rw[jp e] at w;exact w
 .rw[yE e] at w;exact h x t b w
def enZ {a:bi}{E:XK}{H0:Hp}{Q:VK} :Eh #[a,E,B,L,H0,Rz FS a B H0 L Kn Q E]:=λe r b w=>by
 have w:Rz FS a B H0 L Kn Q E e r:=w;unfold Rz at w;rw[FI #[Go,b]] at w;exact w
def ai8 {w2:GP}{pp:FX->FX->FH->FQ FN}{c sn:FX}{ok:FX->FH->FD->Prop}{x Hy:Gf}{st:Stmt}{f:FG}{fd:GQ}{N:Fx Gf}(T:aV K mg a) (XC:XT K a) (hk:8<=k) (F:o9 K x Hy st f fd) (S:ay N ["reader","depth","strength"] (af st))
  (J3: ∀(Hn:FE) (A:Hm) (outer:Fx Env) (s:FJ) (H:Hp) (B:Rb) (t:FD) (Kn:FH) (d fuel:FX) (Q:VK) (E:XK),bZ k (A.deeper [011])->d<=12->ok d Kn t->16*t.length+c<=fuel->Kn.values.length+t.length<=4000->
   let X:=fg (gb P w) P w K mg base N Hy (af st) f Hn A outer s H E
   let D:eI:= { nx:=λ_ H'=>Q .Jm H',rt:=Q }
   let Z:Zf FN:=#[a,E,B,t.length,H,Rz w2 a B H t.length Kn Q E]
   RX X a E->RS Z [] Gc H t Kn (pp fuel (12-d) Kn)->Bd X (bh st) D (L2.start N [.ref B.r, .int d, .int (sn:FX)]) H):bW P w K mg base (gb P w) (k+1) f fd ["reader","depth","strength"] (we a w2 sn pp c ok):=by
 refine fW F S [03] [02];obtain⟨_,_,rfl,B,n,t,Kn,d,fuel,h0,hd,ho,St,hf,hW⟩:=h;cases h0;exact J3 Hn A outer s H B t Kn d fuel Q E hr hd ho hf St.kn.len (j6 T XC hk S hr) #[#[n,St],dg.refl,λ{i x} e=>(by cases e),F5 _,hW]
section
variable {H:Hp}{Q:VK}{E:XK}
def BO (Y:RX X a E) (KT:Ak X.K a.IK di) (q:Q (.int 5) H) (h1:Gl X "len":=by rfl) (h2:Gl X "CHAIN_SIGNS":=by rfl):Pe X (.Call (.Name "len" p1) [.Name "CHAIN_SIGNS" p2] [] p3) σ H Q:=by
 obtain⟨qs,qs5,sqA,_⟩:=KT.row (H:=H) (i:=0) Go;refine#[_,br bP h1 Y.T.KW Iy (aa (ip h2 Y.T.Ph) ag),_,_,Go, .inr sqA,?_];rw[FT,qs5];exact q
def ai9 {te:TE}(Y:RX X a E) (KT:Ak X.K a.IK di) (row:di[sn]?=FB xs) (he:PE X e te) (hv: ∀Q:VK,Q (.int (sn:FX)) H->te σ H Q) (q: ∀c,qQ X.K H c xs->Q (.ref c) H) (h2:Gl X "CHAIN_SIGNS":=by rfl) (hs:rb e:=by exact λ_ _=>rfl):Pe X (.Subscript (.Name "CHAIN_SIGNS" p1) e p3) σ H Q:=by
 obtain⟨qs,qs5,sqA,c,atq,sq⟩:=KT.row (H:=H) row;exact#[_,cO aa1 (ip h2 Y.T.Ph) he hs,hv _ #[_,_,_,_,Go,Go,sqA,atq,q c sq]]
def RX.Zm {sp:Sp}{σ:L2.St}(Y:RX X a E) (c:CB X "read_chain" ["reader","depth","strength"] sp) (q:sp [u,v, .int ((sn+1:FX):Int)] H Q E) (h1:X.N[1]?=FB ("depth":Gf):=by rfl) (v1:o6 X.env.scope "depth":=by exact Hs Go) (h2:X.N[2]?=FB ("strength":Gf):=by rfl) (v2:o6 X.env.scope "strength":=by exact Hs Go):
  Pe X (.Call (.Name "read_chain" p1) [.Name "reader" p2, .Name "depth" p3, .BinOp (.Name "strength" p4) .Add (.Constant (.int 1) 0 p5) p6] [] p7) (FB u::FB v::FB (.int (sn:FX))::σ) H Q:=by
 obtain⟨G,hr,d,hg⟩:=c;exact#[_,aF G hr hg d Y.up (aa Y.rd (aa (dR h1 v1) (aa (bM dW (dR h2 v2) ak) ag))),_,_,Go,Go,q]
end
inductive ChI {p sub:FX->FX->FH->FQ FN}{c c':FX}{sg:Fx Fy}{once:GP}{res:FN->Pairs->FN}(L:ChP p sub c c' sg once res) (Z:Zf FN) (A1 A2:FG) (Kn:FH) (d:FX) (e:FN) (v:V) (σ0:L2.St) (m:FX) (σ:L2.St) (H:Hp):Prop
 |mk (F:Fx (Fk×V)) (es:Pairs) (us:Fx V) (t:FD) (f:FX) (_:m=t.length) (_:σ=σ0) (_:once=FS->es=[]) (_:us.length+t.length<Z.L) (_: ∀x∈es,x.1∈sg) (_: ∃i:FX,F[i]?=FB (.e e,v)) (_:Paired (λ(x:Fy×FN) u=> ∃i:FX,F[i]?=FB (.e x.2,u)) es us) (_:16*t.length+c'<=f)
  (_:RS ((Z.mo A1 (v::us)).mo A2 (es.map λx=>V.str (dJ x.1))) F FS H t Kn (L.q f d Kn e es)):ChI L Z A1 A2 Kn d e v σ0 m σ H
def zi (T:aV K mg a) (XC:XT K a) (KT:Ak K a.IK di) (hk:8<=k)
  (G:T.W9.O P w base k (a0 a Gc Hl 7 (Lv j))):
  T.Yw.O P w base (k+1) (we a Gc 5 Hl 7 (Lv j)):=by
 refine ai8 T XC hk T.Yw.F ahL λHn A outer s H B t Kn d fuel Q E hr hd ho hf hm=>?_;intro X D Z Y R;exact bI (cS bS (bA 2 (BO Y KT #[Go,_,Go,b8 (aN #[_,Y.call2 #[G,hr,T.W9.c,Go] (pv 1) [01] Go,R.tail hd ho hf])])))
def fi (T:aV K mg a) (XC:XT K a) (KT:Ak K a.IK di) (hk:8<=k) (hs:sn<5) (h2:sn=2->w2=FS) {p sub:FX->FX->FH->FQ FN}{res:FN->Pairs->FN}(Xb:1<=c')
  (L:ChP p sub c c' sg once res) (N:qD sn sg once res) (row:di[sn]?=FB (sg.map λo=>V.str (dJ o))) (sgS: ∀o∈sg,o∈Hb) (Zn:once=decide (sn=2))
  (G:T.Yw.O P w base k (we a w2 (sn+1) sub c' (Lv j))):
  T.Yw.O P w base (k+1) (we a FS sn p c (Lv j)):=by
 refine ai8 T XC hk T.Yw.F ahL λHn A outer s H B t Kn d fuel Q E hr hd ho hf hm=>?_;intro X D Z Y R;have cb:CB X "read_chain" ["reader","depth","strength"] (we a w2 (sn+1) sub c' (Lv j)):=#[G,hr,T.Yw.c,Go];refine bI (cS bS (bA 2 (BO Y KT [013])));rw[cj,Gp (by lia)];refine bG ?_;obtain⟨f,hf1,hp⟩:=L.start (d:=12-d) (Kn:=Kn) (n:=t.length) hf;have z0:Eh Z:=enZ;refine aO 3 Y.nd (vU (aP (Y.Zm cb #[_,_,Go,(R.as (congrFun hp t)).Vg (λ_ e r b w=>z0.bad (L.Qc _ _ _ _ _) b w) hd ho hf1 λe v H t1 _ R=>cH #[by show 1<=GD;decide,λA1 hA1=>?_]])));have N1:=R.nwl hA1;have l1:t1.length+1<=Z.L:=R.l;refine aO 4 Y.nd (mE λA2 hA2=>?_);have ne:A2≠A1:=λz=>by rw[z,ae] at hA2;cases hA2
 have N2:=R.nwl (L:=A2) (by rw[ac ne] at hA2;exact hA2)
 have N2': ∀ {us:Fx V},wB (Z.mo A1 us) A2:=N2.mo ne
 have N1': ∀ {us:Fx V},wB (Z.mo A2 us) A1:=N1.mo ne.symm
 have R:=(R.more (us:=[v]) hA1).more (us:=[]) hA2
 have hm:Kn.values.length+Z.L<=4000:=hm
 have eS: ∀ {F:Fx (Fk×V)}{es:Pairs}{us:Fx V}{t:FD}{f:FX}{H:Hp},1<=f->F3 t≠ .bad->(once=FS->es.length<=1)->(once=FS/\es≠[]\/ ∀op,F3 t= .sign op->op∉sg)->(∀x∈es,x.1∈sg)->(∃i:FX,F[i]?=FB (.e e,v))->Paired (λ(x:Fy×FN) u=> ∃i:FX,F[i]?=FB (.e x.2,u)) es us->
   RS ((Z.mo A1 (v::us)).mo A2 (es.map λx=>V.str (dJ x.1))) F FS H t Kn (L.q f (12-d) Kn e es)->Bd X ((bh s_w).drop 4) D [FB (.ref B.r),FB (.int d),FB (.int (sn:FX)),FB (.ref A1),FB (.ref A2)] H:=by
  intro F es us t f H hf nb h1 KN hsg m0 mp R;have R:=R.as (p':=pure (res e es)) (L.stop hf h1 KN);obtain⟨i0,m0⟩:=m0;refine bI (cS bS (iJ T.KW R.Rc (pv 4) [05] (cP [013])));rw[cj,FT];refine aQ (λh=>?_) λh=>?_
  .obtain rfl:es=[]:=Od.mp (by have:=Gj h;lia)
   have hA1:=(R.less N2').Rc
   have R:=(R.less N2').less N1;rw[N.VD] at R;exact aN #[_,cO bC (pv 3) ak [002],A1,_,0,v,Go,Go,cD.of hA1,bv (j:=0) Go,R.done (R.f m0) λ_=>nb]
  .have z1:es≠[]:=λz=>by rw[z] at h;cases h
   refine aN (jU Y (AK T) (aP (bA 2 (aP (bA 3 (aP (bA 4 (cH (R.new Go λw H i R=>?_)))))))));have hA2:=R.Rc;have hA1:=(R.less N2').Rc;have R:=(R.less N2').less N1;exact R.done (N.at_ z1 hsg h1 (bF.keep (λb o e m=>#[λz=>m (cA (cA z)),e]) i) #[A1,Go,N1.nm,hA1] #[A2,Go,N2.nm,hA2] (R.f m0) (Paired.NV mp λx u ⟨i,h⟩=>R.f h)) λ_=>nb
 refine fZ Y.lv (ChI L Z A1 A2 Kn (12-d) e v [FB (.ref B.r),FB (.int d),FB (.int (sn:FX)),FB (.ref A1),FB (.ref A2)]) _ #[_,[],[],t1,f,Go,Go,λ_=>rfl,(by show 0+t1.length<_;lia),(λ_ z=>nomatch z),#[0,Go], .nil,by lia,R] ?_
 rintro m σ H ⟨F,es,us,t,f,rfl,rfl,on0,ul,hsg,m0,mp,hf,R⟩;have z2:Eh ((Z.mo A1 (v::us)).mo A2 (es.map λx=>V.str (dJ x.1))):=(z0.mo N1).mo N2'
 refine cS kY (wp Y R (λb=>z2.bad (L.Qc _ _ _ _ _) b R.w) λnb=>ai9 Y KT row (pv 2) [05] λc sq=>#[c,_,Go, .inr sq,Ad _,vB sg,_,Go,aQ (λein=>?_) λein=>?_]) Go
 .obtain⟨⟨x,xp⟩,r,rfl⟩:=R.cons
  obtain⟨op,X0,rfl⟩:=CV R.tok sgS ein;obtain⟨f6,hf6,h6⟩:=L.go (x:=(.sign op,xp)) (by rw[FW] at hf;exact hf) on0 Go X0;have lu:us.length=es.length:=(aZ mp).symm;rw[FW] at ul;refine rJ N2' R (pv 4) [05] (iX Y (R.as (p':=G7>>=λ_=>sub f6 (12-d) Kn>>=λe2=>L.q f6 (12-d) Kn e (es++[(op,e2)])) h6) nfS λH R=>#[_,_,_,_,_,by rw[FT];exact GF (show es.length<=4000 by lia) [01],R,λH R=>?_]);have R:=R.swap;have z3:Eh (((Z.mo A2 ((es.map λx=>V.str (dJ x.1))++[iy (.sign op)])).mo A1 (v::us)).at r.length):=(z0.mo N2).mo N1'
  refine rJ N1' R (pv 3) [05] (Y.Zm cb #[_,_,Go,RS.Vg (Z:=((Z.mo A2 ((es.map λx=>V.str (dJ x.1))++[iy (.sign op)])).mo A1 (v::us)).at r.length) R.at (λ_ e r b w=>z3.bad (L.Qc _ _ _ _ _) b w) hd ho hf6 λe2 v2 H t2 nb2 R2=>#[_,_,_,_,_,GF (show(v::us).length<=4000 by rw[FW];lia) [01],RS.back (Z:=(Z.mo A2 _).mo A1 _) (l:=r.length) (by show r.length<=Z.L;lia) R2,λH R=>?_]]);have l2:t2.length+1<=r.length:=R2.l;have R:RS ((Z.mo A1 (v::(us++[v2]))).mo A2 ((es++[(op,e2)]).map λx=>V.str (dJ x.1))) ((.e e2,v2)::F) FS H t2 Kn (L.q f6 (12-d) Kn e (es++[(op,e2)])):=by
   rw[Hk];exact R.swap
  have aja: ∀x∈es++[(op,e2)],x.1∈sg:=λx hx=>(Gr.mp hx).elim (hsg x) λz=>by rw[Ga.mp z];exact X0
  have m0': ∃i:FX,((.e e2,v2)::F)[i]?=FB (.e e,v):=m0.elim λi h=>#[i+1,h]
  have mp':Paired (λ(x:Fy×FN) u=> ∃i:FX,((.e e2,v2)::F)[i]?=FB (.e x.2,u)) (es++[(op,e2)]) (us++[v2]):=e9 (Paired.NV mp λx u h=>h.elim λi h=>#[i+1,h]) #[0,Go]
  refine bI (cS bS (bA 2 #[_,aS (by rfl) T.SA,Go,_,Go,?_]));rw[cj];refine aQ (λh=>?_) λh=>?_
  .have s2:sn=2:=by have:=Gj h;lia
   have on1:once=FS:=by rw[Zn,s2];rfl
   have es0:=on0 on1;exact Bi (eS (by lia) (nb2 (h2 s2)) (λ_=>by rw[es0];exact F5 _) (.inl #[on1,λz=>by rw[TJ] at z;cases z.2]) aja m0' mp' R)
  .have on1:once≠FS:=by rw[Zn,Gp λz=>by have:=Gw h;rw[z] at this;exact this Go];exact FA
   exact gh #[_,(show t2.length<r.length+1 by lia),_,_,us++[v2],t2,f6,Go,Go,λz=>F6 z on1,(by rw[Gb,JT];lia),aja,m0',mp',by lia,R]
 .exact eS (by lia) nb (λz=>by rw[on0 z];exact Gn _) (.inr λop ho hm=>by
   rw[ho,BA hm] at ein;cases ein) hsg m0 mp R
def zJ (h:FR t "if"=Gc):Gg (f+1) d Kn t=ors f d Kn t:=by
 rw[Gg];show(if FR t "if"=FS then _ else _)=_
 rw[FF (by rw[h];exact FA)]
 rfl
def amR (T:aV K mg a) (XC:XT K a) (hk:8<=k)
  (G1:T.Xv.O P w base k (a0 a FS Gg 12 (LvW j (Fz "if"))))
  (G2:T.Yw.O P w base k (we a FS 0 ors 11 (Lv j))):
  T.Tj.O P w base (k+1) (a0 a FS Gg 12 (Lv j)):=by
 refine vK T XC hk T.Tj.F ahJ λHn A outer s H B t Kn d fuel Q E hr hd ho hf hm=>?_;intro X D Z Y R;refine bI (du (iO Y R (l0 _ _ _) λnb=>#[_,Go,?_]));rw[ca R.tok xT];rw[05]
 .exact aN #[_,Y.call2 #[G1,hr,T.Xv.c,Go] (pv 1) [01] Go,R.tail hd #[ho,beq_iff_eq.mp e] hf]
 .obtain⟨f,rfl⟩: ∃f,fuel=f+1:=#[fuel-1,by lia]
  exact aN #[_,aF G2 hr (by rfl) T.Yw.c Y.up (aa Y.rd (aa (pv 1) (aa ak ag))),_,_,Go,RS.tail (R.as (zJ e)) hd ho (by lia)]
def ajb {CX:qG}{k:FX}{sp1 sp2:Sp}(F1:bW P w K mg base CX k f fd ps sp1) (F2:bW P w K mg base CX k f fd ps sp2):bW P w K mg base CX k f fd ps (λvs H Q E=>sp1 vs H Q E\/sp2 vs H Q E):=
 #[λvs H Q E h=>h.elim (F1.len vs H Q E) (F2.len vs H Q E),λA outer s H args us vs Q E hr he hb hv h=>h.elim (F1.run A outer s H args us vs Q E hr he hb hv) (F2.run A outer s H args us vs Q E hr he hb hv)]
def yL {p:FX->FX->FH->FQ FN}{ok1 ok2:FX->FH->FD->Prop}{H:Hp}{Q:VK}{E:XK}(h:a0 a w2 p c (λd K t=>ok1 d K t\/ok2 d K t) vs H Q E):a0 a w2 p c ok1 vs H Q E\/a0 a w2 p c ok2 vs H Q E:=by
 obtain⟨B,n,t,Kn,d,fuel,e,hd,ok,S,hf,hW⟩:=h;rcases ok with ok|ok
 .exact .inl #[B,n,t,Kn,d,fuel,e,hd,ok,S,hf,hW]
 .exact .inr #[B,n,t,Kn,d,fuel,e,hd,ok,S,hf,hW]
def kj {p:FX->FX->FH->FQ FN}{H:Hp}{Q:VK}{E:XK}(h:a0 a w2 p c (Lv 0) vs H Q E):False:=by
 obtain⟨B,n,t,Kn,d,fuel,e,hd,ok,S,hf,hW⟩:=h;have ok:13<=d+0:=ok;lia
def kG:(∀o∈S0,o∈Hb)/\(∀o∈S1,o∈Hb)/\(∀o∈S2,o∈Hb)/\(∀o∈S3,o∈Hb)/\(∀o∈S4,o∈Hb):=by decide+kernel
def amS:di[0]?=FB (S0.map λo=>V.str (dJ o)):=by decide+kernel
def amT:di[1]?=FB (S1.map λo=>V.str (dJ o)):=by decide+kernel
def amU:di[2]?=FB (S2.map λo=>V.str (dJ o)):=by decide+kernel
def amV:di[3]?=FB (S3.map λo=>V.str (dJ o)):=by decide+kernel
def amW:di[4]?=FB (S4.map λo=>V.str (dJ o)):=by decide+kernel
def amX (T:aV K mg a) (XC:XT K a) (KT:Ak K a.IK di): ∀j:FX,
  T.Tj.O P w base (8+11*j) (a0 a FS Gg 12 (Lv j))/\
  T.W9.O P w base (8+11*j) (a0 a Gc Hl 7 (Lv j)):=by
 intro j
 induction j with
 |zero=>exact#[fW T.Tj.F ahJ (λ_ _ _ _ h=>(kj h).elim) (λ_ _ _ _ _ _ _ _ _ h=>(kj h).elim),fW T.W9.F abo (λ_ _ _ _ h=>(kj h).elim) (λ_ _ _ _ _ _ _ _ _ h=>(kj h).elim)]
 |succ j ih=>
  obtain⟨E0,U0⟩:=ih;have hk:8<=8+11*j:=by lia
  rw[show 8+11*(j+1)=8+11*j+11 by lia];generalize 8+11*j=k at hk E0 U0 ⊢;have B:=aiW T XC hk E0;have Su:=aiV T XC hk E0;have Ca:=amQ T XC hk E0;have Ch:=aiX T XC hk E0;have Pr:=ai3 T XC (by lia) B Su Ca;have UF:T.W9.O P w base (k+1+1) (a0 a Gc Hl 7 (λ_ _ _=>False)):=
   fW T.W9.F abo (λ_ _ _ _ h=>by obtain⟨B,n,t,Kn,d,fuel,e,hd,ok,_⟩:=h;exact ok.elim) (λ_ _ _ _ _ _ _ _ _ h=>by obtain⟨B,n,t,Kn,d,fuel,e,hd,ok,_⟩:=h;exact ok.elim)
  have UN:=gQ (j:=j+1) (λd _ t=>13<=d+(j+1)/\ ∃m,F3 t= .num m) (λ_ _ _=>False) T XC (by lia) (λd Kn t h=>h.1) (λd Kn s xp t h _=>by obtain⟨_,m,z⟩:=h;cases z) (λd Kn s xp t m h _=>by obtain⟨_,m,z⟩:=h;cases z) Pr UF
  have UB:=(ajb (U0.mono (by lia:k<=k+1+1+1)) UN).imp λvs H Q E h=>yL h
  have Un:=gQ (j:=j+1) (Lv (j+1)) (λd K t=>Lv j d K t\/(13<=d+(j+1)/\ ∃m,F3 t= .num m)) T XC (by lia) (λd Kn t h=>h) (λd Kn s xp t h lt=> .inl (by have h:13<=d+(j+1):=h;show 13<=d+1+j;lia)) (λd Kn s xp t m h z=> .inr #[h,m,z]) (Pr.mono (by lia:k+1+1<=k+1+1+1)) UB
  have C5:=zi T XC KT (by lia) Un
  have C4:=fi T XC KT (by lia) (sn:=4) [01] (λz=>by cases z) [01] ai0 Fw amW kG.2.2.2.2 Go C5
  have C3:=fi T XC KT (by lia) (sn:=3) [01] (λz=>by cases z) [01] aiZ Fe amV kG.2.2.2.1 Go C4
  have C2:=fi T XC KT (by lia) (sn:=2) [01] (λ_=>rfl) [01] ai2 EN amU kG.2.2.1 Go C3
  have C1:=fi T XC KT (by lia) (sn:=1) [01] (λz=>by cases z) [01] aiY D0 amT kG.2.1 Go C2
  have C0:=fi T XC KT (by lia) (sn:=0) [01] (λz=>by cases z) [01] amM abZ amS kG.1 Go C1
  have Ex:=amR T XC (by lia) (Ch.mono (by lia)) C0;exact#[Ex.mono (by lia),Un.mono (by lia)]
end OS
namespace OS
open Vbemac
section
variable {K:Known}
def A5 (h:Io t "let"=FS):stmt (k+1) d K B t=(next>>=λ_=>newName K>>=λx=>sign "=">>=λ_=>expr k DEEP K>>=λe=>sign ";">>=λ_=>pure (.bind x e,K.with x,B):P (Stmt×Known×Blocks)) t:=by
 rw[stmt];show(if Io t "let"=FS then _ else _)=_
 rw[FI h]
def DE (h1:Io t "let"=Gc) (h:Io t "for"=FS):stmt (k+1) d K B t=(deeper d>>=λn=>next>>=λ_=>newName K>>=λx=>key "in">>=λ_=>expr k DEEP K>>=λlo=>sign "..">>=λ_=>expr k DEEP K>>=λhi=>
  sign "{">>=λ_=>stmts k n (K.with x) B>>=λl=>pure (.loop x lo hi l.1,K,l.2):P (Stmt×Known×Blocks)) t:=by
 rw[stmt];show(if Io t "let"=FS then _ else if Io t "for"=FS then _ else _)=_
 rw[FF (by rw[h1];exact FA),FI h]
def lf (k n:FX) (K:Known) (c:Exp) (a:Stmts×Blocks):P (Stmt×Known×Blocks):=ifKey "else">>=λm=>(if m=FS then(sign "{">>=λ_=>stmts k n K a.2>>=λb=>pure (.cond c a.1 b.1,K,b.2)) else pure (.cond c a.1 .nil,K,a.2))
def EY (h1:Io t "let"=Gc) (h2:Io t "for"=Gc) (h:Io t "if"=FS):stmt (k+1) d K B t=(deeper d>>=λn=>next>>=λ_=>expr k DEEP K>>=λc=>sign "{">>=λ_=>stmts k n K B>>=λa=>lf k n K c a:P (Stmt×Known×Blocks)) t:=by
 rw[stmt];show(if Io t "let"=FS then _ else if Io t "for"=FS then _ else if Io t "if"=FS then _ else _)=_
 rw[FF (by rw[h1];exact FA),FF (by rw[h2];exact FA),FI h]
 rfl
def kR (m:FP GK) (B:Blocks):Blocks:=match m with
 |some w=>w::B
 |none=>B
def vi (h1:Io t "let"=Gc) (h2:Io t "for"=Gc) (h3:Io t "if"=Gc) (h:Io t "block"=FS):stmt (k+1) d K B t=(next>>=λ_=>maybeName B>>=λm=>side>>=λYa=>key "zone">>=λ_=>expr k DEEP K>>=λz=>
  key "price">>=λ_=>expr k DEEP K>>=λp=>key "amount">>=λ_=>newName K>>=λx=>sign ":">>=λ_=>expr k DEEP (K.with x)>>=λq=>behind "under" (knownBlock B)>>=λu=>behind "group" (expr k DEEP K)>>=λg=>sign ";">>=λ_=>
  pure (.block m Ya z p x q u g,K,kR m B):P (Stmt×Known×Blocks)) t:=by
 rw[stmt];show(if Io t "let"=FS then _ else if Io t "for"=FS then _ else if Io t "if"=FS then _ else if Io t "block"=FS then _ else _)=_
 rw[FF (by rw[h1];exact FA),FF (by rw[h2];exact FA),FF (by rw[h3];exact FA),FI h]
 rfl
def zC (h1:Io t "let"=Gc) (h2:Io t "for"=Gc) (h3:Io t "if"=Gc) (h4:Io t "block"=Gc):stmt (k+1) d K B t=(side>>=λYa=>key "zone">>=λ_=>expr k DEEP K>>=λz=>
  key "quarter">>=λ_=>expr k DEEP K>>=λq=>key "price">>=λ_=>expr k DEEP K>>=λp=>behind "to" (expr k DEEP K)>>=λtop=>key "amount">>=λ_=>expr k DEEP K>>=λa=>sign ";">>=λ_=>
  pure (.step Ya z q p top a,K,B):P (Stmt×Known×Blocks)) t:=by
 rw[stmt];show(if Io t "let"=FS then _ else if Io t "for"=FS then _ else if Io t "if"=FS then _ else if Io t "block"=FS then _ else _)=_
 rw[FF (by rw[h1];exact FA),FF (by rw[h2];exact FA),FF (by rw[h3];exact FA),FF (by rw[h4];exact FA)]
def zU (h:Mv t "}"=FS):stmts (k+1) d K B t= .ok ((.nil,B),t.drop 1):=by
 rw[stmts];show(if Mv t "}"=FS then _ else _)=_
 rw[FI h]
def CK (h:Mv t "}"=Gc):stmts (k+1) d K B t=(stmt k d K B>>=λs=>stmts k d s.2.1 s.2.2>>=λl=>pure (.cons s.1 l.1,l.2):P (Stmts×Blocks)) t:=by
 rw[stmts];show(if Mv t "}"=FS then _ else _)=_
 rw[FF (by rw[h];exact FA)]
end
section
variable {K:Known}
def zx (h:n≠0):params (k+1) n K t=(newName K>>=λx=>ifSign ",">>=λm=>(if m=FS then(params k (n-1) (K.with x)>>=λl=>pure (x::l)) else(sign ")">>=λ_=>pure [x])):P (Fx GK)) t:=by
 rw[params];show(if n=0 then _ else _)=_
 rw[FF h]
def vV (h:n=0):params (k+1) n K t=fail 7 t:=by
 rw[params];show(if n=0 then _ else _)=_
 rw[FI h]
def Dt (h:peek t= .eof):tops (k+1) K n D t= .ok ([],t):=by
 rw[tops];show(if peek t= .eof then _ else _)=_
 rw[FI h]
def vA (h0:peek t≠ .eof) (h:Io t "const"=FS):tops (k+1) K n D t=(next>>=λ_=>newName K>>=λx=>sign "=">>=λ_=>expr k DEEP K>>=λe=>sign ";">>=λ_=>tops k (K.with x) n D>>=λl=>pure (.const x e::l):P Sheet) t:=by
 rw[tops];show(if peek t= .eof then _ else if Io t "const"=FS then _ else _)=_
 rw[FF h0,FI h]
def Bv (h0:peek t≠ .eof) (h1:Io t "const"=Gc) (h:Io t "fun"=FS) (hn:n≠0):tops (k+1) K n D t=(next>>=λ_=>newName K>>=λx=>sign "(">>=λ_=>ifSign ")">>=λnone_=>
  (if none_=FS then give [] else params k PARAMS (K.with x))>>=λps=>sign "=">>=λ_=>expr k DEEP { K with values:=ps++K.values } >>=λe=>sign ";">>=λ_=>tops k { K with funs:=(x,ps.length)::K.funs } (n-1) D>>=λl=>pure (.func x ps e::l):P Sheet) t:=by
 rw[tops];show(if peek t= .eof then _ else if Io t "const"=FS then _ else if Io t "fun"=FS then(if n=0 then _ else _) else _)=_
 rw[FF h0,FF (by rw[h1];exact FA),FI h,FF hn]
def yV (h0:peek t≠ .eof) (h1:Io t "const"=Gc) (h:Io t "fun"=FS) (hn:n=0):tops (k+1) K n D t=fail 7 t:=by
 rw[tops];show(if peek t= .eof then _ else if Io t "const"=FS then _ else if Io t "fun"=FS then(if n=0 then _ else _) else _)=_
 rw[FF h0,FF (by rw[h1];exact FA),FI h,FI hn]
def eJ (D:Fx GK):P GK:=λu=>match anyName u with
 | .error e=> .error e
 | .ok (w,r)=>if D.contains w=FS then fail 4 u else .ok (w,r)
def Ae (h0:peek t≠ .eof) (h1:Io t "const"=Gc) (h2:Io t "fun"=Gc) (h:Io t "desk"=FS):tops (k+1) K n D t=(next>>=λ_=>eJ D>>=λx=>sign "{">>=λ_=>stmts k NEST K []>>=λl=>tops k K n (x::D)>>=λr=>pure (.desk x l.1::r):P Sheet) t:=by
 rw[tops];show(if peek t= .eof then _ else if Io t "const"=FS then _ else if Io t "fun"=FS then _ else if Io t "desk"=FS then _ else _)=_
 rw[FF h0,FF (by rw[h1];exact FA),FF (by rw[h2];exact FA),FI h]
 rfl
def yu (h0:peek t≠ .eof) (h1:Io t "const"=Gc) (h2:Io t "fun"=Gc) (h:Io t "desk"=Gc):tops (k+1) K n D t=fail 2 t:=by
 rw[tops];show(if peek t= .eof then _ else if Io t "const"=FS then _ else if Io t "fun"=FS then _ else if Io t "desk"=FS then _ else _)=_
 rw[FF h0,FF (by rw[h1];exact FA),FF (by rw[h2];exact FA),FF (by rw[h];exact FA)]
def mt (D:Fx GK):aM (eJ D):=λt e=>by unfold eJ;rw[eQ t e]
end
end OS
namespace OS
open Vbemac
def mh:Stmt->FP GK
 | .bind x _=>FB x
 |_=>FM
def EO (K:Known) (s:Stmt) (K':Known):Prop:=match mh s with
 |some x=>K'=K.with x/\K.taken x=Gc
 |none=>K'=K
def jK (ss:Fx Stmt):Fx GK:=ss.filterMap mh
def Cb:Fx Stmt->Stmts->Stmts
 |[],l=>l
 |s::r,l=> .cons s (Cb r l)
def sC:Cb (ss++[x]) l=Cb ss (.cons x l):=by
 induction ss with
 |nil=>rfl
 |cons y r ih=>show Stmts.cons y (Cb (r++[x]) l)=_;rw[ih];rfl
structure ia (K:Known) (ss:Fx Stmt) (K':Known):Prop where
 funs:K'.funs=K.funs
 vals:K'.values=(jK ss).reverse++K.values
 nodup:(jK ss).Nodup
 free: ∀x∈jK ss,x∉K.values
def ia.nil {K:Known} :ia K [] K:=#[Go,Go,Ni,λ_ z=>nomatch z]
def ia.snoc {K K1 K2:Known}(h:ia K ss K1) (h2:EO K1 s K2):ia K (ss++[s]) K2:=by
 unfold EO at h2;cases e:mh s with
 |none=>
  rw[e] at h2;have h2:K2=K1:=h2;have:jK (ss++[s])=jK ss:=by unfold jK;rw[Ud];simp [e]
  rw[h2];exact#[h.funs,by rw[this];exact h.vals,by rw[this];exact h.nodup,by rw[this];exact h.free]
 |some x=>
  rw[e] at h2;obtain⟨rfl,ht⟩:=h2;have:jK (ss++[s])=jK ss++[x]:=by unfold jK;rw[Ud];simp [e]
  unfold Known.taken at ht;rw[MF] at ht;have nc:x∉K1.values:=λz=>by rw[GN.mpr z] at ht;cases ht.1
  rw[h.vals] at nc;refine#[h.funs,?_,?_,?_]
  .rw[this]
   show x::K1.values=_
   rw[h.vals,Vj]
   rfl
  .rw[this,LW]
   refine#[h.nodup,GJ.mpr #[HZ,Ni],λa ha b hb=>?_];rw[Ga.mp hb];intro z;exact nc (Gr.mpr (.inl (Kp.mpr (by rw[<-z];exact ha))))
  .rw[this]
   intro y hy z;rcases Gr.mp hy with hy|hy
   .exact h.free y hy z
   .rw[Ga.mp hy] at z
    exact nc (Gr.mpr (.inr z))
end OS
namespace OS
open Vbemac
abbrev g7:=Top×Known×FX×Fx GK
def ab0 (k:FX) (K:Known) (n:FX) (D:Fx GK):P g7:=newName K>>=λx=>sign "(">>=λ_=>ifSign ")">>=λnone_=>(if none_=FS then give [] else params k PARAMS (K.with x))>>=λps=>sign "=">>=λ_=>
 expr k DEEP { K with values:=ps++K.values } >>=λe=>sign ";">>=λ_=>pure (.func x ps e,{ K with funs:=(x,ps.length)::K.funs },n-1,D)
def vI (k:FX) (K:Known) (n:FX) (D:Fx GK):P g7:=newName K>>=λx=>sign "=">>=λ_=>expr k DEEP K>>=λe=>sign ";">>=λ_=>pure (.const x e,K.with x,n,D)
def AN (k:FX) (K:Known) (n:FX) (D:Fx GK):P g7:=eJ D>>=λx=>sign "{">>=λ_=>stmts k NEST K []>>=λl=>pure (.desk x l.1,K,n,x::D)
def iz (k:FX) (K:Known) (n:FX) (D:Fx GK):P g7:=λt=>
 if Io t "const"=FS then(next>>=λ_=>vI k K n D:P g7) t
 else if Io t "fun"=FS then(if n=0 then fail 7 t else(next>>=λ_=>ab0 k K n D:P g7) t)
 else if Io t "desk"=FS then(next>>=λ_=>AN k K n D:P g7) t
 else fail 2 t
def l8 (k:FX) (K:Known) (n:FX) (D:Fx GK):aM (iz k K n D):=λt e=>by
 unfold iz;rw[cu e,cu e,cu e,FF FA,FF FA,FF FA];exact aJ 2 t e
end OS
namespace OS
open PySem PySem.Spec L2
open PyProof.Rows hiding St
variable {P:Gy}{w:Hf}{K:FC}{mg:Gf->FP FE}{base:Ho}{a:bi}
def ajc:ee "=" (Fz "="):=[008]
def Bm:ee ";" (Fz ";"):=[008]
def ajd:ee "{" (Fz "{"):=[008]
def Zo:ee "}" (Fz "}"):=[008]
def yc:c7 "sell" (Fz "sell"):=[007]
def BE:c7 "buy" (Fz "buy"):=[007]
def pO:c7 "amount" (Fz "amount"):=[007]
def dS (f:FX) (Kn:FH):FQ FN:=Gz "=">>=λ_=>Gg f HV Kn>>=λe=>Gz ";">>=λ_=>pure e
def dz (s:String) (f:FX) (Kn:FH):FQ FN:=HK s>>=λ_=>Gg f HV Kn
def jd (f:FX) (Kn:FH):FQ (Fy×FN):=HK "amount">>=λ_=>Hg Kn>>=λx=>Gz ":">>=λ_=>Gg f HV (Kn.with x)>>=λe=>pure (x,e)
def Eg {α β:Type}(Z:Zf β) (g:α->FQ β):Prop:= ∀e r,F3 r= .bad->W (g e) r Z.Ro (QE Z.a Z.B Z.H0 Z.E)->QE Z.a Z.B Z.H0 Z.E 1 (IS r)
def Eo {α β:Type}{Z:Zf β}{g:α->FQ β}(h: ∀e,aM (g e)):Eg Z g:=λe _ nb w=>(h e).Me nb w
def ab1 {α β:Type}{Z:Zf β}{p:FQ α}{g:α->FQ β}{t:FD}(h:Eg Z g) (hr:ib p) (b:F3 t= .bad) (w:W (p>>=g) t Z.Ro (QE Z.a Z.B Z.H0 Z.E)):QE Z.a Z.B Z.H0 Z.E 1 (IS t):=by
 rw[jM] at w;rcases hr t b with e|⟨x,e⟩
 .rw[jp e] at w;exact w
 .rw[yE e] at w;exact h x t b w
inductive gE {α:Type}(a:bi) (args:Fx V) (p:FX->FH->FQ α) (c:FX) (en bt:GP) (mk:α->Fk) (vs:Fx V) (H:Hp) (Q:VK) (E:XK):Prop
 |mk {β:Type}(B:Rb) (L:FX) (H0:Hp) (Ro:β->FD->Prop) (F:Fx (Fk×V)) (b:GP) (t:FD) (Kn:FH) (f:FX) (g:α->FQ β) (_:vs= .ref B.r::args) (_:16*t.length+c<=f) (_:en=FS->Eg ⟨a,E,B,L,H0,Ro⟩ g) (_:RS ⟨a,E,B,L,H0,Ro⟩ F b H t Kn (p f Kn>>=g))
  (_: ∀x v H' t',RS #[a,E,B,L,H0,Ro] ((mk x,v)::F) (b||bt) H' t' Kn (g x)->Q v H'):gE a args p c en bt mk vs H Q E
inductive Ej {α:Type}(a:bi) (pp:Rb->FQ α->Prop) (val:α->V) (vs:Fx V) (H:Hp) (Q:VK) (E:XK):Prop
 |mk {β:Type}(B:Rb) (L:FX) (H0:Hp) (Ro:β->FD->Prop) (F:Fx (Fk×V)) (b:GP) (t:FD) (Kn:FH) (p:FQ α) (g:α->FQ β) (_:vs=[.ref B.r]) (_:pp B p) (_:RS ⟨a,E,B,L,H0,Ro⟩ F b H t Kn (p>>=g))
  (_: ∀x H' t',RS #[a,E,B,L,H0,Ro] F FS H' t' Kn (g x)->Q (val x) H'):Ej a pp val vs H Q E
section
variable {β:Type}{Z:Zf β}{H:Hp}{p:FQ β}
def RS.room (R:RS Z F b H t Kn p):Kn.values.length+t.length<=4000:=by
 rw[00];exact S.kn.len
def RS.lL (R:RS Z F b H t Kn p):t.length<=Z.L:=F7 (Kr _ _) R.l
def RS.or {c:GP}(R:RS Z F FS H t Kn p):RS Z F (c||true) H t Kn p:=by rw[QM];exact R
def RS.cut (n:FX) (R:RS Z F b H t Kn p):RS Z (F.drop n) b H t Kn p:=#[R.S,R.k,λ{i x} e=>R.f (i:=n+i) (by rw[<-Fx.getElem?_drop];exact e),R.l,R.w]
def RS.asf {α:Type}{q q':FQ α}{g:α->FQ β}(R:RS Z F b H t Kn (q>>=g)) (e:q t=q' t):RS Z F b H t Kn (q'>>=g):=R.as (aW e)
end
section
variable {k:FX}{x Hy:Gf}{st:Stmt}{f:FG}{fd:GQ}{N ps:Fx Gf}{α:Type}{args:Fx V}{p:FX->FH->FQ α}{c:FX}{en bt:GP}{mk:α->Fk}{val:α->V}{pp:Rb->FQ α->Prop}
def E3 (T:aV K mg a) (XC:XT K a) (hk:8<=k) (F:o9 K x Hy st f fd) (S:ay N ("reader"::ps) (af st)) (hl:args.length=ps.length)
  (J3: ∀(Hn:FE) (A:Hm) (outer:Fx Env) (s:FJ) (H:Hp) {β:Type}(B:Rb) (L:FX) (H0:Hp) (Ro:β->FD->Prop) (F:Fx (Fk×V)) (b:GP) (t:FD) (Kn:FH) (fu:FX) (g:α->FQ β) (Q:VK) (E:XK),bZ k (A.deeper [011])->16*t.length+c<=fu->
   let X:=fg (gb P w) P w K mg base N Hy (af st) f Hn A outer s H E
   let D:eI:= { nx:=λ_ H'=>Q .Jm H',rt:=Q }
   let Z:Zf β:=#[a,E,B,L,H0,Ro]
   (en=FS->Eg Z g)->RX X a E->RS Z F b H t Kn (p fu Kn>>=g)->(∀x v H' t',RS Z ((mk x,v)::F) (b||bt) H' t' Kn (g x)->Q v H')->Bd X (bh st) D (L2.start N (.ref B.r::args)) H):bW P w K mg base (gb P w) (k+1) f fd ("reader"::ps) (gE a args p c en bt mk):=by
 refine fW F S (λvs H Q E h=>?_) [02]
 .obtain⟨B,L,H0,Ro,F,b,t,Kn,fu,g,rfl,_⟩:=h
  exact GO So hl
 .obtain⟨B,L,H0,Ro,F,b,t,Kn,fu,g,rfl,h1,h2,R,q⟩:=h
  exact J3 Hn A outer s H B L H0 Ro F b t Kn fu g Q E hr h1 h2 (j6 T XC hk S hr) R q
def aje (T:aV K mg a) (XC:XT K a) (hk:8<=k) (F:o9 K x Hy st f fd) (S:ay N ["reader"] (af st))
  (J3: ∀(Hn:FE) (A:Hm) (outer:Fx Env) (s:FJ) (H:Hp) {β:Type}(B:Rb) (L:FX) (H0:Hp) (Ro:β->FD->Prop) (F:Fx (Fk×V)) (b:GP) (t:FD) (Kn:FH) (p:FQ α) (g:α->FQ β) (Q:VK) (E:XK),bZ k (A.deeper [011])->pp B p->
   let X:=fg (gb P w) P w K mg base N Hy (af st) f Hn A outer s H E
   let D:eI:= { nx:=λ_ H'=>Q .Jm H',rt:=Q }
   let Z:Zf β:=#[a,E,B,L,H0,Ro]
   RX X a E->RS Z F b H t Kn (p>>=g)->(∀x H' t',RS Z F FS H' t' Kn (g x)->Q (val x) H')->Bd X (bh st) D (L2.start N [.ref B.r]) H):bW P w K mg base (gb P w) (k+1) f fd ["reader"] (Ej a pp val):=by
 refine fW F S [03] [02];obtain⟨B,L,H0,Ro,F,b,t,Kn,p,g,rfl,h1,R,q⟩:=h;exact J3 Hn A outer s H B L H0 Ro F b t Kn p g Q E hr h1 (j6 T XC hk S hr) R q
end
section
variable {β:Type}{Z:Zf β}{H:Hp}{E:XK}{Q:VK}{sp:Sp}{p:FQ β}
def e7 (Y:RX X a E) (c:CB X x ["reader"] sp) (q:sp [.ref B] H Q E) (hx:(x == [003])=Gc:=by decide):Pe X (.Call (.Name x p1) [.Name "reader" p2] [] p4) (FB (.ref B)::σ) H Q:=by
 obtain⟨G,hr,d,hg⟩:=c;exact#[_,aF G hr hg d Y.up (aa Y.rd ag) hx,q]
def wO (Y:RX X a E) (c:CB X x ["reader","word"] sp) (q:sp [.ref B, .str v] H Q E) (hx:(x == [003])=Gc:=by decide):Pe X (.Call (.Name x p1) [.Name "reader" p2, .Constant (.str v) j p3] [] p4) (FB (.ref B)::σ) H Q:=by
 obtain⟨G,hr,d,hg⟩:=c;exact#[_,aF G hr hg d Y.up (aa Y.rd (aa dI ag)) hx,q]
end
abbrev o4 (P:Gy) (w:Hf) (K:FC) (mg:Gf->FP FE) (base:Ho) (a:bi) (k:FX):Prop:=bW P w K mg base (gb P w) k a.f_c a.ae6 ["reader","depth"] (a0 a FS Gg 12 (Lv 13))
def zI {Kn:FH}{t:FD} :Lv 13 0 Kn t:=by show 13<=0+13;decide
def ajf (T:aV K mg a) (XC:XT K a) (hk:8<=k) (G:o4 P w K mg base a k):
  T.Yx.O P w base (k+1) (gE a [] dS 12 Gc FS .e):=by
 refine E3 T XC hk T.Yx.F amc Go λHn A outer s H β B L H0 Ro F b t Kn fu g Q E hr hf=>?_;intro X D Z _ Y R q;have c:CB X "read_exp" ["reader","depth"] (a0 a FS Gg 12 (Lv 13)):=#[G,hr,T.Tj.c,Go];have lL:=R.lL;have hF:16*(Z.at t.length).L+12<=fu+16:=F7 hf (Kr _ _);have R:RS (Z.at t.length) F Gc H t Kn (Gz "=">>=λ_=>Gg fu HV Kn>>=λe=>Gz ";">>=λ_=>g e):=by
  have:=R.at;simp only[dS,bind_assoc,pure_bind] at this;exact this
 refine cJ (Z:=Z.at t.length) Y ajc R λH t R=>?_;refine eB (Z:=Z.at _) (d:=0) 1 Y c ak [05] R (n9 λx=>(bj ";").bind) (Gn _) zI hF λe v H t R=>?_;refine cJ (Z:=Z.at _) Y Bm R λH t R=>?_;exact aN (bA 1 (q e v H t (R.back lL).or))
def ab2 {v:Gf}{s:String}(lit:c7 v (Fz s)) (T:aV K mg a) (XC:XT K a) (hk:8<=k) (G:o4 P w K mg base a k):
  T.XI.O P w base (k+1) (gE a [.str v] (dz s) 12 FS FS .e):=by
 refine E3 T XC hk T.XI.F ame Go λHn A outer s0 H β B L H0 Ro F b t Kn fu g Q E hr hf=>?_;intro X D Z en Y R q;have lL:=R.lL;have R:RS (Z.at t.length) F Gc H t Kn (HK s>>=λ_=>Gg fu HV Kn>>=g):=by
  have:=R.at;simp only[dz,bind_assoc] at this;exact this
 refine xq (Z:=Z.at t.length) Y R (pv 1) [05] (λr _ ok=>lit.p r ok) λH t1 R=>?_;have l1:t1.length+1<=t.length:=R.l;exact aN #[_,Y.call2 #[G,hr,T.Tj.c,Go] ak [01] Go,RS.call (Z:=Z.at _) (d:=0) R (en Go) (Gn _) zI (by lia) λe v H t _ R=>q e v H t (R.back lL).or]
def qb {α:Type}{s:String}{p:FQ α}{t:FD}(h:FR t s=FS):HH s p t=(HK s>>=λ_=>p>>=λx=>pure (FB x):FQ (FP α)) t:=by
 unfold HH;rw[FI h];have e:(HK s>>=λ_=>p>>=λx=>pure (FB x):FQ (FP α)) t=(p>>=λx=>pure (FB x):FQ (FP α)) (t.drop 1):=by
  show(Gh (HK s) _) t=_
  unfold Gh HK;rw[FI h]
  rfl
 rw[e];show _=(Gh p _) (t.drop 1);unfold Gh;cases p (t.drop 1) with
 |error e=>rfl
 |ok z=>rfl
def on {α:Type}{s:String}{p:FQ α}{t:FD}(h:FR t s=Gc):HH s p t= .ok (FM,t):=by
 unfold HH;rw[FF (by rw[h];exact FA)]
def ajg {v:Gf}{s:String}(lit:c7 v (Fz s)) (T:aV K mg a) (XC:XT K a) (hk:8<=k)
  (G:T.XI.O P w base k (gE a [.str v] (dz s) 12 FS FS .e)):
  T.d_B.O P w base (k+1) (gE a [.str v] (λf Kn=>HH s (Gg f HV Kn)) 12 FS Gc .o):=by
 refine E3 T XC hk T.d_B.F amf Go λHn A outer s0 H β B L H0 Ro F b t Kn fu g Q E hr hf=>?_;intro X D Z en Y R q;have en:=en Go;refine bI (jw (du (mK Y R (pv 1) [05] (λbd=>ab1 en (gz s _) bd R.w) λnb=>#[_,Go,?_])));rw[ca R.tok lit];cases hk':(F3 t == HU (Fz s)) with
 |false=>
  refine b8 (aN (oX (q FM .Jm H t (RS.and ?_ Go))));rw[PL];exact R.as (bL (on hk'))
 |true=>
  have R:RS Z F b H t Kn (dz s fu Kn>>=λx=>g (FB x)):=by
   have:=R.asf (qb hk');simp only[dz,bind_assoc,pure_bind] at this ⊢;exact this
  refine bG (aN #[_,aF G hr (by rfl) T.XI.c Y.up (aa Y.rd (aa (pv 1) ag)),Z.B,Z.L,Z.H0,Z.Ro,F,b,t,Kn,fu,_,Go,hf,λ_ x r b w=>en (FB x) r b w,R,λx v H' t' R=>q (FB x) v H' t' ?_]);obtain⟨S,k,f,l,w⟩:=R;refine#[S,k,λ{i y} e=>?_,F7 (VG (by cases b<;>decide) _) l,w];cases i with
  |zero=>cases e;exact f (i:=0) (x:=(.e x,v)) Go
  |succ i=>exact f (i:=i+1) e
inductive xB (a:bi) (vs:Fx V) (H:Hp) (Q:VK) (E:XK):Prop
 |mk (r q kd fn ds bl:FG) (n:FX) (x:Ha×GS) (t:FD) (d:FX) (_:vs=[.ref r, .int d]) (_:mT a H r q kd fn ds bl n (x::t)) (_:(d=6->nF a.Im E H (if x.1= .bad then 1 else 6) x.2)) (_:(d≠6->Q (.int ((d+1:FX):Int)) H)):xB a vs H Q E
def Bk (bl:Zb) (B:Iz):Prop:= ∀u,has bl.c u=B.contains u
def ajh (T:aV K mg a) (XC:XT K a):T.aay.O P w base 6 (xB a):=by
 have VB:=fH (P:=P) (w:=w) (base:=base) T XC;refine fW T.aay.F ahY [03] [02];obtain⟨r,q,kd,fn,ds,bl,n,x,t,d,rfl,R,hf,hg⟩:=h;obtain⟨dr,er⟩:=R.ins;refine#[_,(ao (b4 (aL bS (pv 1) (aS (by rfl) T.RR) (aG _)) (ah (bf (cB (pv 0) T.Gx T.Ww.c VB [017] aA (aa (aS (by rfl) T.Rt) ag)))) aY)
   (ah (aH (bM dW (pv 1) ak)))),?_]
 refine [013];rw[cj];rw[05]
 .have:=Gj e
  exact#[r,dr,_,Go,er,Go,r,q,kd,fn,ds,bl,n,x,t,6,Go,R,hf (by lia)]
 .have:=Gw e
  exact#[_,_,Go,Go,hg (by lia)]
section
variable {β:Type}{Z:Zf β}{H:Hp}
def sJ (i:FX) {g:FX->FQ β}(Y:RX X Z.a Z.E) (hd:d<=6) (nb:F3 t≠ .bad) (R:RS Z F b H t Kn (HR (6-d)>>=g)) (q:d<6->RS Z F b H t Kn (g (6-(d+1)))->Bd X ss D ((FB (.ref Z.B.r)::FB (.int d)::σ).set i (FB (.int ((d+1:FX):Int)))) H)
  (h:Sl X i y:=by exact#[Go,Hs Go,Go]) (h1:X.N[1]?=FB ("depth":Gf):=by rfl) (v1:o6 X.env.scope "depth":=by exact Hs Go) (hg:Gl X "deeper_braces":=by rfl):
  Bd X (.Assign [.Name y p0] (.Call (.Name "deeper_braces" p1) [.Name "reader" p2, .Name "depth" p3] [] p4) p5::ss) D (FB (.ref Z.B.r)::FB (.int d)::σ) H:=by
 rw[00];obtain⟨⟨x,xp⟩,t',rfl,tok,RB,Ng,_⟩:=S.wh.first;have hW:=R.w;rw[jM] at hW;have nx:x≠ .bad:=nb;refine aO i Y.nd (h:=h) #[_,Y.call2 #[ajh Y.T Y.C,Y.hr.mono [01],Y.T.aay.c,hg] (dR h1 v1) [01] Go,Z.B.r,Z.B.q,Z.B.kd,Z.B.fn,Z.B.ds,Z.B.bl,n,(x,xp),t',d,Go,S.rd,λe=>?_,λe=>?_]
 .rw[FF nx]
  exact fJ (p:=HR (6-d)) (n:=6) (by unfold HR;rw[FI (by lia)]) nb hW H R.k
 .have ed:HR (6-d) ((x,xp)::t')= .ok (6-(d+1),(x,xp)::t'):=by unfold HR;rw[FF (by lia),show 6-d-1=6-(d+1) by lia]
  rw[yE ed] at hW;exact q (by lia) #[R.S,R.k,R.f,R.l,hW]
def ab3 {p:FQ β}{C:GP->Hp->Prop}(Y:RX X Z.a Z.E) (R:RS Z F b H ((.word u,xp)::t) Kn p) (hB:Bk Z.B.bl Bs) (q:C (!Bs.contains u) H) (hp:iB p2 p4:=by rfl):
  Pt X (.Compare (.Attribute (.Call (.Attribute [005] "current" p2) [] [] p4) "value" p5) [.NotIn] [.Attribute (.Name "reader" p6) "blocks" p7] p3) (FB (.ref Z.B.r)::σ) H C:=by
 rw[00];rw[02];refine#[_,fD (ja (dv Y.hr) dA (ai Y.rd Go)),wp Y R (λb=>nomatch b) (λ_=>#[Z.B.r,_,dr,_,_,Go,er,Y.T.Gx,Y.T.Ki,Go,Z.B.bl.p,_,Go,gD.k (k:=nk u) S.S7,_,Go,?_]) hp]
 have:=hB u;unfold has at this;rw[this];exact q
end
def yB {t:FD}(h:(x.1 == .word (Fz "sell"))=FS):Jo (x::t)= .ok (Gc,t):=by
 unfold Jo;rw[FI (show FR (x::t) "sell"=FS from h)]
 rfl
def AE {t:FD}(h0:(x.1 == .word (Fz "sell"))=Gc) (h:(x.1 == .word (Fz "buy"))=FS):Jo (x::t)= .ok (FS,t):=by
 unfold Jo;rw[FF (by rw[show FR (x::t) "sell"=Gc from h0];exact FA),FI (show FR (x::t) "buy"=FS from h)]
 rfl
def xo {t:FD}(h0:(F3 t == .word (Fz "sell"))=Gc) (h:(F3 t == .word (Fz "buy"))=Gc):Jo t=F8 2 t:=by
 unfold Jo;rw[FF (by rw[show FR t "sell"=Gc from h0];exact FA),FF (by rw[show FR t "buy"=Gc from h];exact FA)]
def aji (T:aV K mg a) (XC:XT K a):T.aaz.O P w base 9 (Ej a (λ_ p=>p=Jo) kq):=by
 refine aje T XC (F5 _) T.aaz.F ah1 λHn A outer s0 H β B L H0 Ro F b t Kn p g Q E hr hp=>?_;intro X D Z Y R q;subst hp;obtain⟨⟨x,xp⟩,r,rfl⟩:=R.cons;have v1:mr "sell" (F3 ((x,xp)::r))=(x == .word (Fz "sell")):=ca R.tok yc;have v2:mr "buy" (F3 ((x,xp)::r))=(x == .word (Fz "buy")):=ca R.tok BE;refine bI (DF (jw (du (iO Y R mn.bind λnb=>#[_,Go,?_]))));rw[v1];cases e1:(x == HU (Fz "sell")) with
 |true=>
  obtain rfl:=beq_iff_eq.mp e1;refine bG (bG (aN (iX Y (R.as (p':=G7>>=λ_=>g Gc) (bL (yB e1))) Zk λH R=>?_)));show Q (.str (sb (Fz "sell"))) H;rw[<-yc.1];exact q Gc H r R
 |false=>
  refine b8 (jw (du (je Y R nb #[_,Go,?_])));rw[v2];cases e2:(x == HU (Fz "buy")) with
  |true=>
   obtain rfl:=beq_iff_eq.mp e2;refine bG (aN (iX Y (R.as (p':=G7>>=λ_=>g FS) (bL (AE e1 e2))) Zk λH R=>?_));show Q (.str (sb (Fz "buy"))) H;rw[<-BE.1];exact q FS H r R
  |false=>exact b8 (bB (rF Y (aS (by rfl) T.Pp) R nb ((aW (xo (t:=(x,xp)::r) e1 e2)).trans Go)))
def ajj (T:aV K mg a) (XC:XT K a) (hk:8<=k) (G:o4 P w K mg base a k):
  T.XJ.O P w base (k+1) (gE a [] jd 12 FS FS .am):=by
 refine E3 T XC hk T.XJ.F ah2 Go λHn A outer s0 H β B L H0 Ro F b t Kn fu g Q E hr hf=>?_;intro X D Z en Y R q;have lL:=R.lL;have hm:Kn.values.length+(Z.at t.length).L<=4000:=R.room;have R:RS (Z.at t.length) F Gc H t Kn (HK "amount">>=λ_=>Hg Kn>>=λx=>Gz ":">>=λ_=>Gg fu HV (Kn.with x)>>=λe=>g (x,e)):=by
  have:=R.at;simp only[jd,bind_assoc,pure_bind] at this;exact this
 refine ld (Z:=Z.at t.length) Y pO R λH t1 R=>?_;refine ji (Z:=Z.at t.length) 1 Y R λu H t2 ft R=>?_;refine cJ (Z:=Z.at t.length) Y Zj R λH t3 R=>?_;refine gN (Z:=Z.at t.length) Y (pv 1) [05] ft hm R λH R=>?_;refine eB (Z:=Z.at t.length) (d:=0) 2 Y #[G,hr,T.Tj.c,Go] ak [05] R (λe r b w=>en Go (u,e) r b w) (Gn _) zI (by show 16*t.length+12<=fu+16;lia) λe v H t4 R=>?_;refine k9 (Z:=Z.at t.length) Y (pv 1) [05] ft R λH R=>?_;refine ig (Z:=Z.at t.length) Y (wz T) (aa (pv 1) (aa (pv 2) ag)) [05] R Go λw H i R=>?_;have R:=(RS.back (Z:=Z) lL R).or (c:=b);obtain⟨S,k,f,l,w'⟩:=R;have fe:=f (i:=0) Go;refine q (u,e) w H t4 #[S,k,λ{j y} z=>?_,l,w'];cases j with
 |zero=>cases z;exact#[v,i,fe]
 |succ j=>exact f (i:=j+1) z
def mq {t:FD}(hk:G6.contains u=Gc):JG B ((.word u,xp)::t)=if B.contains u=FS then .ok (u,t) else F8 3 ((.word u,xp)::t):=by
 unfold JG;rw[cW,FF (by rw[hk];exact FA)]
def oh {t:FD}(h:cR x.1=Gc):W5 (x::t)=F8 2 (x::t):=by
 obtain⟨x,xp⟩:=x;cases x with
 |word u=>
  have h:cR (.word u)=Gc:=h;rw[dC] at h;rw[cW,FI (by cases e:G6.contains u;rw[e] at h;cases h;rfl)]
 |_=>rfl
def ajk (T:aV K mg a) (XC:XT K a):T.aaA.O P w base 9 (Ej a (λB p=> ∃Bs,Bk B.bl Bs/\p=JG Bs) λu=> .str (sb u)):=by
 refine aje T XC (F5 _) T.aaA.F ah3 λHn A outer s0 H β B L H0 Ro F b t Kn p g Q E hr hp=>?_;intro X D Z Y R q;obtain⟨Bs,hB,rfl⟩:=hp;obtain⟨⟨x,xp⟩,r,rfl⟩:=R.cons;refine bB (p_e Y R (kW Bs).bind (λ_ e=>(aW (q:=F8 2) ?_).trans Go) λnb e=>?_)
 .unfold JG
  rw[oh e]
  rfl
 obtain⟨u,rfl,hu⟩:=gW e;have ek:=mq (xp:=xp) (t:=r) (B:=Bs) hu;refine bI (ab3 Y R hB (aQ (λh=>?_) λh=>?_))
 .rw[Wb] at h
  rw[h,FF FA] at ek;exact bB (rF Y (aS (by rfl) T.QY) R nb ((aW (q:=F8 3) ek).trans Go))
 .rw[Qh] at h
  rw[h,FI Go] at ek;exact aN (iX Y (R.as (p':=G7>>=λ_=>g u) (bL ek)) Zk λH R=>q u H r R)
def Ba:c7 "let" (Fz "let"):=[007]
def xV:c7 "zone" (Fz "zone"):=[007]
def uM:c7 "quarter" (Fz "quarter"):=[007]
def tm:c7 "price" (Fz "price"):=[007]
def Zp:c7 "to" (Fz "to"):=[007]
def sv:c7 "block" (Fz "block"):=[007]
def uD:c7 "under" (Fz "under"):=[007]
def uA:c7 "group" (Fz "group"):=[007]
abbrev Zb.at_ (bl:Zb) (c:Fx (be×V)):Zb:=#[bl.p,c,bl.x]
abbrev Rb.bk (B:Rb) (c:Fx (be×V)):Rb:= { B with bl:=B.bl.at_ c }
abbrev Cg:=Hw×FH×Iz
inductive mP (a:bi) (av:FX->Fx V) (ok:FX->FD->Prop) (vs:Fx V) (H:Hp) (Q:VK) (E:XK):Prop
 |mk {β:Type}(B:Rb) (L:FX) (H0:Hp) (Ro:β->FD->Prop) (F:Fx (Fk×V)) (b:GP) (t:FD) (Kn:FH) (Bs:Iz) (d f:FX) (g:Cg->FQ β) (_:vs= .ref B.r::av d) (_:d<=6) (_:ok d t) (_:16*t.length+14<=f) (_:Bk B.bl Bs) (_:B.bl.c.length+t.length<=4000) (_:Eg ⟨a,E,B,L,H0,Ro⟩ g) (_:RS ⟨a,E,B,L,H0,Ro⟩ F b H t Kn (LH f (6-d) Kn Bs>>=g))
  (_: ∀s v H' t' c',EO Kn s.1 s.2.1->Bk (B.bl.at_ c') s.2.2->c'.length+t'.length<=4000->RS #[a,E,B.bk c',L,H0,Ro] ((.st s.1,v)::F) FS H' t' s.2.1 (g s)->Q v H'):mP a av ok vs H Q E
section
variable {k:FX}{x Hy:Gf}{st:Stmt}{f:FG}{fd:GQ}{N ps:Fx Gf}{av:FX->Fx V}{ok:FX->FD->Prop}
def yH (T:aV K mg a) (XC:XT K a) (hk:8<=k) (F:o9 K x Hy st f fd) (S:ay N ("reader"::ps) (af st)) (hl: ∀d,(av d).length=ps.length)
  (J3: ∀(Hn:FE) (A:Hm) (outer:Fx Env) (s:FJ) (H:Hp) {β:Type}(B:Rb) (L:FX) (H0:Hp) (Ro:β->FD->Prop) (F:Fx (Fk×V)) (b:GP) (t:FD) (Kn:FH) (Bs:Iz) (d fu:FX) (g:Cg->FQ β) (Q:VK) (E:XK),bZ k (A.deeper [011])->d<=6->ok d t->16*t.length+14<=fu->Bk B.bl Bs->B.bl.c.length+t.length<=4000->
   let X:=fg (gb P w) P w K mg base N Hy (af st) f Hn A outer s H E
   let D:eI:= { nx:=λ_ H'=>Q .Jm H',rt:=Q }
   let Z:Zf β:=#[a,E,B,L,H0,Ro]
   Eg Z g->RX X a E->RS Z F b H t Kn (LH fu (6-d) Kn Bs>>=g)->(∀s v H' t' c',EO Kn s.1 s.2.1->Bk (B.bl.at_ c') s.2.2->c'.length+t'.length<=4000->RS #[a,E,B.bk c',L,H0,Ro] ((.st s.1,v)::F) FS H' t' s.2.1 (g s)->Q v H')->Bd X (bh st) D (L2.start N (.ref B.r::av d)) H):bW P w K mg base (gb P w) (k+1) f fd ("reader"::ps) (mP a av ok):=by
 refine fW F S (λvs H Q E h=>?_) [02]
 .obtain⟨B,L,H0,Ro,F,b,t,Kn,Bs,d,fu,g,rfl,_⟩:=h
  exact GO So (hl d)
 .obtain⟨B,L,H0,Ro,F,b,t,Kn,Bs,d,fu,g,rfl,h1,h2,h3,h4,h5,h6,R,q⟩:=h
  exact J3 Hn A outer s H B L H0 Ro F b t Kn Bs d fu g Q E hr h1 h2 h3 h4 h5 h6 (j6 T XC hk S hr) R q
end
section
variable {β:Type}{Z:Zf β}{H:Hp}
def jo (i:FX) {g:FN->FQ β}(Y:RX X Z.a Z.E) (c:CB X "read_part" ["reader","word"] (gE Z.a [.str v] (dz s) 12 FS FS .e)) (R:RS Z F FS H t Kn (dz s f Kn>>=g)) (hf:16*Z.L+12<=f+16) (en: ∀e,aM (g e)) (q: ∀e v H' t',RS Z ((.e e,v)::F) FS H' t' Kn (g e)->Bd X ss D ((FB (.ref Z.B.r)::σ).set i (FB v)) H')
  (h:Sl X i y:=by exact#[Go,Hs Go,Go]):Bd X (.Assign [.Name y p0] (.Call (.Name "read_part" p1) [.Name "reader" p2, .Constant (.str v) j p3] [] p4) p5::ss) D (FB (.ref Z.B.r)::σ) H:=by
 have l:t.length+1<=Z.L:=R.l;exact aO i Y.nd (wO Y c #[Z.B,Z.L,Z.H0,Z.Ro,F,FS,t,Kn,f,g,Go,by lia,λ_=>Eo en,R,q]) h
def pS (i:FX) {g:FP FN->FQ β}(Y:RX X Z.a Z.E) (c:CB X "read_part_if_there" ["reader","word"] (gE Z.a [.str v] (λf Kn=>HH s (Gg f HV Kn)) 12 FS Gc .o)) (R:RS Z F FS H t Kn (HH s (Gg f HV Kn)>>=g)) (hf:16*Z.L+12<=f+16) (en: ∀e,aM (g e)) (q: ∀e v H' t',RS Z ((.o e,v)::F) FS H' t' Kn (g e)->Bd X ss D ((FB (.ref Z.B.r)::σ).set i (FB v)) H')
  (h:Sl X i y:=by exact#[Go,Hs Go,Go]):Bd X (.Assign [.Name y p0] (.Call (.Name "read_part_if_there" p1) [.Name "reader" p2, .Constant (.str v) j p3] [] p4) p5::ss) D (FB (.ref Z.B.r)::σ) H:=by
 have l:t.length+1<=Z.L:=R.l;exact aO i Y.nd (wO Y c #[Z.B,Z.L,Z.H0,Z.Ro,F,FS,t,Kn,f,g,Go,by lia,λ_=>Eo en,R,q]) h
def nW (i:FX) {g:FN->FQ β}(Y:RX X Z.a Z.E) (c:CB X "read_given" ["reader"] (gE Z.a [] dS 12 Gc FS .e)) (R:RS Z F FS H t Kn (dS f Kn>>=g)) (hf:16*Z.L+12<=f+16) (q: ∀e v H' t',RS Z ((.e e,v)::F) FS H' t' Kn (g e)->Bd X ss D ((FB (.ref Z.B.r)::σ).set i (FB v)) H')
  (h:Sl X i y:=by exact#[Go,Hs Go,Go]):Bd X (.Assign [.Name y p0] (.Call (.Name "read_given" p1) [.Name "reader" p2] [] p4) p5::ss) D (FB (.ref Z.B.r)::σ) H:=by
 have l:t.length+1<=Z.L:=R.l;exact aO i Y.nd (e7 Y c #[Z.B,Z.L,Z.H0,Z.Ro,F,FS,t,Kn,f,g,Go,by lia,(λz=>nomatch z),R,q]) h
def wI (i:FX) {g:GP->FQ β}(Y:RX X Z.a Z.E) (R:RS Z F b H t Kn (Jo>>=g)) (hr:bZ 9 X.A) (q: ∀e H' t',RS Z F FS H' t' Kn (g e)->Bd X ss D ((FB (.ref Z.B.r)::σ).set i (FB (kq e))) H')
  (h:Sl X i y:=by exact#[Go,Hs Go,Go]) (hg:Gl X "read_side":=by rfl):Bd X (.Assign [.Name y p0] (.Call (.Name "read_side" p1) [.Name "reader" p2] [] p4) p5::ss) D (FB (.ref Z.B.r)::σ) H:=
 aO i Y.nd (e7 Y #[aji Y.T Y.C,hr,Y.T.aaz.c,hg] #[Z.B,Z.L,Z.H0,Z.Ro,F,b,t,Kn,_,g,Go,Go,R,q]) h
end
section
variable {K:FH}{β:Type}{g:Cg->FQ β}
def ab4 (h:FR t "let"=FS):(LH (k+1) d K B>>=g) t=(G7>>=λ_=>Hg K>>=λx=>dS k K>>=λe=>g (.bind x e,K.with x,B)) t:=by
 rw[aW (A5 h)];simp only[dS,bind_assoc,pure_bind]
def D3 (h1:FR t "let"=Gc) (h2:FR t "for"=Gc) (h3:FR t "if"=Gc) (h4:FR t "block"=Gc):(LH (k+1) d K B>>=g) t=(Jo>>=λYa=>dz "zone" k K>>=λz=>dz "quarter" k K>>=λq=>dz "price" k K>>=λp=>HH "to" (Gg k HV K)>>=λtop=>dz "amount" k K>>=λa=>Gz ";">>=λ_=>g (.step Ya z q p top a,K,B)) t:=by
 rw[aW (zC h1 h2 h3 h4)];simp only[dz,bind_assoc,pure_bind]
end
def amY (T:aV K mg a) (XC:XT K a) (hk:8<=k) (G:T.Yx.O P w base k (gE a [] dS 12 Gc FS .e)):
  T.d_3.O P w base (k+1) (mP a (λ_=>[]) λ_ t=>FR t "let"=FS):=by
 refine yH T XC hk T.d_3.F amd (λ_=>rfl) λHn A outer s H β B L H0 Ro F b t Kn Bs d fu g Q E hr hd ho hf hB hc=>?_;intro X D Z en Y R q;have lL:=R.lL;have hm:Kn.values.length+(Z.at t.length).L<=4000:=R.room;obtain⟨xp,r,rfl⟩:=e8 R (beq_iff_eq.mp ho);obtain⟨f,rfl⟩: ∃f,fu=f+1:=#[fu-1,by lia];have hF:16*(Z.at (((HU (Fz "let"),xp)::r).length)).L+12<=f+16:=by show 16*((HU (Fz "let"),xp)::r).length+12<=f+16;lia
 refine iU (Z:=Z.at _) Y Ba (R.at.as (ab4 ho)) λH t R=>?_;refine ji (Z:=Z.at _) 1 Y R λu H t ft R=>?_;refine nW (Z:=Z.at _) 2 Y #[G,hr,T.Yx.c,Go] R hF λe v H t R=>?_;refine gN (Z:=Z.at _) Y (pv 1) [05] ft hm R λH R=>?_;refine ig (Z:=Z.at _) Y (abE T) (aa (pv 1) (aa (pv 2) ag)) [05] R Go λw H i R=>?_;have l:t.length+1<=r.length+1:=R.l;have R:=RS.back (Z:=Z) lL R;refine q (.bind u e,Kn.with u,Bs) w H t B.bl.c ⟨rfl,ft⟩ hB (by rw[FW] at hc;lia) ((R.cut 1).and ?_);show a9 a (eV B) H (.bind u e) w;unfold a9;exact#[v,i,R.f (i:=0) Go]
def amZ (T:aV K mg a) (XC:XT K a) (hk:9<=k)
  (G1: ∀ {v:Gf}{s:String},c7 v (Fz s)->T.XI.O P w base k (gE a [.str v] (dz s) 12 FS FS .e))
  (G2:T.d_B.O P w base k (gE a [.str "to"] (λf Kn=>HH "to" (Gg f HV Kn)) 12 FS Gc .o)):
  T.d_4.O P w base (k+1) (mP a (λ_=>[]) λ_ t=>FR t "let"=Gc/\FR t "for"=Gc/\FR t "if"=Gc/\FR t "block"=Gc):=by
 refine yH T XC (by lia) T.d_4.F amg (λ_=>rfl) λHn A outer s H β B L H0 Ro F b t Kn Bs d fu g Q E hr hd ho hf hB hc=>?_;intro X D Z en Y R q;have lL:=R.lL;obtain⟨n1,n2,n3,n4⟩:=ho;obtain⟨f,rfl⟩: ∃f,fu=f+1:=#[fu-1,by lia];have hF:16*(Z.at t.length).L+12<=f+16:=by show 16*t.length+12<=f+16;lia
 have cp: ∀ {v:Gf}{s:String},c7 v (Fz s)->CB X "read_part" ["reader","word"] (gE a [.str v] (dz s) 12 FS FS .e):=λl=>#[G1 l,hr,T.XI.c,Go]
 have ps: ∀ {γ:Type}{s:String}{f:FX}{h:FN->FQ γ},aM (dz s f Kn>>=h):=(eZ _).bind.bind;refine wI (Z:=Z.at t.length) 1 Y (R.at.as (D3 n1 n2 n3 n4)) (hr.mono hk) λbu H t1 R=>?_
 refine jo (Z:=Z.at t.length) 2 Y (cp xV) R hF (λ_=>ps) λe1 v1 H t2 R=>?_;refine jo (Z:=Z.at t.length) 3 Y (cp uM) R hF (λ_=>ps) λe2 v2 H t3 R=>?_;refine jo (Z:=Z.at t.length) 4 Y (cp tm) R hF (λ_=>(gz "to" _).strict λ_=>ps) λe3 v3 H t4 R=>?_;refine pS (Z:=Z.at t.length) 5 Y #[G2,hr,T.d_B.c,Go] R hF (λ_=>ps) λe4 v4 H t5 R=>?_;refine jo (Z:=Z.at t.length) 6 Y (cp pO) R hF (λ_=>(bj ";").bind) λe5 v5 H t6 R=>?_;refine cJ (Z:=Z.at t.length) Y Bm R λH t7 R=>?_;refine ig (Z:=Z.at t.length) Y (Fq T) (aa (pv 1) (aa (pv 2) (aa (pv 3) (aa (pv 4) (aa (pv 5) (aa (pv 6) ag)))))) [05] R Go λw H i R=>?_;have l:t7.length+1<=t.length:=R.l;have R:=RS.back (Z:=Z) lL R;refine q (.step bu e1 e2 e3 e4 e5,Kn,Bs) w H t7 B.bl.c Go hB (by lia) ((R.cut 5).and ?_);show a9 a (eV B) H (.step bu e1 e2 e3 e4 e5) w;unfold a9;exact#[v1,v2,v3,v4,v5,i,R.f (i:=4) Go,R.f (i:=3) Go,R.f (i:=2) Go,R.f (i:=1) Go,R.f (i:=0) Go]
def DK {B:Iz}{t:FD}(SM:G6.contains u=Gc):Kj B ((.word u,xp)::t)=if B.contains u=FS then F8 4 ((.word u,xp)::t) else .ok (FB u,t):=by
 have c: ¬(FR ((.word u,xp)::t) "sell"=FS\/FR ((.word u,xp)::t) "buy"=FS):=λz=>z.elim (λz=>by
  have:HU u= .word (Fz "sell"):=beq_iff_eq.mp z;cases this;exact F6 SM [00]) λz=>by
  have:HU u= .word (Fz "buy"):=beq_iff_eq.mp z;cases this;exact F6 SM [00]
 unfold Kj;rw[FF c];unfold VQ;rw[cW,FF (by rw[SM];exact FA)];dsimp only;by_cases h:B.contains u=FS
 .rw[FI h,FI h]
  rfl
 .rw[FF h,FF h]
def Dd {γ:Type}{B:Iz}{t:FD}(nb:x.1≠ .bad) (en:cR x.1=Gc) {g:FP Fy->GP->FQ γ} :(Kj B>>=λm=>Jo>>=λb=>g m b) (x::t)=(Jo>>=λb=>g FM b) (x::t):=by
 by_cases c:FR (x::t) "sell"=FS\/FR (x::t) "buy"=FS
 .exact bL (by unfold Kj;rw[FI c])
 .have e:Kj B (x::t)= .error (2,IS (x::t)):=by
   unfold Kj VQ;rw[FF c,oh en];unfold F8;rw[FF (show¬F3 (x::t)= .bad from nb)]
  have e2:Jo (x::t)= .error (2,IS (x::t)):=by
   rw[xo (t:=x::t) (by cases h:(F3 (x::t) == HU (Fz "sell"));rfl;exact F6 (.inl h) c) (by cases h:(F3 (x::t) == HU (Fz "buy"));rfl;exact F6 (.inr h) c)];unfold F8;rw[FF (show¬F3 (x::t)= .bad from nb)]
  show Gh _ _ (x::t)=Gh _ _ (x::t)
  unfold Gh;rw[e,e2]
  rfl
def fz.ab5 {a:bi}{H:Hp}{B:Rb}{t:FD}{Kn:FH}(S:fz a B H n t Kn):fz a (B.bk c) (aI H B.bl.p (.dK c)) n t Kn:=by
 rw[02];obtain⟨as,all,h1,h2,h3⟩:=S.rd.toks;obtain⟨kk,k1,k2,k3⟩:=S.kn.vals;obtain⟨ff,f1,f2⟩:=S.kn.funs;have hy:=S.TF;have e:=S.S7;obtain⟨d1,d2,d3,d4,d5,d6⟩:=S.QB;have nr:B.r≠B.bl.p:=λw=>by rw[w,e] at er;cases er
 have nq:B.q≠B.bl.p:=λw=>by rw[w,e] at h1;cases h1
 refine#[#[#[dr,(by show aI H B.bl.p (.dK c) B.r=_;rw[ac nr];exact er)],as,all,(by show aI H B.bl.p (.dK c) B.q=_;rw[ac nq];exact h1),Paired.NV h2 λb x ⟨dx,ex⟩=>#[dx,?_],h3],S.wh,#[#[kk,(by show aI H B.bl.p (.dK c) B.kd=_;rw[ac d3];exact k1),k2,k3],#[ff,(by show aI H B.bl.p (.dK c) B.fn=_;rw[ac d5];exact f1),f2],S.kn.len,#[ff,(by show aI H B.bl.p (.dK c) B.fn=_;rw[ac d5];exact f1),S.kn.fl f1]],(by show aI H B.bl.p (.dK c) B.ds.p=_;rw[ac d6];exact hy),ae,S.QB,λb xs h=>?_]
 .rw[ac λw=>by rw[w,e] at ex;cases ex]
  exact ex
 .have e2:=S.fr b xs h
  rw[ac λw=>by rw[w,e] at e2;cases e2];exact e2
section
variable {β:Type}{Z:Zf β}{H:Hp}{Q:VK}{p:FQ β}
def vO (Y:RX X Z.a Z.E) (R:RS Z F b H t Kn p) (hb:F3 t= .bad->QE Z.a Z.B Z.H0 Z.E 1 (IS t)) (no:F3 t≠ .bad->mr v (F3 t)=Gc->Q (.bl Gc) H)
  (yes: ∀ {x:Ha×GS}{r:FD},t=x::r->mr v x.1=FS->x.1≠ .bad-> ¬jG x/\ ∃p',p (x::r)=(G7>>=λ_=>p') (x::r)/\ ∀H',RS Z F FS H' r Kn p'->Q (.bl FS) H') (hp:iB p2 p4:=by rfl):
  Pe X (.Call (.Attribute [005] "skips" p2) [.Constant (.str v) j p3] [] p4) (FB (.ref Z.B.r)::σ) H Q:=by
 rw[00];obtain⟨x,t',rfl,tok,RB,Ng,_⟩:=S.wh.first;refine Y.m1 Y.T.aar.c (AO Y.T Y.C) [01] Y.up S Go (YN #[Z.B.r,Z.B.q,Z.B.kd,Z.B.fn,Z.B.ds,Z.B.bl,n,x,t',v,Go,S.rd,λb=>hb (RB.trans b) H R.k,no,λnb e H' hp=>?_]) hp Go;obtain⟨nf,p',e',q⟩:=yes Go e nb;exact q H' ((R.as e').past S nf hp (R.as e').w)
def xW (Y:RX X Z.a Z.E) (R:RS Z F b H t Kn p) (hf: ∀n,(rO Z.B.q Z.B.kd Z.B.fn Z.B.ds.p Z.B.bl.p n).lookup fld=FB (.ref gd)) (na:au X.K Z.a.GY fld) (hg:H gd=FB (.dK gg)) (st:aM p) (h2:F3 t≠ .bad->cR (F3 t)=Gc->p t=F8 2 t) (h4: ∀u,F3 t= .word u->G6.contains u=Gc->has gg u=FS->p t=F8 4 t)
  (q: ∀u xp r,t=(.word u,xp)::r->G6.contains u=Gc->has gg u=Gc-> ∃p',p ((.word u,xp)::r)=(G7>>=λ_=>p') ((.word u,xp)::r)/\ ∀H',RS Z F FS H' r Kn p'->Q (.str (sb u)) H') (hp:iB p2 p4:=by rfl):
  Pe X (.Call (.Attribute [005] "take_name_not_in" p2) [.Attribute (.Name "reader" p3) fld p6] [] p4) (FB (.ref Z.B.r)::σ) H Q:=by
 rw[00];rw[02];obtain⟨⟨x,xp⟩,t',rfl,tok,RB,Ng,_⟩:=S.wh.first;refine Y.m1 Y.T.aat.c (js Y.T Y.C) [01] Y.up S Go #[_,ai Y.rd Go,Z.B.r,_,dr,_,_,Go,er,Y.T.Gx,na,hf n,Z.B.r,Z.B.q,Z.B.kd,Z.B.fn,Z.B.ds,Z.B.bl,gd,n,(x,xp),t',gg,Go,S.rd,hg,λb=>st.Me (RB.trans b) R.w H R.k,λnb e=>fJ (h2 nb e) nb R.w H R.k,λu ex e hu=>?_,λu ex e hu H' hp=>?_] hp Go
 .obtain⟨u',e1,e2⟩:=gW e
  obtain rfl:u=u':=by have:=ex.symm.trans e1;cases this;rfl
  exact fJ (h4 u ex e2 hu) (by rw[show F3 ((x,xp)::t')= .word u from ex];intro z;cases z) R.w H R.k
 .obtain⟨u',e1,e2⟩:=gW e
  obtain rfl:u=u':=by have:=ex.symm.trans e1;cases this;rfl
  obtain rfl:x= .word u:=ex;obtain⟨p',e',q⟩:=q u xp t' Go e2 hu;exact q H' ((R.as e').past S Zk hp (R.as e').w)
theorem RS.ab5 {a:bi}{E:XK}{B:Rb}{H0:Hp}{Ro:β->FD->Prop}(R:RS #[a,E,B,L,H0,Ro] F b H t Kn p):RS #[a,E,B.bk c,L,H0,Ro] F b (aI H B.bl.p (.dK c)) t Kn p:=by
 rw[00];have k:dg (eV B) H (aI H B.bl.p (.dK c)):=eY (.inr (.inr (.inr (.inr (.inl Go)))));exact#[#[n,S.ab5],R.k.trans k,λe=>jr.Iv k.two (R.f e),R.l,R.w]
end
section
variable {K:FH}{β:Type}{g:Cg->FQ β}
def Dh (h1:FR t "let"=Gc) (h2:FR t "for"=Gc) (h3:FR t "if"=Gc) (h:FR t "block"=FS):(LH (k+1) d K B>>=g) t=(G7>>=λ_=>Kj B>>=λm=>Jo>>=λYa=>dz "zone" k K>>=λz=>dz "price" k K>>=λp=>jd k K>>=λx=>
  HH "under" (JG B)>>=λu=>HH "group" (Gg k HV K)>>=λgr=>Gz ";">>=λ_=>g (.block m Ya z p x.1 x.2 u gr,K,kR m B)) t:=by
 rw[aW (vi h1 h2 h3 h)];simp only[dz,jd,bind_assoc,pure_bind]
end
def am1 (T:aV K mg a) (XC:XT K a) (hk:9<=k)
  (G1: ∀ {v:Gf}{s:String},c7 v (Fz s)->T.XI.O P w base k (gE a [.str v] (dz s) 12 FS FS .e))
  (G2:T.d_B.O P w base k (gE a [.str "group"] (λf Kn=>HH "group" (Gg f HV Kn)) 12 FS Gc .o))
  (G3:T.XJ.O P w base k (gE a [] jd 12 FS FS .am)):
  T.d_5.O P w base (k+1) (mP a (λ_=>[]) λ_ t=>FR t "let"=Gc/\FR t "for"=Gc/\FR t "if"=Gc/\FR t "block"=FS):=by
 refine yH T XC (by lia) T.d_5.F amh (λ_=>rfl) λHn A outer s H β B L H0 Ro F b t Kn Bs d fu g Q E hr hd ho hf hB hc=>?_;intro X D Z en Y R q;have lL:=R.lL;have hm:Kn.values.length+(Z.at t.length).L<=4000:=R.room;obtain⟨n1,n2,n3,n4⟩:=ho;obtain⟨f,rfl⟩: ∃f,fu=f+1:=#[fu-1,by lia];have hF:16*(Z.at t.length).L+12<=f+16:=by show 16*t.length+12<=f+16;lia
 have cp: ∀ {v:Gf}{s:String},c7 v (Fz s)->CB X "read_part" ["reader","word"] (gE a [.str v] (dz s) 12 FS FS .e):=λl=>#[G1 l,hr,T.XI.c,Go]
 have ps: ∀ {γ:Type}{s:String}{f:FX}{h:FN->FQ γ},aM (dz s f Kn>>=h):=(eZ _).bind.bind;obtain⟨xp,r,e⟩:=e8 R (beq_iff_eq.mp n4)
 have R:=R.at.as (Dh n1 n2 n3 n4);generalize hl:t.length=l at R lL hF hm hc hf;subst e;refine iU (Z:=Z.at l) Y sv R λH t R=>?_
 refine aO 1 Y.nd (oX ?_);refine gi (λσ' H'=> ∃(m:FP Fy) (t:FD),σ'=[FB (.ref B.r),FB (ij m),FM,FM,FM,FM,FM,FM]/\RS (Z.at l) F FS H' t Kn (Jo>>=λYa=>dz "zone" f Kn>>=λz=>dz "price" f Kn>>=λp=>jd f Kn>>=λx=>
  HH "under" (JG Bs)>>=λu=>HH "group" (Gg f HV Kn)>>=λgr=>Gz ";">>=λ_=>g (.block m Ya z p x.1 x.2 u gr,Kn,kR m Bs))) ?_ ?_
 .rintro σ H ⟨m,t,rfl,R⟩
  refine wI (Z:=Z.at l) 2 Y R (hr.mono hk) λbu H t R=>?_;refine jo (Z:=Z.at l) 3 Y (cp xV) R hF (λ_=>ps) λe1 v1 H t R=>?_;refine jo (Z:=Z.at l) 4 Y (cp tm) R hF (λ_=>(eZ _).bind.bind) λe2 v2 H t R=>?_;have l5:t.length+1<=l:=R.l;have en6: ∀x:Fy×FN,aM (HH "under" (JG Bs)>>=λu=>HH "group" (Gg f HV Kn)>>=λgr=>Gz ";">>=λ_=>g (.block m bu e1 e2 x.1 x.2 u gr,Kn,kR m Bs)):=λ_=>(gz "under" _).strict λ_=>(gz "group" _).strict λ_=>(bj ";").bind;refine aO 5 Y.nd (e7 Y #[G3,hr,T.XJ.c,Go] #[B,l,H0,Ro,_,FS,t,Kn,f,_,Go,(by have:16*l+12<=f+16:=hF;lia),λ_=>Eo en6,R,λe3 v3 H t R=>?_]);have R:RS (Z.at l) _ FS H t Kn _:=R;refine aO 6 Y.nd (oX ?_);refine gi (λσ' H'=> ∃(un:FP Fy) (t:FD),σ'=[FB (.ref B.r),FB (ij m),FB (kq bu),FB v1,FB v2,FB v3,FB (ij un),FM]/\RS (Z.at l) ((.am e3,v3)::(.e e2,v2)::(.e e1,v1)::F) FS H' t Kn (HH "group" (Gg f HV Kn)>>=λgr=>Gz ";">>=λ_=>g (.block m bu e1 e2 e3.1 e3.2 un gr,Kn,kR m Bs))) ?_ ?_
  .rintro σ H ⟨un,t,rfl,R⟩
   refine pS (Z:=Z.at l) 7 Y #[G2,hr,T.d_B.c,Go] R hF (λ_=>(bj ";").bind) λe4 v4 H t R=>?_;refine cJ (Z:=Z.at l) Y Bm R λH t R=>?_;have l9:t.length+1<=l:=R.l;have R:=RS.back (Z:=Z) lL R;refine gi (λσ' H'=> ∃c',σ'=[FB (.ref B.r),FB (ij m),FB (kq bu),FB v1,FB v2,FB v3,FB (ij un),FB v4]/\Bk (B.bl.at_ c') (kR m Bs)/\c'.length+t.length<=4000/\RS #[a,E,B.bk c',L,H0,Ro] ((.o e4,v4)::(.am e3,v3)::(.e e2,v2)::(.e e1,v1)::F) FS H' t Kn (g (.block m bu e1 e2 e3.1 e3.2 un e4,Kn,kR m Bs))) ?_ ?_
   .rintro σ H ⟨c',rfl,hB',Xb,R⟩
    refine ig (Z:=#[a,E,B.bk c',L,H0,Ro]) Y (DG T) (aa (pv 1) (aa (pv 2) (aa (pv 3) (aa (pv 4) (aa (pv 5) (aa (pv 6) (aa (pv 7) ag))))))) [05] R Go λw H i R=>?_;refine q (.block m bu e1 e2 e3.1 e3.2 un e4,Kn,kR m Bs) w H t c' Go hB' Xb ((R.cut 4).and ?_);show a9 a (eV B) H (.block m bu e1 e2 e3.1 e3.2 un e4) w;unfold a9;exact#[v1,v2,v3,v4,i,R.f (i:=3) Go,R.f (i:=2) Go,R.f (i:=1) Go,R.f (i:=0) Go]
   .refine#[_,fD (Fh (pv 1)),_,Go,?_]
    cases m with
    |none=>exact bG #[B.bl.c,Go,hB,by lia,R]
    |some u=>
     rw[00];rw[02];refine b8 (aT (ie (dv hr) [09] (pv 1) uI Go) #[B.r,_,dr,_,_,Go,er,T.Gx,T.Ki,Go,B.bl.p,_,Go, .inl #[B.bl.c,nk u,S.S7,Go,GF (show B.bl.c.length<=4000 by lia) [01],Go],cg #[dB B.bl.c (nk u) (.bl FS),Go,λv=>?_,?_,R.ab5]])
     .show has (dB B.bl.c (nk u) (.bl FS)) v=(u::Bs).contains v
      rw[rH,GZ,hB v]
      congr 1
      rw[HB,GB,beq_iff_eq]
     .have:=cG B.bl.c (nk u) (.bl FS)
      lia
  .refine du (vO (Z:=Z.at l) Y R (λb=>(en6 e3).Me b R.w) (λnb e=>#[_,Go,bG #[FM,t,Go,R.as (bL (on ((ca R.tok uD).symm.trans e)))]]) λ{x r} et e nb=>?_)
   subst et;have e:=(ca R.tok uD).symm.trans e;obtain⟨x,xp⟩:=x;obtain rfl:x=_:=beq_iff_eq.mp e;refine#[Zk,JG Bs>>=λu=>HH "group" (Gg f HV Kn)>>=λgr=>Gz ";">>=λ_=>g (.block m bu e1 e2 e3.1 e3.2 (FB u) gr,Kn,kR m Bs),?_,λH R=>#[_,Go,b8 (aO 6 Y.nd (e7 Y #[ajk T XC,hr.mono hk,T.aaA.c,Go] #[B,l,H0,Ro,_,FS,r,Kn,_,_,Go,#[Bs,hB,Go],R,λu H t R=>cg #[FB u,t,Go,R]]))]];rw[aW (qb e),bind_assoc];simp only[bind_assoc,pure_bind];exact bL (by unfold HK;rw[FI (show FR ((.word (Fz "under"),xp)::r) "under"=FS from e)])
 .obtain⟨⟨x,xp⟩,r,rfl⟩:=R.cons
  refine du (Zg (Z:=Z.at l) Y T.d_1.c (om T XC) [01] (λ_=>rfl) R (gO Bs).bind λnb=>#[_,Go,aQ [015] λe=>?_])
  .obtain⟨u,rfl,hu⟩:=gW e
   have em:=DK (B:=Bs) (xp:=xp) (t:=r) hu;rw[00];refine aO 1 Y.nd (xW (Z:=Z.at l) Y R (λ_=>rfl) T.Ki S.S7 (gO Bs).bind (λ_ z=>F6 e (by rw[z];exact FA)) (λu' e1 _ hu'=>?_) λu' xp' r' e1 _ hu'=>?_)
   .cases e1
    rw[FI ((hB u).symm.trans hu')] at em;exact(aW (q:=F8 4) em).trans Go
   .cases e1
    have hx:Bs.contains u=Gc:=(hB u).symm.trans hu';rw[hx,FF FA] at em;exact#[_,(bL em).trans Go,λH R=>cg #[FB u,r,Go,R]]
  .exact#[FM,_,Go,R.as (Dd nb e)]
structure qh (K:FC) (a:bi):Prop where
 t1:zP K a.Ml
 t2:zP K a.NL
 t3:zP K a.Q6
 t4:zP K a.Lw
 t5:zP K a.J2
 k1:HM K (.ref a.Ml) (.ref a.Ml)=FB FS
 k2:HM K (.ref a.NL) (.ref a.Ml)=FB Gc
 k3:HM K (.ref a.Q6) (.ref a.Ml)=FB Gc
 k4:HM K (.ref a.Lw) (.ref a.Ml)=FB Gc
 k5:HM K (.ref a.J2) (.ref a.Ml)=FB Gc
theorem qh.of {K:FC}{a:bi}{M:FG->Prop}{H:Hp}(I:qh K a) (h:a9 a M H s v): ∃C,iS K H v (.ref C)/\HM K (.ref C) (.ref a.Ml)=FB (mh s).isSome:=by
 cases s with
 |bind x e=>
  unfold a9 at h;obtain⟨u,⟨p,dx,rfl,m,z⟩,_⟩:=h;exact#[_,I.t1.of z,I.k1]
 |loop x lo hi l=>
  unfold a9 at h;obtain⟨u1,u2,q,us,⟨p,dx,rfl,m,z⟩,_⟩:=h;exact#[_,I.t2.of z,I.k2]
 |cond c x y=>
  unfold a9 at h;obtain⟨u,q,us,g,ws,⟨p,dx,rfl,m,z⟩,_⟩:=h;exact#[_,I.t3.of z,I.k3]
 |step b z qu p top am=>
  unfold a9 at h;obtain⟨u1,u2,u3,u4,u5,⟨p,dx,rfl,m,z⟩,_⟩:=h;exact#[_,I.t4.of z,I.k4]
 |block nm b z p x am un g=>
  unfold a9 at h;obtain⟨u1,u2,u3,u4,⟨p,dx,rfl,m,z⟩,_⟩:=h;exact#[_,I.t5.of z,I.k5]
def fz.Yb {a:bi}{H:Hp}{t:FD}{K1 K2:FH}(S:fz a B H n t K1) (hc:K1.values.contains u=FS) (hf:K2.funs=K1.funs) (hl:K2.values.length+1=K1.values.length)
  (hv: ∀v,K2.values.contains v=(!decide (v=u)&&K1.values.contains v)) {kk:Fx (be×V)}(e:H B.kd=FB (.dK kk)):has kk u=FS/\fz a B (aI H B.kd (.dK (fE kk (nk u)))) n t K2:=by
 rw[02];obtain⟨as,all,h1,h2,h3⟩:=S.rd.toks;obtain⟨kk',k1,k2,k3⟩:=S.kn.vals;obtain⟨ff,f1,f2⟩:=S.kn.funs;have hy:=S.TF;have hz:=S.S7;obtain rfl:kk'=kk:=by rw[e] at k1;cases k1;rfl
 obtain⟨d1,d2,d3,d4,d5,d6⟩:=S.QB;have nr:B.r≠B.kd:=λw=>by rw[w,e] at er;cases er
 have nq:B.q≠B.kd:=λw=>by rw[w,e] at h1;cases h1
 have hu:has kk' u=FS:=by rw[k3];exact hc
 have len:=S.kn.len;refine#[hu,#[#[dr,by rw[ac nr];exact er],as,all,by rw[ac nq];exact h1,Paired.NV h2 λb x ⟨dx,ex⟩=>#[dx,?_],h3],S.wh,#[#[_,ae,?_,λv=>?_],#[ff,by rw[ac d1.symm];exact f1,by rw[hf];exact f2],by lia,#[ff,by rw[ac d1.symm];exact f1,(by rw[hf];exact S.kn.fl f1)]],(by rw[ac d2.symm];exact hy),(by rw[ac d3.symm];exact hz),S.QB,λb xs h=>?_]
 .rw[ac λw=>by rw[w,e] at ex;cases ex]
  exact ex
 .have:(fE kk' (nk u)).length<kk'.length:=by
   unfold fE;refine V4 (HW _ _) λw=>?_;rw[QD] at w;unfold has bQ at hu;rw[IG,NJ] at hu;obtain⟨p,hp,e1⟩:=hu;have:=w p hp;simp only[Ot] at this e1;exact this e1
  lia
 .rw[si,k3,hv]
 .have e2:=S.fr b xs h
  rw[ac λw=>by rw[w,e] at e2;cases e2];exact e2
def yW (Kn:FH) (ss:Fx Hw):FH:=#[(jK ss).reverse++Kn.values,Kn.funs]
def uy {x:Fy}{rest V:Fx Fy}(h1:x∉rest) (h2:x∉V) (v:Fy):(rest.reverse++V).contains v=(!decide (v=x)&&((x::rest).reverse++V).contains v):=by
 by_cases e:v=x
 .subst e
  rw[GL Go];show _=Gc;rw[Wc];intro z;rcases Gr.mp (GN.mp z) with z|z
  .exact h1 (Kp.mp z)
  .exact h2 z
 .rw[Gp e]
  show _=((x::rest).reverse++V).contains v
  rw[HB,GN,GN,Gr,Gr,Kp,Kp,FU];constructor
  .rintro(z|z)
   .exact .inl (.inr z)
   .exact .inr z
  .rintro((z|z)|z)
   .exact F6 z e
   .exact .inl z
   .exact .inr z
inductive kP (a:bi) (m:FX) (vs:Fx V) (H:Hp) (Q:VK) (E:XK):Prop
 |mk {β:Type}(B:Rb) (L:FX) (H0:Hp) (Ro:β->FD->Prop) (F:Fx (Fk×V)) (b:GP) (t:FD) (Kn:FH) (Bs:Iz) (d f:FX) (g:Jy×Iz->FQ β) (_:vs=[.ref B.r, .int d]) (_:d<=6) (_:7<=d+m) (_:16*t.length<=f) (_:Bk B.bl Bs) (_:B.bl.c.length+t.length<=4000) (_:RS ⟨a,E,B,L,H0,Ro⟩ F b H t Kn (Gz "{">>=λ_=>Kx f (6-d) Kn Bs>>=g))
  (_: ∀l v H' t' c',Bk (B.bl.at_ c') l.2->c'.length+t'.length<=4000->RS #[a,E,B.bk c',L,H0,Ro] ((.sts l.1,v)::F) FS H' t' Kn (g l)->Q v H'):kP a m vs H Q E
abbrev qH (a:bi) (m:FX) (ok:FD->Prop):Sp:=mP a (λd=>[.int d]) λd t=>7<=d+m/\ok t
section
variable {k m:FX}{x Hy:Gf}{st:Stmt}{f:FG}{fd:GQ}{N:Fx Gf}
def am2 (T:aV K mg a) (XC:XT K a) (hk:8<=k) (F:o9 K x Hy st f fd) (S:ay N ["reader","depth"] (af st))
  (J3: ∀(Hn:FE) (A:Hm) (outer:Fx Env) (s:FJ) (H:Hp) {β:Type}(B:Rb) (L:FX) (H0:Hp) (Ro:β->FD->Prop) (F:Fx (Fk×V)) (b:GP) (t:FD) (Kn:FH) (Bs:Iz) (d fu:FX) (g:Jy×Iz->FQ β) (Q:VK) (E:XK),bZ k (A.deeper [011])->d<=6->7<=d+m->16*t.length<=fu->Bk B.bl Bs->B.bl.c.length+t.length<=4000->
   let X:=fg (gb P w) P w K mg base N Hy (af st) f Hn A outer s H E
   let D:eI:= { nx:=λ_ H'=>Q .Jm H',rt:=Q }
   let Z:Zf β:=#[a,E,B,L,H0,Ro]
   RX X a E->RS Z F b H t Kn (Gz "{">>=λ_=>Kx fu (6-d) Kn Bs>>=g)->(∀l v H' t' c',Bk (B.bl.at_ c') l.2->c'.length+t'.length<=4000->RS #[a,E,B.bk c',L,H0,Ro] ((.sts l.1,v)::F) FS H' t' Kn (g l)->Q v H')->Bd X (bh st) D (L2.start N [.ref B.r, .int d]) H):bW P w K mg base (gb P w) (k+1) f fd ["reader","depth"] (kP a m):=by
 refine fW F S [03] [02];obtain⟨B,L,H0,Ro,F,b,t,Kn,Bs,d,fu,g,rfl,h1,h2,h3,h4,h5,R,q⟩:=h;exact J3 Hn A outer s H B L H0 Ro F b t Kn Bs d fu g Q E hr h1 h2 h3 h4 h5 (j6 T XC hk S hr) R q
end
abbrev fkS (ps:Fx (Hw×V)) (F:Fx (Fk×V)):Fx (Fk×V):=(ps.map λx=>(Fk.st x.1,x.2))++F
theorem tS {a:bi}{M:FG->Prop}{H:Hp}{F:Fx (Fk×V)}{l:Jy}{ws:Fx V}(hl:bD a M H l ws): ∀ {ps:Fx (Hw×V)},(∀ {i:FX}{x:Fk×V},(fkS ps F)[i]?=FB x->jr a M H x)->bD a M H (Cb (ps.map (·.1)).reverse l) ((ps.map (·.2)).reverse++ws)
 |[],_=>hl
 | (e,v)::ps,h=>by
  rw[Ge,Ge,Hh,Hh,sC,G9];refine tS (l:= .cons e l) ?_ λ{i x} q=>h (i:=i+1) q;unfold bD;exact#[v,ws,Go,h (i:=0) Go,hl]
def ab6 {F:Fx (Fk×V)}{ps:Fx (Hw×V)}{i:FX}{y:V}(h:((ps.map λx:Hw×V=>x.2).reverse)[i]?=FB y): ∃(s:Hw) (j:FX),((ps.map λx:Hw×V=>x.1).reverse)[i]?=FB s/\(fkS ps F)[j]?=FB (Fk.st s,y):=by
 have hi:i<ps.length:=by
  obtain⟨h,_⟩:=GG.mp h;rw[Hc,FT] at h;exact h
 rw[Ue (by rw[FT];exact hi),FT,GR] at h;obtain⟨⟨s,v⟩,e,rfl⟩:=GH.mp h;refine#[s,ps.length-1-i,?_,?_]
 .rw[Ue (by rw[FT];exact hi),FT,GR,e]
  rfl
 .rw[Se (by rw[FT];lia),GR,e]
  rfl
theorem ia.drop {Kn K1:FH}{ss:Fx Hw}{x:Fy}(lo:ia Kn ss K1) (h:ss[i]?=FB (.bind x e)):(yW Kn (ss.drop i)).values.contains x=FS/\(yW Kn (ss.drop (i+1))).values.length+1=(yW Kn (ss.drop i)).values.length/\ ∀v,(yW Kn (ss.drop (i+1))).values.contains v=(!decide (v=x)&&(yW Kn (ss.drop i)).values.contains v):=by
 have ed:ss.drop i= .bind x e::ss.drop (i+1):=by
  obtain⟨h,e⟩:=GG.mp h;rw[<-e];exact HL h
 have el:jK (Hw.bind x e::ss.drop (i+1))=x::jK (ss.drop (i+1)):=rfl
 have sub:(x::jK (ss.drop (i+1))).Sublist (jK ss):=by
  rw[<-el,<-ed];exact(Wd i ss).filterMap mh
 have nin:=(GJ.mp (sub.nodup lo.nodup)).1
 have nV:=lo.free x (sub.subset (FL ..));unfold yW;rw[ed,el];refine#[GN.mpr (Gr.mpr (.inl (Kp.mpr (FL ..)))),?_,uy nin nV];simp only[Gb,Hc,FW];lia
def Cs {Kn:FH}{ss:Fx Hw}(h:ss[i]?=FB s) (hl:mh s=FM):yW Kn (ss.drop i)=yW Kn (ss.drop (i+1)):=by
 have ed:ss.drop i=s::ss.drop (i+1):=by
  obtain⟨h,e⟩:=GG.mp h;rw[<-e];exact HL h
 rw[ed];unfold yW jK;rw[Li,hl]
def BP {x:Fy}(hl:mh s=FB x): ∃e1,s= .bind x e1:=by
 cases s with
 |bind y e1=>cases hl;exact#[e1,Go]
 |loop _ _ _ _=>cases hl
 |cond _ _ _=>cases hl
 |step _ _ _ _ _ _=>cases hl
 |block _ _ _ _ _ _ _ _=>cases hl
inductive BrI {β:Type}(Z:Zf β) (Ls:FG) (F:Fx (Fk×V)) (Kn:FH) (d l:FX) (g:Jy×Iz->FQ β) (σ0:L2.St) (m:FX) (σ:L2.St) (H:Hp):Prop
 |mk (ps:Fx (Hw×V)) (K1:FH) (B1:Iz) (c:Fx (be×V)) (t:FD) (f:FX) (_:m=t.length) (_:σ=σ0) (_:ps.length+t.length<l) (_:Bk (Z.B.bl.at_ c) B1) (_:c.length+t.length<=4000) (_:16*t.length+15<=f) (_:ia Kn (ps.map (·.1)).reverse K1)
  (_:RS (Zf.mo { Z with B:=Z.B.bk c } Ls (ps.map (·.2)).reverse) (fkS ps F) FS H t K1 (Kx f d K1 B1>>=λx=>g (Cb (ps.map (·.1)).reverse x.1,x.2))):BrI Z Ls F Kn d l g σ0 m σ H
section
variable {β:Type}{Z:Zf β}{H:Hp}{p:FQ β}
def oQ {e f:HX}{te:TE}(hL:H L=FB (.lst us)) (he:PE X e te) (hv: ∀R:VK,R (.ref L) H->te σ H R) (q:Pe X f σ H λv H1=> ∃(Z:Zf β) (F':Fx (Fk×V)) (b':GP) (t':FD) (X9:FH) (p':FQ β),wB Z L/\us.length<GD/\RS (Z.mo L us) F' b' H1 t' X9 p'/\(∀H2,RS (Z.mo L (us++[v])) F' b' H2 t' X9 p'->Bd X ss D σ H2))
  (hb:Ja e "append" X.env (eval e X.env)=eval e X.env:=by rfl) (KN:F9 [f] X.env=[(Gc,eval f X.env)]:=by rfl) (hp:iB p2 p4:=by rfl):
  Bd X (.Expr (.Call (.Attribute e "append" p2) [f] [] p4) p5::ss) D σ H:=by
 refine iH he hv hL (q.mono λv H1 z=>?_) hb KN hp;obtain⟨Z,F',b',t',X9,p',N,h1,R',h2⟩:=z;exact#[us,R'.Rc,h1,h2 _ (R'.push N)]
def nv {te:TE}(Y:RX X Z.a Z.E) (he:PE X e te) (hv: ∀Q:VK,Q (.str (sb u)) H->te (FB (.ref Z.B.r)::σ) H Q) (R:RS Z F b H t K1 p) (hc:K1.values.contains u=FS) (hf:K2.funs=K1.funs) (hl:K2.values.length+1=K1.values.length) (hk: ∀v,K2.values.contains v=(!decide (v=u)&&K1.values.contains v))
  (q: ∀H',RS Z F b H' t K2 p->Bd X ss D (FB (.ref Z.B.r)::σ) H') (hp:iB p2 p4:=by rfl) (KN:F9 [e] X.env=[[001]]:=by rfl):
  Bd X (.Expr (.Call (.Attribute [005] "forget" p2) [e] [] p4) p5::ss) D (FB (.ref Z.B.r)::σ) H:=by
 rw[00];rw[02];obtain⟨kk,k1,k2,k3⟩:=S.kn.vals;obtain⟨hu,S'⟩:=S.Yb hc hf hl hk k1;refine bB (Y.m1 Y.T.Xu.c (qc Y.T) [01] aR S Go #[_,he,hv _ #[Z.B.r,dr,Z.B.q,Z.B.kd,Z.B.fn,Z.B.ds,Z.B.bl,n,u,kk,Go,er,k1,hu,?_]] hp KN);exact q _ (R.go S' (eY (.inr (.inl Go))) R.l R.w)
end
def am3 (T:aV K mg a) (XC:XT K a) (IL:qh K a) (hk:8<=k)
  (G:T.XF.O P w base k (qH a m λ_=>True)):
  T.Xa.O P w base (k+1) (kP a m):=by
 refine am2 T XC hk T.Xa.F ahW λHn A outer s H β B L H0 Ro F b t Kn Bs d fu g Q E hr hd hm hf hB hc=>?_;intro X D Z Y R q;have lL:=R.lL;have room:=R.room;refine cJ (Z:=Z.at t.length) Y ajd R.at λH t1 R=>?_;have l1:t1.length+1<=t.length:=R.l;have R:=RS.back (Z:=Z) lL R;refine my 2 Y R λLs H N R=>?_;refine fZ Y.lv (BrI Z Ls F Kn (6-d) t.length g [FB (.ref B.r),FB (.int d),FB (.ref Ls),FM]) _ #[[],Kn,Bs,B.bl.c,t1,fu,Go,Go,by show 0+t1.length<_;lia,hB,by lia,by lia,ia.nil,R] ?_;rintro mm σ H ⟨ps,K1,B1,c,t2,f,rfl,rfl,ul,hB1,hc1,hf1,lo,R⟩;rw[03];have N': ∀ {c:Fx (be×V)},wB { Z with B:=Z.B.bk c } Ls:=#[N.n0,N.nm,N.nx,N.nq];have len:((ps.map (·.2)).reverse:Fx V).length=ps.length:=by rw[Hc,FT]
 refine jw (du (iO (Z:=Zf.mo { Z with B:=Z.B.bk c } Ls (ps.map (·.2)).reverse) Y R (jY _ _ _ _).bind λnb=>#[_,Go,?_]));rw[cT R.tok Zo];cases hs:(F3 t2 == JB (Fz "}")) with
 |false=>
  have R1:RS (Zf.mo { Z with B:=Z.B.bk c } Ls (ps.map (·.2)).reverse) (fkS ps F) FS H t2 K1 (LH f (6-d) K1 B1>>=λs=>Kx f (6-d) s.2.1 s.2.2>>=λx=>g (Cb (ps.map (·.1)).reverse (.cons s.1 x.1),x.2)):=by
   have:=R.asf (CK hs);simp only[bind_assoc,pure_bind] at this;exact this
  refine b8 (oQ (β:=β) R.Rc (pv 2) [05] #[_,Y.call2 #[G,hr,T.XF.c,Go] (pv 1) [01] Go,(B.bk c).more Ls (ps.map (·.2)).reverse,t2.length,H0,Ro,fkS ps F,Gc,t2,K1,B1,d,f,_,Go,hd,#[hm,HD],by lia,hB1,hc1,Eo λs=>(jY f (6-d) s.2.1 s.2.2).bind,R1.at,λs v H' t' c' kn hB' Xb R2=>?_]);have l2:t'.length+1<=t2.length:=R2.l;have R2:=RS.back (Z:=Zf.mo { Z with B:=Z.B.bk c' } Ls (ps.map λx:Hw×V=>x.2).reverse) (l:=t2.length) (by show t2.length<=L;have:t.length<=L:=lL;lia) R2;refine#[{ Z with B:=Z.B.bk c' },_,_,_,_,_,N',by rw[len];exact GF (show ps.length<=4000 by lia) [01],R2,λH3 R3=>?_];refine gh #[_,l2,(s.1,v)::ps,s.2.1,s.2.2,c',t',f,Go,Go,(by rw[FW];lia),hB',Xb,(by lia),?_,?_]
  .rw[Ge,Hh]
   exact lo.snoc kn
  .rw[Ge,Ge,Hh,Hh]
   simp only[sC];exact R3
 |true=>
  obtain⟨xp,r,rfl⟩:=xi R (beq_iff_eq.mp hs);refine bG (CZ (Z:=Zf.at (Zf.mo { Z with B:=Z.B.bk c } Ls (ps.map (·.2)).reverse) ((JB (Fz "}"),xp)::r).length) Y Zo (R.at.as (p':=G7>>=λ_=>g (Cb (ps.map (·.1)).reverse .nil,B1)) (bL (zU hs))) λH t5 R=>?_);have l5:t5.length+1<=((JB (Fz "}"),xp)::r).length:=R.l;have R:=RS.back (Z:=Zf.mo { Z with B:=Z.B.bk c } Ls (ps.map λx:Hw×V=>x.2).reverse) (by show((JB (Fz "}"),xp)::r).length<=L;have:t.length<=L:=lL;lia) R;have eK:K1=yW Kn (ps.map (·.1)).reverse:=by
   obtain⟨v1,f1⟩:=K1;unfold yW;rw[<-lo.vals,<-lo.funs]
  rw[eK] at R;generalize hss:(ps.map (·.1)).reverse=ss at R lo;generalize hus:(ps.map (·.2)).reverse=us at R len;refine ki 3 Y.lv Y.nd (pv 2) [05] (λi σ H=> ∃v:FP V,σ=[FB (.ref B.r),FB (.int d),FB (.ref Ls),v]/\RS (Zf.mo { Z with B:=Z.B.bk c } Ls us) (fkS ps F) FS H t5 (yW Kn (ss.drop i)) (g (Cb ss .nil,B1))) #[FM,Go,R] (λ_ _ _ _ ⟨_,_,R⟩=>R.Rc) ?_ ?_
  .rintro i y σ H hi ⟨v,rfl,R⟩
   rw[<-hus] at hi;obtain⟨s,j,hs,hj⟩:=ab6 (F:=F) hi;rw[hss] at hs;have sa:a9 a (eV (Zf.mo { Z with B:=Z.B.bk c } Ls us).B) H s y:=R.f hj;obtain⟨C,ty,kit⟩:=IL.of sa;refine bI #[_,de (br li (by rfl) T.LP S9 (aa (pv 3) (aa (ip (by rfl) T.Ur) ag))),_,_,_,_,Go,ty,kit,_,Go,?_];cases hl:mh s with
   |none=>
    rw[Cs hs hl] at R;exact bG (cg #[_,Go,R])
   |some x=>
    obtain⟨e1,rfl⟩:=BP hl;obtain⟨h1,h2,h3⟩:=lo.drop hs;unfold a9 at sa;obtain⟨ue,⟨p,dx,rfl,mp,zp⟩,_⟩:=sa;exact b8 (nv (Z:=Zf.mo { Z with B:=Z.B.bk c } Ls us) Y (ai (pv 3) Go) (λQ q=>#[p,_,dx,_,_,Go,zp,T.Ss,T.OD,Go,q]) (K2:=yW Kn (ss.drop (i+1))) R h1 Go h2 h3 λH R=>cg (cg #[_,Go,R]))
  .rintro σ H ⟨v,rfl,R⟩
   have eL:us.length=ss.length:=by rw[len,<-hss,Hc,FT]
   rw[eL,Q9] at R;have R1:=R.less N';refine aN #[_,pv 2,q (Cb ss .nil,B1) (.ref Ls) H t5 c hB1 (by lia) ?_];have R2:RS { Z with B:=Z.B.bk c } F FS H t5 Kn (g (Cb ss .nil,B1)):=by
    have:=R1.cut ps.length;rw[show(fkS ps F).drop ps.length=F from Fx.drop_left' (by rw[FT])] at this;exact this
   refine R2.and #[us,#[Ls,Go,N.nm,R.Rc],?_];rw[<-hss,<-hus,<-Hj (Fx.reverse (ps.map (·.2)))];exact tS (F:=F) (by unfold bD;rfl) λe=>R1.f e
def BC:c7 "for" (Fz "for"):=[007]
section
variable {K:FH}{β:Type}{g:Cg->FQ β}{a:Jy×Iz}
def ab7 (h1:FR t "let"=Gc) (h:FR t "for"=FS):(LH (k+1) d K B>>=g) t=(HR d>>=λn=>G7>>=λ_=>Hg K>>=λx=>HK "in">>=λ_=>Gg k HV K>>=λlo=>Gz "..">>=λ_=>Gg k HV K>>=λhi=>
  Gz "{">>=λ_=>Kx k n (K.with x) B>>=λl=>g (.loop x lo hi l.1,K,l.2)) t:=by
 rw[aW (DE h1 h)];simp only[bind_assoc,pure_bind]
def ajl (h1:FR t "let"=Gc) (h2:FR t "for"=Gc) (h:FR t "if"=FS):(LH (k+1) d K B>>=g) t=(HR d>>=λn=>G7>>=λ_=>Gg k HV K>>=λc=>Gz "{">>=λ_=>Kx k n K B>>=λa=>lf k n K c a>>=g) t:=by
 rw[aW (EY h1 h2 h)];simp only[bind_assoc]
def wX (h:FR t "else"=Gc):(lf k n K c a>>=g) t=g (.cond c a.1 .nil,K,a.2) t:=by
 unfold lf;rw[bind_assoc];exact(bL (x:=Gc) (r:=t) (by unfold Yk;rw[FF (by rw[h];exact FA)])).trans Go
def A6 (h:FR (x::r) "else"=FS):(lf k n K c a>>=g) (x::r)=(G7>>=λ_=>Gz "{">>=λ_=>Kx k n K a.2>>=λb=>g (.cond c a.1 b.1,K,b.2)) (x::r):=by
 unfold lf;rw[bind_assoc];refine(bL (x:=FS) (r:=r) (by unfold Yk;rw[FI h];rfl)).trans ?_;rw[FI Go];simp only[bind_assoc,pure_bind]
 rfl
end
def ajm (T:aV K mg a) (XC:XT K a) (hk:8<=k) (G:o4 P w K mg base a k)
  (G2:T.Xa.O P w base k (kP a m)):
  T.XG.O P w base (k+1) (qH a (m+1) λt=>FR t "let"=Gc/\FR t "for"=FS):=by
 refine yH T XC hk T.XG.F ahZ (λ_=>rfl) λHn A outer s H β B L H0 Ro F b t Kn Bs d fu g Q E hr hd ho hf hB hc=>?_;intro X D Z en Y R q;have lL:=R.lL;have hm:Kn.values.length+(Z.at t.length).L<=4000:=R.room;obtain⟨dm,n1,n2⟩:=ho;obtain⟨xp,r,e⟩:=e8 R (beq_iff_eq.mp n2);obtain⟨f,rfl⟩: ∃f,fu=f+1:=#[fu-1,by lia];have c:CB X "read_exp" ["reader","depth"] (a0 a FS Gg 12 (Lv 13)):=#[G,hr,T.Tj.c,Go];have hF:16*(Z.at t.length).L+12<=f+16:=by show 16*t.length+12<=f+16;lia
 have R:=R.at.as (ab7 n1 n2);generalize hl:t.length=l at R lL hF hm hc hf
 have nb:F3 t≠ .bad:=by rw[e];intro z;cases z
 subst e;refine sJ (Z:=Z.at l) 2 Y hd nb R λlt R=>?_;refine iU (Z:=Z.at l) Y BC R λH t R=>?_;refine ji (Z:=Z.at l) 3 Y R λu H t ft R=>?_;refine ld (Z:=Z.at l) Y Zh R λH t R=>?_;refine eB (Z:=Z.at l) (d:=0) 4 Y c ak [05] R (n9 λ_=>(bj "..").bind) (Gn _) zI hF λe1 v1 H t R=>?_;refine cJ (Z:=Z.at l) Y Zi R λH t R=>?_;refine eB (Z:=Z.at l) (d:=0) 5 Y c ak [05] R (n9 λ_=>(bj "{").bind) (Gn _) zI hF λe2 v2 H t R=>?_;refine gN (Z:=Z.at l) Y (pv 3) [05] ft hm R λH R=>?_;have l7:t.length+1<=l:=R.l;refine aO 6 Y.nd #[_,Y.call2 #[G2,hr,T.Xa.c,Go] (pv 2) [01] Go,B,l,H0,Ro,_,_,t,Kn.with u,Bs,d+1,f,_,Go,lt,by lia,by lia,hB,by lia,R,λx v3 H t c' hB' Xb R=>?_];refine k9 (Z:=#[a,E,B.bk c',l,H0,Ro]) Y (pv 3) [05] ft R λH R=>?_;refine ig (Z:=#[a,E,B.bk c',l,H0,Ro]) Y (abF T) (aa (pv 3) (aa (pv 4) (aa (pv 5) (aa (pv 6) ag)))) [05] R Go λw H i R=>?_;have R:=RS.back (Z:=#[a,E,B.bk c',L,H0,Ro]) lL R;refine q (.loop u e1 e2 x.1,Kn,x.2) w H t c' Go hB' Xb ((R.cut 3).and ?_);obtain⟨us,la,sa⟩:oV a (eV B) H x.1 v3:=R.f (i:=0) Go;show a9 a (eV B) H (.loop u e1 e2 x.1) w;unfold a9;exact#[v1,v2,v3,us,i,R.f (i:=2) Go,R.f (i:=1) Go,la,sa]
def ajn (T:aV K mg a) (XC:XT K a) (hk:8<=k) (G:o4 P w K mg base a k)
  (G2:T.Xa.O P w base k (kP a m)):
  T.XH.O P w base (k+1) (qH a (m+1) λt=>FR t "let"=Gc/\FR t "for"=Gc/\FR t "if"=FS):=by
 refine yH T XC hk T.XH.F ah0 (λ_=>rfl) λHn A outer s H β B L H0 Ro F b t Kn Bs d fu g Q E hr hd ho hf hB hc=>?_;intro X D Z en Y R q;have lL:=R.lL;obtain⟨dm,n1,n2,n3⟩:=ho;obtain⟨xp,r,e⟩:=e8 R (beq_iff_eq.mp n3);obtain⟨f,rfl⟩: ∃f,fu=f+1:=#[fu-1,by lia];have c:CB X "read_exp" ["reader","depth"] (a0 a FS Gg 12 (Lv 13)):=#[G,hr,T.Tj.c,Go];have hF:16*(Z.at t.length).L+12<=f+16:=by show 16*t.length+12<=f+16;lia
 have R:=R.at.as (ajl n1 n2 n3);generalize hl:t.length=l at R lL hF hc hf
 have nb:F3 t≠ .bad:=by rw[e];intro z;cases z
 subst e;refine sJ (Z:=Z.at l) 2 Y hd nb R λlt R=>?_;refine iU (Z:=Z.at l) Y xT R λH t R=>?_;refine eB (Z:=Z.at l) (d:=0) 3 Y c ak [05] R (n9 λ_=>(bj "{").bind) (Gn _) zI hF λe1 v1 H t R=>?_;have l4:t.length+1<=l:=R.l;have cb:CB X "read_braces" ["reader","depth"] (kP a m):=#[G2,hr,T.Xa.c,Go];refine aO 4 Y.nd #[_,Y.call2 cb (pv 2) [01] Go,B,l,H0,Ro,_,_,t,Kn,Bs,d+1,f,_,Go,lt,by lia,by lia,hB,by lia,R,λx v3 H t c3 hB3 hc3 R=>?_];refine my (Z:=#[a,E,B.bk c3,l,H0,Ro]) 5 Y R λLs H N R=>?_;have R:=(R.less N).and (e:=(.sts .nil, .ref Ls)) #[[],#[Ls,Go,N.nm,R.Rc],by unfold bD;rfl];have l5:t.length+1<=l:=R.l;refine gi (λσ' H'=> ∃(y:Jy) (B5:Iz) (v5:V) (c5:Fx (be×V)) (t5:FD),σ'=[FB (.ref B.r),FB (.int d),FB (.int ((d+1:FX):Int)),FB v1,FB v3,FB v5]/\Bk (B.bl.at_ c5) B5/\c5.length+t5.length<=4000/\RS #[a,E,B.bk c5,l,H0,Ro] ((.sts y,v5)::(.sts x.1,v3)::(.e e1,v1)::F) FS H' t5 Kn (g (.cond e1 x.1 y,Kn,B5))) ?_ ?_
 .rintro σ H ⟨y,B5,v5,c5,t5,rfl,hB5,hc5,R⟩
  refine ig (Z:=#[a,E,B.bk c5,l,H0,Ro]) Y (aie T) (aa (pv 3) (aa (pv 4) (aa (pv 5) ag))) [05] R Go λw H i R=>?_;have R:=RS.back (Z:=#[a,E,B.bk c5,L,H0,Ro]) lL R;refine q (.cond e1 x.1 y,Kn,B5) w H t5 c5 Go hB5 hc5 ((R.cut 3).and ?_);obtain⟨us,la,sa⟩:oV a (eV B) H x.1 v3:=R.f (i:=1) Go;obtain⟨us5,la5,sa5⟩:oV a (eV B) H y v5:=R.f (i:=0) Go;show a9 a (eV B) H (.cond e1 x.1 y) w;unfold a9;exact#[v1,v3,us,v5,us5,i,R.f (i:=2) Go,la,sa,la5,sa5]
 .refine du (vO (Z:=#[a,E,B.bk c3,l,H0,Ro]) Y R (λb=>en _ t b (R.as (wX (cu b "else"))).w) (λnb e=>#[_,Go,bG #[.nil,x.2, .ref Ls,c3,t,Go,hB3,hc3,R.as (wX ((ca R.tok rP).symm.trans e))]]) λ{y r} et e nb=>?_)
  subst et;have e:=(ca R.tok rP).symm.trans e;obtain⟨y,yp⟩:=y;obtain rfl:y=_:=beq_iff_eq.mp e;refine#[Zk,_,A6 e,λH R=>#[_,Go,b8 (aO 5 Y.nd #[_,Y.call2 cb (pv 2) [01] Go,B.bk c3,l,H0,Ro,_,_,r,Kn,x.2,d+1,f,_,Go,lt,by lia,by rw[FW] at l5;lia,hB3,by rw[FW] at hc3;show c3.length+_<=_;lia,R.cut 1,λy v5 H t c5 hB5 hc5 R=>cg #[y.1,y.2,v5,c5,t,Go,hB5,hc5,R]])]]
abbrev ab8 (P:Gy) (w:Hf) (K:FC) (mg:Gf->FP FE) (base:Ho) (a:bi) (k:FX) (f:FG) (fd:GQ) (ok:FD->Prop):Prop:=bW P w K mg base (gb P w) k f fd ["reader"] (mP a (λ_=>[]) λ_ t=>ok t)
def ajo (T:aV K mg a) (XC:XT K a) (hk:8<=k)
  (G1:ab8 P w K mg base a k a.f_3 a.afj λt=>FR t "let"=FS)
  (G2:T.XG.O P w base k (qH a m λt=>FR t "let"=Gc/\FR t "for"=FS))
  (G3:T.XH.O P w base k (qH a m λt=>FR t "let"=Gc/\FR t "for"=Gc/\FR t "if"=FS))
  (G4:ab8 P w K mg base a k a.f_5 a.afp λt=>FR t "let"=Gc/\FR t "for"=Gc/\FR t "if"=Gc/\FR t "block"=FS)
  (G5:ab8 P w K mg base a k a.f_4 a.afo λt=>FR t "let"=Gc/\FR t "for"=Gc/\FR t "if"=Gc/\FR t "block"=Gc):
  T.XF.O P w base (k+1) (qH a m λ_=>True):=by
 refine yH T XC hk T.XF.F ahX (λ_=>rfl) λHn A outer s H β B L H0 Ro F b t Kn Bs d fu g Q E hr hd ho hf hB hc=>?_;intro X D Z en Y R q;have see: ∀ {ss:Fx Stmt}{A:Fx Stmt}{s:String}{v:Gf}{j:FX}{p1 p2 p3 p4 p5:Pos}(lit:c7 v (Fz s)) (hp:iB p2 p4),(FR t s=FS->Bd X A (D.to X ss) [FB (.ref B.r),FB (.int d)] H)->(FR t s=Gc->Bd X ss D [FB (.ref B.r),FB (.int d)] H)->Bd X (.If (.Call (.Attribute [005] "sees" p2) [.Constant (.str v) j p3] [] p4) A [] p5::ss) D [FB (.ref B.r),FB (.int d)] H:=λlit hp yes no=>
  bI (du (iO (Z:=Z) Y R (lY _ _ _ _).bind (λnb=>#[_,Go,by rw[ca R.tok lit];exact aQ yes no]) hp))
 refine see Ba Go (λe1=>aN (e7 Y #[G1,hr,T.d_3.c,Go] #[B,L,H0,Ro,F,b,t,Kn,Bs,d,fu,g,Go,hd,e1,hf,hB,hc,en,R,q])) λe1=>?_;refine see BC Go (λe2=>aN #[_,Y.call2 #[G2,hr,T.XG.c,Go] (pv 1) [01] Go,B,L,H0,Ro,F,b,t,Kn,Bs,d,fu,g,Go,hd,#[ho.1,e1,e2],hf,hB,hc,en,R,q]) λe2=>?_;refine see xT Go (λe3=>aN #[_,Y.call2 #[G3,hr,T.XH.c,Go] (pv 1) [01] Go,B,L,H0,Ro,F,b,t,Kn,Bs,d,fu,g,Go,hd,#[ho.1,e1,e2,e3],hf,hB,hc,en,R,q]) λe3=>?_;refine see sv Go (λe4=>aN (e7 Y #[G4,hr,T.d_5.c,Go] #[B,L,H0,Ro,F,b,t,Kn,Bs,d,fu,g,Go,hd,#[e1,e2,e3,e4],hf,hB,hc,en,R,q])) λe4=>?_;exact aN (e7 Y #[G5,hr,T.d_4.c,Go] #[B,L,H0,Ro,F,b,t,Kn,Bs,d,fu,g,Go,hd,#[e1,e2,e3,e4],hf,hB,hc,en,R,q])
def t8 {H:Hp}{Q:VK}{E:XK}(h:kP a 0 vs H Q E):False:=by
 obtain⟨B,L,H0,Ro,F,b,t,Kn,Bs,d,f,g,e,hd,hm,_⟩:=h;lia
def yR (T:aV K mg a) (XC:XT K a) (IL:qh K a) (hk:8<=k) (G:o4 P w K mg base a k): ∀m:FX,
  T.Xa.O P w base (k+3+3*m) (kP a m):=by
 intro m
 induction m with
 |zero=>exact fW T.Xa.F ahW (λ_ _ _ _ h=>(t8 h).elim) (λ_ _ _ _ _ _ _ _ _ h=>(t8 h).elim)
 |succ m ih=>
  have Pa: ∀ {v:Gf}{s:String},c7 v (Fz s)->T.XI.O P w base (k+2) (gE a [.str v] (dz s) 12 FS FS .e):=λl=>(ab2 l T XC hk G).mono (by lia)
  have Am:=ajj T XC hk G
  have Le:=amY T XC (by lia) (ajf T XC hk G)
  have St:=amZ T XC (by lia) Pa (ajg Zp T XC (by lia) (ab2 Zp T XC hk G))
  have Bl:=am1 T XC (by lia) Pa (ajg uA T XC (by lia) (ab2 uA T XC hk G)) (Am.mono (by lia))
  have Fo:=ajm T XC (by lia) (G.mono (by lia:k<=k+3+3*m)) ih
  have If_:=ajn T XC (by lia) (G.mono (by lia:k<=k+3+3*m)) ih
  have Sm:=ajo T XC (by lia) (Le.mono (by lia)) Fo If_ (Bl.mono (by lia)) (St.mono (by lia))
  have:=am3 T XC IL (by lia) Sm;exact this.mono (by lia)
def tE:c7 "const" (Fz "const"):=[007]
abbrev Rb.tp (B:Rb) (dc:Fx (be×V)) (bp:FG) (bc:Fx (be×V)):Rb:= { B with ds:=#[B.ds.p,dc,B.ds.x],bl:=#[bp,bc,B.bl.x] }
def DQ (B:Rb) (H:Hp):Prop:= ∀b,eV B b->H b=FM
inductive pf (a:bi) (ok:FD->Prop) (vs:Fx V) (H:Hp) (Q:VK) (E:XK):Prop
 |mk {β:Type}(B:Rb) (L:FX) (H0:Hp) (Ro:β->FD->Prop) (F:Fx (Fk×V)) (b:GP) (t:FD) (Kn:FH) (nf:FX) (Ds:Fx Fy) (f:FX) (g:g7->FQ β) (_:vs=[.ref B.r]) (_:ok t) (_:16*t.length<=f) (_:Bk B.ds Ds) (_:B.ds.c.length+t.length<=4000) (_:Kn.funs.length+nf=9) (_:DQ B H0) (_:RS ⟨a,E,B,L,H0,Ro⟩ F b H t Kn (iz f Kn nf Ds>>=g))
  (_: ∀x v H' t' dc bp bc,(∀u,has dc u=x.2.2.2.contains u)->dc.length+t'.length<=4000->x.2.1.funs.length+x.2.2.1=9->DQ (B.tp dc bp bc) H0->RS #[a,E,B.tp dc bp bc,L,H0,Ro] ((.top x.1,v)::F) FS H' t' x.2.1 (g x)->Q v H'):pf a ok vs H Q E
inductive Fd (a:bi) (vs:Fx V) (H:Hp) (Q:VK) (E:XK):Prop
 |mk {β:Type}(B:Rb) (L:FX) (H0:Hp) (Ro:β->FD->Prop) (F:Fx (Fk×V)) (b:GP) (t:FD) (Kn Kf:FH) (IW:Fy) (g:Fy->FQ β) (_:vs=[.ref B.r, .str (sb IW)]) (_:c7 (sb IW) IW) (_:G6.contains IW=Gc) (_: ∀u,Kf.taken u=(decide (u=IW)||Kn.taken u)) (_:RS ⟨a,E,B,L,H0,Ro⟩ F b H t Kn (Hg Kf>>=g))
  (_: ∀u H' t',Kn.values.contains u=Gc->RS #[a,E,B,L,H0,Ro] F FS H' t' (Kn.with u) (g u)->Q (.str (sb u)) H'):Fd a vs H Q E
section
variable {k m:FX}{x Hy:Gf}{st:Stmt}{f:FG}{fd:GQ}{N:Fx Gf}{ok:FD->Prop}
def E8 (T:aV K mg a) (XC:XT K a) (hk:8<=k) (F:o9 K x Hy st f fd) (S:ay N ["reader"] (af st))
  (J3: ∀(Hn:FE) (A:Hm) (outer:Fx Env) (s:FJ) (H:Hp) {β:Type}(B:Rb) (L:FX) (H0:Hp) (Ro:β->FD->Prop) (F:Fx (Fk×V)) (b:GP) (t:FD) (Kn:FH) (nf:FX) (Ds:Fx Fy) (fu:FX) (g:g7->FQ β) (Q:VK) (E:XK),bZ k (A.deeper [011])->ok t->16*t.length<=fu->Bk B.ds Ds->B.ds.c.length+t.length<=4000->Kn.funs.length+nf=9->DQ B H0->
   let X:=fg (gb P w) P w K mg base N Hy (af st) f Hn A outer s H E
   let D:eI:= { nx:=λ_ H'=>Q .Jm H',rt:=Q }
   let Z:Zf β:=#[a,E,B,L,H0,Ro]
   RX X a E->RS Z F b H t Kn (iz fu Kn nf Ds>>=g)->(∀x v H' t' dc bp bc,(∀u,has dc u=x.2.2.2.contains u)->dc.length+t'.length<=4000->x.2.1.funs.length+x.2.2.1=9->DQ (B.tp dc bp bc) H0->RS #[a,E,B.tp dc bp bc,L,H0,Ro] ((.top x.1,v)::F) FS H' t' x.2.1 (g x)->Q v H')->Bd X (bh st) D (L2.start N [.ref B.r]) H):bW P w K mg base (gb P w) (k+1) f fd ["reader"] (pf a ok):=by
 refine fW F S [03] [02];obtain⟨B,L,H0,Ro,F,b,t,Kn,nf,Ds,fu,g,rfl,h1,h2,h3,h4,h5,h6,R,q⟩:=h;exact J3 Hn A outer s H B L H0 Ro F b t Kn nf Ds fu g Q E hr h1 h2 h3 h4 h5 h6 (j6 T XC hk S hr) R q
def am4 (T:aV K mg a) (XC:XT K a) (hk:8<=k) (F:o9 K x Hy st f fd) (S:ay N ["reader","function"] (af st))
  (J3: ∀(Hn:FE) (A:Hm) (outer:Fx Env) (s:FJ) (H:Hp) {β:Type}(B:Rb) (L:FX) (H0:Hp) (Ro:β->FD->Prop) (F:Fx (Fk×V)) (b:GP) (t:FD) (Kn Kf:FH) (IW:Fy) (g:Fy->FQ β) (Q:VK) (E:XK),bZ k (A.deeper [011])->c7 (sb IW) IW->G6.contains IW=Gc->(∀u,Kf.taken u=(decide (u=IW)||Kn.taken u))->
   let X:=fg (gb P w) P w K mg base N Hy (af st) f Hn A outer s H E
   let D:eI:= { nx:=λ_ H'=>Q .Jm H',rt:=Q }
   let Z:Zf β:=#[a,E,B,L,H0,Ro]
   RX X a E->RS Z F b H t Kn (Hg Kf>>=g)->(∀u H' t',Kn.values.contains u=Gc->RS #[a,E,B,L,H0,Ro] F FS H' t' (Kn.with u) (g u)->Q (.str (sb u)) H')->Bd X (bh st) D (L2.start N [.ref B.r, .str (sb IW)]) H):bW P w K mg base (gb P w) (k+1) f fd ["reader","function"] (Fd a):=by
 refine fW F S [03] [02];obtain⟨B,L,H0,Ro,F,b,t,Kn,Kf,IW,g,rfl,h1,h2,h3,R,q⟩:=h;exact J3 Hn A outer s H B L H0 Ro F b t Kn Kf IW g Q E hr h1 h2 h3 (j6 T XC hk S hr) R q
end
section
variable {K:FH}{β:Type}{g:g7->FQ β}
def sG (h:FR t "const"=FS):(iz k K n D>>=g) t=(G7>>=λ_=>Hg K>>=λx=>dS k K>>=λe=>g (.const x e,K.with x,n,D)) t:=by
 rw[aW (show iz k K n D t=(G7>>=λ_=>vI k K n D:FQ g7) t by unfold iz;rw[FI h])];simp only[vI,dS,bind_assoc,pure_bind]
end
def ajp (T:aV K mg a) (XC:XT K a) (hk:8<=k) (G:T.Yx.O P w base k (gE a [] dS 12 Gc FS .e)):
  T.XB.O P w base (k+1) (pf a λt=>FR t "const"=FS):=by
 refine E8 T XC hk T.XB.F ahR λHn A outer s H β B L H0 Ro F b t Kn nf Ds fu g Q E hr ho hf hB hc hn hN=>?_;intro X D Z Y R q;have lL:=R.lL;have hm:Kn.values.length+(Z.at t.length).L<=4000:=R.room;obtain⟨xp,r,rfl⟩:=e8 R (beq_iff_eq.mp ho);have hF:16*(Z.at (((HU (Fz "const"),xp)::r).length)).L+12<=fu+16:=by show 16*((HU (Fz "const"),xp)::r).length+12<=fu+16;lia
 refine iU (Z:=Z.at _) Y tE (R.at.as (sG ho)) λH t R=>?_;refine ji (Z:=Z.at _) 1 Y R λu H t ft R=>?_;refine nW (Z:=Z.at _) 2 Y #[G,hr,T.Yx.c,Go] R hF λe v H t R=>?_;refine gN (Z:=Z.at _) Y (pv 1) [05] ft hm R λH R=>?_;refine ig (Z:=Z.at _) Y (DD T) (aa (pv 1) (aa (pv 2) ag)) [05] R Go λw H i R=>?_;have l:t.length+1<=r.length+1:=R.l;have R:=RS.back (Z:=Z) lL R;refine q (.const u e,Kn.with u,nf,Ds) w H t B.ds.c B.bl.p B.bl.c hB (by rw[FW] at hc;lia) hn hN ((R.cut 1).and ?_);exact#[v,i,R.f (i:=0) Go]
def ajq (T:aV K mg a) (XC:XT K a):T.aax.O P w base 9 (Fd a):=by
 refine am4 T XC (k:=8) [01] T.aax.F ahU λHn A outer s H β B L H0 Ro F b t Kn Kf IW g Q E hr lit VE hK=>?_;intro X D Z Y R q;have lL:=R.lL;have hm:Kn.values.length+(Z.at t.length).L<=4000:=R.room;refine bI (du (mK (Z:=Z) Y R (pv 1) [05] (λbd=>(fU Kf).bind.Me bd R.w) λnb=>#[_,Go,?_]));rw[ca R.tok lit];rw[05]
 .obtain⟨xp,r,rfl⟩:=e8 R (beq_iff_eq.mp e)
  refine bB (rF (Z:=Z) (i:=4) Y (aS (by rfl) T.Pq) R nb ?_);rw[aW (q:=(F8 4:FQ Fy)) (by rw[eO VE,FI (by rw[hK,GL Go];rfl)])]
  rfl
 .have en:Hg Kf t=Hg Kn t:=by
   obtain⟨⟨x,xp⟩,r,rfl⟩:=R.cons;cases x with
   |word u=>
    cases SM:G6.contains u with
    |true=>rw[iG SM,iG SM]
    |false=>
     have nf:decide (u=IW)=Gc:=Gp λz=>by
      have e:(HU u == HU IW)=Gc:=e;rw[z,Ht] at e;cases e
     rw[eO SM,eO SM,hK,nf];rfl
   |num m=>rfl
   |sign s=>rfl
   |eof=>rfl
   |bad=>rfl
  refine ji (Z:=Z.at t.length) 2 Y (R.at.asf en) λu H t ft R=>?_;refine gN (Z:=Z.at _) Y (pv 2) [05] ft hm R λH R=>?_;exact aN (bA 2 (q u H t (jV ft) (RS.back (Z:=Z) lL R)))
def fF (f n:FX) (K:FH):FQ (Fx Fy):=Lk ",">>=λm=>(if m=FS then KL f n K else(Gz ")">>=λ_=>pure []))
section
variable {K:FH}{β:Type}{g:Fx Fy->FQ β}
def qz (hn:n≠0):(KL (f+1) n K>>=g) t=(Hg K>>=λx=>fF f (n-1) (K.with x)>>=λl=>g (x::l)) t:=by
 rw[aW (zx hn),bind_assoc];have e: ∀x,((Lk ",">>=λm=>(if m=FS then(KL f (n-1) (K.with x)>>=λl=>pure (x::l)) else(Gz ")">>=λ_=>pure [x])):FQ (Fx Fy))>>=g)=(fF f (n-1) (K.with x)>>=λl=>g (x::l)):=λx=>by
  unfold fF;rw[bind_assoc,bind_assoc]
  congr 1
  funext m
  cases m with
  |true=>rw[FI Go,FI Go,bind_assoc];simp only[pure_bind]
  |false=>rw[FF FA,FF FA,bind_assoc,bind_assoc];simp only[pure_bind]
 simp only[e]
def uR (no:GA t ","=Gc):(fF f n K>>=g) t=(Gz ")">>=λ_=>g []) t:=by
 unfold fF;rw[bind_assoc];refine(bL (x:=Gc) (r:=t) (by unfold Lk;rw[FF (by rw[no];exact FA)])).trans ?_;rw[FF FA,bind_assoc];simp only[pure_bind]
def ua {x:Ha×GS}(yes:GA (x::r) ","=FS):(fF f n K>>=g) (x::r)=(G7>>=λ_=>KL f n K>>=g) (x::r):=by
 unfold fF;rw[bind_assoc];refine(bL (x:=FS) (r:=r) (by unfold Lk;rw[FI yes];rfl)).trans ?_;rw[FI Go]
 rfl
def o0 (f n:FX) (K:FH):aM (fF f n K):=(mj ",").strict λm=>by
 cases m with
 |true=>
  rw[FI Go];exact jx f n K
 |false=>
  rw[FF FA];exact(bj ")").bind
end
def oz {K:FH}{f u:Fy} :(#[vs++f::K.values,K.funs]:FH).taken u=(decide (u=f)||(⟨vs++K.values,K.funs⟩:FH).taken u):=by
 unfold Ou;rw[<-GP.or_assoc]
 congr 1
 rw[HB,MP,GB,GN,GN,Gr,Gr,FU];constructor
 .rintro(h|h|h)
  .exact .inr (.inl h)
  .exact .inl h
  .exact .inr (.inr h)
 .rintro(h|h|h)
  .exact .inr (.inl h)
  .exact .inl h
  .exact .inr (.inr h)
def eX {α β:Type}{g:α->FQ β}(t:FD):((F8 i:FQ α)>>=g) t=F8 i t:=rfl
section
variable {β:Type}{Z:Zf β}{H:Hp}{Q:VK}{p:FQ β}
def wL {e:HX}{i:FX}(Y:RX X Z.a Z.E) (he:PE X e (tC (.int i))) (R:RS Z F b H t Kn p) (h:p t=F8 i t) (hp:iB p2 p4:=by rfl) (KN:F9 [e] X.env=[[001]]:=by rfl):
  Pe X (.Call (.Attribute [005] "fail" p2) [e] [] p4) (FB (.ref Z.B.r)::σ) H Q:=by
 rw[00];obtain⟨⟨x,xp⟩,t',rfl,tok,RB,Ng,_⟩:=S.wh.first;refine Y.m1 Y.T.Ww.c (fH Y.T Y.C) [01] Y.up S Go #[_,he,Z.B.r,Z.B.q,Z.B.kd,Z.B.fn,Z.B.ds,Z.B.bl,n,(x,xp),t',i,Go,S.rd,?_] hp KN;have w:=R.w;have w:=aiS (p':=F8 i) h w;rw[abR] at w;exact w H R.k
end
inductive ab9 (a:bi) (vs:Fx V) (H:Hp) (Q:VK) (E:XK):Prop
 |mk {β:Type}(B:Rb) (L:FX) (H0:Hp) (Ro:β->FD->Prop) (F:Fx (Fk×V)) (b:GP) (t:FD) (Kn:FH) (IW:Fy) (f:FX) (g:Fx Fy->FQ β) (_:vs=[.ref B.r, .str (sb IW)]) (_:c7 (sb IW) IW) (_:G6.contains IW=Gc) (_:t.length<f) (_:RS ⟨a,E,B,L,H0,Ro⟩ F b H t Kn (KL f 6 (Kn.with IW)>>=g))
  (_: ∀ps v H' t',ps.length<=6->ps.Nodup->(∀x∈ps,x∉Kn.values)->RS #[a,E,B,L,H0,Ro] ((.ps ps,v)::F) FS H' t' #[ps.reverse++Kn.values,Kn.funs] (Gz ")">>=λ_=>g ps)->Q v H'):ab9 a vs H Q E
inductive PsI {β:Type}(Z:Zf β) (Ls:FG) (F:Fx (Fk×V)) (Kn:FH) (IW:Fy) (g:Fx Fy->FQ β) (σ0:L2.St) (m:FX) (σ:L2.St) (H:Hp):Prop
 |mk (ps:Fx Fy) (t:FD) (f:FX) (_:m=t.length) (_:σ=σ0) (_:ps≠[]) (_:ps.length<=6) (_:ps.Nodup) (_: ∀x∈ps,x∉Kn.values) (_:t.length<f)
  (_:RS (Z.mo Ls (gI ps)) F FS H t #[ps.reverse++Kn.values,Kn.funs] (fF f (6-ps.length) #[ps.reverse++IW::Kn.values,Kn.funs]>>=λl=>g (ps++l))):PsI Z Ls F Kn IW g σ0 m σ H
section
variable {k m:FX}{x Hy:Gf}{st:Stmt}{f:FG}{fd:GQ}{N:Fx Gf}
def am5 (T:aV K mg a) (XC:XT K a) (hk:8<=k) (F:o9 K x Hy st f fd) (S:ay N ["reader","function"] (af st))
  (J3: ∀(Hn:FE) (A:Hm) (outer:Fx Env) (s:FJ) (H:Hp) {β:Type}(B:Rb) (L:FX) (H0:Hp) (Ro:β->FD->Prop) (F:Fx (Fk×V)) (b:GP) (t:FD) (Kn:FH) (IW:Fy) (fu:FX) (g:Fx Fy->FQ β) (Q:VK) (E:XK),bZ k (A.deeper [011])->c7 (sb IW) IW->G6.contains IW=Gc->t.length<fu->
   let X:=fg (gb P w) P w K mg base N Hy (af st) f Hn A outer s H E
   let D:eI:= { nx:=λ_ H'=>Q .Jm H',rt:=Q }
   let Z:Zf β:=#[a,E,B,L,H0,Ro]
   RX X a E->RS Z F b H t Kn (KL fu 6 (Kn.with IW)>>=g)->(∀ps v H' t',ps.length<=6->ps.Nodup->(∀x∈ps,x∉Kn.values)->RS ⟨a,E,B,L,H0,Ro⟩ ((.ps ps,v)::F) FS H' t' ⟨ps.reverse++Kn.values,Kn.funs⟩ (Gz ")">>=λ_=>g ps)->Q v H')->Bd X (bh st) D (L2.start N [.ref B.r, .str (sb IW)]) H):bW P w K mg base (gb P w) (k+1) f fd ["reader","function"] (ab9 a):=by
 refine fW F S [03] [02];obtain⟨B,L,H0,Ro,F,b,t,Kn,IW,fu,g,rfl,h1,h2,h3,R,q⟩:=h;exact J3 Hn A outer s H B L H0 Ro F b t Kn IW fu g Q E hr h1 h2 h3 (j6 T XC hk S hr) R q
def ajr (T:aV K mg a) (XC:XT K a):T.aaw.O P w base 10 (ab9 a):=by
 refine am5 T XC (k:=9) [01] T.aaw.F ahT λHn A outer s H β B L H0 Ro F b t Kn IW fu g Q E hr lit VE hf=>?_;intro X D Z Y R q;have lL:=R.lL;have one: ∀ {σ:L2.St}{H:Hp}{Q:VK}{p1 p2 p3 p4:Pos},Fd a [.ref B.r, .str (sb IW)] H Q E->Pe X (.Call (.Name "read_parameter" p1) [.Name "reader" p2, .Name "function" p3] [] p4) (FB (.ref B.r)::FB (.str (sb IW))::σ) H Q:=λh=>#[_,aF (ajq T XC) hr (by rfl) T.aax.c Y.up (aa Y.rd (aa (pv 1) ag)),h]
 obtain⟨f,rfl⟩: ∃f,fu=f+1:=#[fu-1,by lia];refine aO 2 Y.nd (vU (aP (one #[B,t.length,H0,Ro,F,Gc,t,Kn,Kn.with IW,IW,_,Go,lit,VE,λu=>oz (vs:=[]),R.at.as (qz [01]),λu H t1 fv R=>cH #[by show 1<=GD;decide,λLs hL=>?_]])));have l1:t1.length+1<=t.length:=R.l;have R:=RS.back (Z:=Z) lL R;have N:=R.nwl hL;have fr: ∀ {vs:Fx Fy}{u:Fy},vs.contains u=Gc->u∉vs:=λh z=>by rw[GN.mpr z] at h;cases h
 refine fZ Y.lv (PsI Z Ls F Kn IW g [FB (.ref B.r),FB (.str (sb IW)),FB (.ref Ls)]) _ #[[u],t1,f,Go,Go,Fx.cons_ne_nil _ _,(by show 1<=6;decide),GJ.mpr #[HZ,Ni],λx hx=>by rw[Ga.mp hx];exact fr fv,by lia,R.more hL] ?_;rintro mm σ H ⟨ps,t,f,rfl,rfl,pne,p6,pnd,pfr,hf1,R⟩;have lL:=R.lL;have sl:(gI ps).length=ps.length:=FT ..;refine du (vO (Z:=(Zf.mo Z Ls (gI ps)).at t.length) Y R.at (λb=>(o0 _ _ _).bind.Me b R.w) (λnb e=>#[_,Go,bG ?_]) λ{x r} et e nb=>?_)
 .have R:=R.as (uR ((cT R.tok yj).symm.trans e))
  rw[Hj] at R;exact aN (bA 2 (q ps (.ref Ls) H t p6 pnd pfr ((R.less N).and #[Ls,Go,N.nm,R.Rc])))
 .subst et
  have e:=(cT R.tok yj).symm.trans e;obtain⟨x,xp⟩:=x;obtain rfl:x=_:=beq_iff_eq.mp e;refine#[nfS,_,ua e,λH R=>#[_,Go,b8 ?_]]
  have l5:r.length+1<=_:=R.l;rw[03]
  have hLs:H Ls=FB (.lst (gI ps)):=RS.Rc (Z:=Z.at ((JB (Fz ","),xp)::r).length) (L:=Ls) (us:=gI ps) R;refine bI (cS bS (iJ T.KW hLs (pv 2) [05] #[_,aS (by rfl) T.P7,Go,_,Go,?_]));rw[cj,sl];rw[05]
  .have p6':ps.length=6:=by have:=Gj e;lia
   exact bB (wL (Z:=(Zf.mo Z Ls (gI ps)).at _) (i:=7) Y (aS (by rfl) T.Ru) R ((aW (q:=(F8 7:FQ (Fx Fy))) (vV (by lia))).trans (eX _)))
  .have p5:ps.length<6:=by have:=Gw e;lia
   refine oQ (β:=β) hLs (pv 2) [05] (one #[B.more Ls (gI ps),_,H0,Ro,F,FS,r,_,_,IW,_,Go,lit,VE,λu=>oz,R.as (qz (by lia)),λu H t5 fv R=>?_]);have l6:t5.length+1<=_:=R.l;have R:=RS.back (Z:=Zf.mo Z Ls (gI ps)) lL R;refine#[Z,_,_,_,_,_,N,GF (show(gI ps).length<=6 by rw[sl];exact p6) [01],R,λH R=>?_];have ns:gI ps++[V.str (sb u)]=gI (ps++[u]):=by unfold gI;rw[Hk];rfl
   rw[ns] at R;have nu:=fr fv;have er: ∀(V:Fx Fy),(ps++[u]).reverse++V=u::(ps.reverse++V):=λV=>by rw[Vj];rfl
   refine gh #[_,l6,ps++[u],t5,f,Go,Go,(λz=>by rw[TJ] at z;exact nomatch z.2),by rw[Gb,JT];lia,?_,λx hx z=>?_,by lia,?_]
   .rw[LW]
    refine#[pnd,GJ.mpr #[HZ,Ni],λx hx y hy z=>?_];rw[Ga.mp hy] at z;exact nu (Gr.mpr (.inl (Kp.mpr (by rw[<-z];exact hx))))
   .rcases Gr.mp hx with hx|hx
    .exact pfr x hx z
    .rw[Ga.mp hx] at z
     exact nu (Gr.mpr (.inr z))
   .rw[er,er,Gb,JT]
    have e2: ∀l,g (ps++[u]++l)=g (ps++u::l):=λl=>by rw[G9];rfl
    simp only[e2];exact R
end
def Dr:c7 "fun" (Fz "fun"):=[007]
def fz.UJ {a:bi}{H:Hp}{n:FX}{t:FD}{K1 K2:FH}(S:fz a B H n t K1) (hc: ∀u,K2.values.contains u=K1.values.contains u) (hl:K2.values.length=K1.values.length) (hf:K2.funs=K1.funs):fz a B H n t K2:=by
 obtain⟨kk,k1,k2,k3⟩:=S.kn.vals;obtain⟨ff,f1,f2⟩:=S.kn.funs;refine#[S.rd,S.wh,#[#[kk,k1,by rw[hl];exact k2,λu=>by rw[hc];exact k3 u],#[ff,f1,by rw[hf];exact f2],by rw[hl];exact S.kn.len,#[ff,f1,by rw[hf];exact S.kn.fl f1]],S.TF,S.S7,S.QB,S.fr]
def AW {aD:Fx (be×V)}{j:be}{v:V}(h:bQ aD j=FM):(dB aD j v).length=aD.length+1:=by
 unfold dB;rw[FF,Gb]
 .rfl
 .intro z
  rw[Ms] at z;obtain⟨p,hp,e⟩:=z;have:(bQ aD j).isSome=FS:=by
   unfold bQ;rw[IG,NJ];exact#[p,hp,e]
  rw[h] at this;cases this
def fz.ID {a:bi}{H:Hp}{B:Rb}{n:FX}{t:FD}{Kn:FH}{x:Fy}{c:FX}{ff:Fx (be×V)}(S:fz a B H n t Kn) (hx:Kn.taken x=Gc) (e:H B.fn=FB (.dK ff)):
  fz a B (aI H B.fn (.dK (dB ff (nk x) (.int (c:FX))))) n t { Kn with funs:=(x,c)::Kn.funs } :=by
 rw[02];obtain⟨as,all,h1,h2,h3⟩:=S.rd.toks;obtain⟨kk,k1,k2,k3⟩:=S.kn.vals;obtain⟨ff',f1,f2⟩:=S.kn.funs;have hy:=S.TF;have hz:=S.S7;have fl:=S.kn.fl e;obtain rfl:ff'=ff:=by rw[e] at f1;cases f1;rfl
 obtain⟨d1,d2,d3,d4,d5,d6⟩:=S.QB;have nr:B.r≠B.fn:=λw=>by rw[w,e] at er;cases er
 have nq:B.q≠B.fn:=λw=>by rw[w,e] at h1;cases h1
 unfold Ou at hx;rw[MF] at hx;have none_:bQ ff' (nk x)=FM:=by
  rw[f2];have:Kn.funs.find? (λf=>f.1 == x)=FM:=by
   rw[Qg];intro y hy z;have:=hx.2;rw[V6] at this;exact this y hy z
  rw[this]
  rfl
 refine#[#[#[dr,by rw[ac nr];exact er],as,all,by rw[ac nq];exact h1,Paired.NV h2 λb x ⟨dx,ex⟩=>#[dx,?_],h3],S.wh,#[#[kk,by rw[ac d1];exact k1,k2,k3],#[_,ae,λu=>?_],S.kn.len,#[_,ae,?_]],(by rw[ac d4.symm];exact hy),(by rw[ac d5.symm];exact hz),S.QB,λb xs h=>?_]
 .rw[ac λw=>by rw[w,e] at ex;cases ex]
  exact ex
 .rw[gX,HC]
  by_cases w:u=x
  .rw[FI (by rw[w]),w,show((x,c).1 == x)=FS from Ht x]
   rfl
  .rw[FF λz=>w (eD (J1 z)),show((x,c).1 == u)=Gc from beq_eq_false_iff_ne.mpr (Jf w)]
   exact f2 u
 .rw[AW none_,fl]
  rfl
 .have e2:=S.fr b xs h
  rw[ac λw=>by rw[w,e] at e2;cases e2];exact e2
def uW:gY X (.builtin "len") (λxs H Q=> ∃a aD,xs=[V.ref a]/\DM X.prog X.w X.K a aD/\Q (.int aD.length) H):=by
 intro pins s σ H xs us Q I r h;obtain⟨a,aD,rfl,kd,q⟩:=h;obtain⟨u,rfl,ru⟩:=nZ r;cases ru;obtain⟨vs,dd,rel⟩:=kd.at_;have z:=kd.len;refine call_len_dict kd.no (dd _ I.NW) (by rw[<-rel.length];rw[IE] at z;lia) ?_;rw[<-rel.length];exact#[.int aD.length,H,I.tok _,#[_,Go],q]
def b9.is {M:FG->Prop}{H:Hp}(h:b9 M H us (.ref L)):H L=FB (.lst us):=by
 obtain⟨p,e,_,h⟩:=h;cases e;exact h
section
variable {β:Type}{Z:Zf β}{H:Hp}{p:FQ β}
theorem RS.UJ (R:RS Z F b H t Kn p) (hc: ∀u,K2.values.contains u=Kn.values.contains u) (hl:K2.values.length=Kn.values.length) (hf:K2.funs=Kn.funs):RS Z F b H t K2 p:=by
 rw[00];exact R.go (S.UJ hc hl hf) dg.refl R.l R.w
theorem RS.ID (R:RS Z F b H t Kn p) (hx:Kn.taken x=Gc) (e:H Z.B.fn=FB (.dK ff)):RS Z F b (aI H Z.B.fn (.dK (dB ff (nk x) (.int (c:FX))))) t { Kn with funs:=(x,c)::Kn.funs } p:=by
 rw[00];exact R.go (S.ID hx e) (eY (.inr (.inr (.inl Go)))) R.l R.w
end
section
variable {K:FH}{β:Type}{g:g7->FQ β}
def j4 (k n:FX) (K:FH) (D:Fx Fy) (g:g7->FQ β) (x:Fy) (ps:Fx Fy):FQ β:=dS k { K with values:=ps++K.values } >>=λe=>g (.func x ps e,{ K with funs:=(x,ps.length)::K.funs },n-1,D)
def md (k n:FX) (K:FH) (D:Fx Fy) (g:g7->FQ β) (x:Fy):FQ β:=Lk ")">>=λm=>(if m=FS then Vbemac.give [] else KL k 6 (K.with x))>>=λps=>j4 k n K D g x ps
def Bo (h1:FR t "const"=Gc) (h2:FR t "fun"=FS) (hn:n≠0):(iz k K n D>>=g) t=(G7>>=λ_=>Hg K>>=λx=>Gz "(">>=λ_=>md k n K D g x) t:=by
 rw[aW (show iz k K n D t=(G7>>=λ_=>ab0 k K n D:FQ g7) t by unfold iz;rw[FF (by rw[h1];exact FA),FI h2,FF hn])];unfold ab0 md;simp only[j4,dS,bind_assoc,pure_bind]
 rfl
def yl (h1:FR t "const"=Gc) (h2:FR t "fun"=FS) (hn:n=0):(iz k K n D>>=g) t=F8 7 t:=
 (aW (q:=(F8 7:FQ g7)) (by unfold iz;rw[FF (by rw[h1];exact FA),FI h2,FI hn])).trans (eX t)
def qV:aM (j4 k n K D g x ps):=(bj "=").bind.bind
def rG:aM (md k n K D g x):=(mj ")").strict λm=>by
 cases m with
 |true=>rw[FI Go];exact qV
 |false=>rw[FF FA];exact(jx _ _ _).bind
def BZ (h:GA t ")"=FS):md k n K D g x t=(Gz ")">>=λ_=>j4 k n K D g x []) t:=by
 unfold md;refine(bL (x:=FS) (r:=t.drop 1) (by unfold Lk;rw[FI h])).trans ?_;rw[FI Go];refine Eq.trans (b:=j4 k n K D g x [] (t.drop 1)) Go ?_;exact(bL (p:=Gz ")") (g:=λ_=>j4 k n K D g x []) (x:=()) (r:=t.drop 1) (by unfold Gz;rw[FI h])).symm
def zy (h:GA t ")"=Gc):md k n K D g x t=(KL k 6 (K.with x)>>=j4 k n K D g x) t:=by
 unfold md;refine(bL (x:=Gc) (r:=t) (by unfold Lk;rw[FF (by rw[h];exact FA)])).trans ?_;rw[FF FA]
end
def uT {ps V:Fx Fy}{i:FX}{x:Fy}(h:ps[i]?=FB x) (nd:ps.Nodup) (fr: ∀x∈ps,x∉V):(ps.drop i++V).contains x=FS/\(ps.drop (i+1)++V).length+1=(ps.drop i++V).length/\ ∀v,(ps.drop (i+1)++V).contains v=(!decide (v=x)&&(ps.drop i++V).contains v):=by
 have ed:ps.drop i=x::ps.drop (i+1):=by
  obtain⟨h,e⟩:=GG.mp h;rw[<-e];exact HL h
 have sub:(x::ps.drop (i+1)).Sublist ps:=by
  rw[<-ed];exact Wd i ps
 have nin:=(GJ.mp (sub.nodup nd)).1
 have nV:=fr x (sub.subset (FL ..));rw[ed];refine#[GN.mpr (FL ..),Go,λz=>?_]
 rw[WV,GZ];by_cases e:z=x
 .subst e
  rw[GL Go];show _=Gc;rw[Wc];intro w;rcases Gr.mp (GN.mp w) with w|w
  .exact nin w
  .exact nV w
 .rw[Gp e,show(z == x)=Gc from beq_eq_false_iff_ne.mpr e]
  rfl
def ajs (T:aV K mg a) (XC:XT K a) (kF:DM P w K a.HA dy) (hk:10<=k) (G:T.Yx.O P w base k (gE a [] dS 12 Gc FS .e)):
  T.XD.O P w base (k+1) (pf a λt=>FR t "const"=Gc/\FR t "fun"=FS):=by
 refine E8 T XC (by lia) T.XD.F ahS λHn A outer s H β B L H0 Ro F b t Kn nf Ds fu g Q E hr ho hf hB hc hn hN=>?_;intro X D Z Y R q;have lL:=R.lL;obtain⟨n1,n2⟩:=ho;obtain⟨xp,r,ex⟩:=e8 R (beq_iff_eq.mp n2);have hF:16*(Z.at t.length).L+12<=fu+16:=by show 16*t.length+12<=fu+16;lia
 rw[00];rw[02];obtain⟨ff,f1,_⟩:=S.kn.funs;have fl:=S.kn.fl f1;refine bI #[_,aL bS (br zd (by rfl) T.KW Iy (aa [09] ag)) (bM dW (br uW (by rfl) T.KW Iy (aa (ip (by rfl) T.Nt) ag)) (aS (by rfl) T.QA)) (aG _),B.r,_,dr,_,_,Go,er,T.Gx,T.Ji,Go,B.fn,ff,Go,f1,a.HA,dy,Go,kF,_,_,Go,Go,Go,_,Go,?_];rw[cj];rw[05]
 .have e:(ff.length:Int)=3+6:=Gj e
  exact bB (wL (Z:=Z) (i:=7) Y (aS (by rfl) T.Ru) R (yl n1 n2 (by lia)))
 have n0:nf≠0:=λz=>Gw e (by show(ff.length:Int)=3+6;lia)
 have R:=R.at.as (Bo n1 n2 n0);generalize hl:t.length=l at R lL hF hc hf;subst ex;refine iU (Z:=Z.at l) Y Dr R λH t R=>?_
 refine tJ (Z:=Z.at l) 1 Y R λu H t lit VE ft R=>?_;refine cJ (Z:=Z.at l) Y yP R λH t R=>?_;refine my (Z:=Z.at l) 2 Y R λLs H N R=>?_;have R:=(R.less N).and (e:=(.ps [], .ref Ls)) #[Ls,Go,N.nm,R.Rc];have l5:t.length+1<=l:=R.l;refine gi (λσ' H'=> ∃(ps:Fx Fy) (v:V) (t:FD),σ'=[FB (.ref B.r),FB (.str (sb u)),FB v,FM,FM]/\ps.length<=6/\ps.Nodup/\(∀x∈ps,x∉Kn.values)/\RS (Z.at l) ((.ps ps,v)::F) FS H' t #[ps.reverse++Kn.values,Kn.funs] (Gz ")">>=λ_=>j4 fu nf Kn Ds g u ps)) ?_ ?_
 .rintro σ H ⟨ps,v,t,rfl,p6,pnd,pfr,R⟩
  refine cJ (Z:=Z.at l) Y wj R λH t R=>?_;have R:=R.UJ (K2:= { Kn with values:=ps++Kn.values }) (λv=>by
   rw[HB,GN,GN,Gr,Gr,Kp]) (by
   show(ps++Kn.values).length=(ps.reverse++Kn.values).length
   rw[Gb,Gb,Hc]) Go
  refine nW (Z:=Z.at l) 3 Y #[G,hr,T.Yx.c,Go] R hF λe v3 H t R=>?_;obtain⟨Lp,rfl,nLp,hLp⟩:b9 (eV B) H (gI ps) v:=R.f (i:=1) Go;refine ki 4 Y.lv Y.nd (pv 2) [05] (λi σ H=> ∃y:FP V,σ=[FB (.ref B.r),FB (.str (sb u)),FB (.ref Lp),FB v3,y]/\RS (Z.at l) ((.e e,v3)::(.ps ps, .ref Lp)::F) FS H t { Kn with values:=ps.drop i++Kn.values } (g (.func u ps e,{ Kn with funs:=(u,ps.length)::Kn.funs },nf-1,Ds))) #[FM,Go,R] (λ_ _ _ _ ⟨_,_,R⟩=>b9.is (R.f (i:=1) Go)) ?_ ?_
  .rintro i y σ H hi ⟨y0,rfl,R⟩
   unfold gI at hi;rw[GR] at hi;obtain⟨x,hx,rfl⟩:=GH.mp hi;obtain⟨h1,h2,h3⟩:=uT hx pnd pfr;exact nv (Z:=Z.at l) (K2:= { Kn with values:=ps.drop (i+1)++Kn.values }) Y (pv 4) [05] R h1 Go h2 h3 λH R=>cg #[_,Go,R]
  .rintro σ H ⟨y0,rfl,R⟩
   have sl:(gI ps).length=ps.length:=FT ..;rw[sl,Q9] at R
   have R:RS (Z.at l) _ FS H t Kn _:=R;rw[00];rw[02];obtain⟨gg,g1,_⟩:=S.kn.funs
   have gl:=S.kn.fl g1;refine aT (ie (dv hr) [09] (pv 1) (br bP (by rfl) T.KW Iy (aa (pv 2) ag)) Go) #[_,_,Go, .inl (cD.of (b9.is (R.f (i:=1) Go))),B.r,_,dr,_,_,Go,er,T.Gx,T.Ji,Go,B.fn,_,Go, .inl #[gg,nk u,g1,Go,GF (show gg.length<=9 by lia) [01],Go],?_]
   have R:=R.ID (x:=u) (c:=(gI ps).length) ft g1;rw[sl] at R ⊢;refine ig (Z:=Z.at l) Y (abG T) (aa (pv 1) (aa (pv 2) (aa (pv 3) ag))) [05] R Go λw H i R=>?_
   have l9:t.length+1<=l:=R.l
   have R:=RS.back (Z:=Z) lL R;refine q (.func u ps e,{ Kn with funs:=(u,ps.length)::Kn.funs },nf-1,Ds) w H t B.ds.c B.bl.p B.bl.c hB (by lia) (by show Kn.funs.length+1+(nf-1)=9;lia) hN ((R.cut 2).and ?_);exact#[.ref Lp,v3,i,R.f (i:=1) Go,R.f (i:=0) Go]
 .refine jw (du (iO (Z:=Z.at l) Y R rG λnb=>#[_,Go,?_]))
  rw[cT R.tok wj];cases hs:(F3 t == JB (Fz ")")) with
  |true=>exact bG #[[], .ref Ls,t,Go,Gn _,Ni,(λ_ z=>nomatch z),R.as (BZ hs)]
  |false=>exact b8 (aO 2 Y.nd #[_,aF (ajr T XC) (hr.mono hk) (by rfl) T.aaw.c Y.up (aa Y.rd (aa (pv 1) ag)),B,l,H0,Ro,F,FS,t,Kn,u,fu,_,Go,lit,VE,by lia,(R.as (zy hs)).cut 1,λps v H t p6 pnd pfr R=>cg #[ps,v,t,Go,p6,pnd,pfr,R]])
def EU:c7 "desk" (Fz "desk"):=[007]
def gJ {α:Type}{o:FP α}{x:α}(h1:o=FM) (h2:o=FB x):False:=nomatch h1.symm.trans h2
def Zq {b:GP}(h:b=Gc): ¬b=FS:=λz=>FA (h.symm.trans z)
abbrev Rb.nb (B:Rb) (nb:FG):Rb:= { B with bl:=#[nb,[],B.bl.x] }
abbrev Rb.dk (B:Rb) (c:Fx (be×V)):Rb:= { B with ds:=#[B.ds.p,c,B.ds.x] }
def fz.aca {a:bi}{H:Hp}{B:Rb}{n:FX}{t:FD}{Kn:FH}{nb:FG}(S:fz a B H n t Kn) (VF:H nb=FM) {dr:FG}(er:H B.r=FB (.ins a.GY dr (rO B.q B.kd B.fn B.ds.p B.bl.p n))):
  fz a (B.nb nb) (aI (aI H nb (.dK [])) B.r (.ins a.GY dr (rO B.q B.kd B.fn B.ds.p nb n))) n t Kn/\dg (eV B) H (aI (aI H nb (.dK [])) B.r (.ins a.GY dr (rO B.q B.kd B.fn B.ds.p nb n))):=by
 obtain⟨as,all,h1,h2,h3⟩:=S.rd.toks;obtain⟨kk,k1,k2,k3⟩:=S.kn.vals;obtain⟨ff,f1,f2⟩:=S.kn.funs;have hy:=S.TF;obtain⟨d1,d2,d3,d4,d5,d6⟩:=S.QB;have old: ∀ {b:FG}{o:HO},H b=FB o->b≠B.r->aI (aI H nb (.dK [])) B.r (.ins a.GY dr (rO B.q B.kd B.fn B.ds.p nb n)) b=FB o:=λe w=>by
  rw[ac w,ac (aj e VF)];exact e
 have nir: ∀ {b:FG}{o:HO},H b=FB o->(∀C dx fs,o≠ .ins C dx fs)->b≠B.r:=λe no w=>by
  rw[w,er] at e;exact no _ _ _ (F4 e).symm
 have nbr:nb≠B.r:=(aj er VF).symm
 have am6: ∀ {b:FG}{x:Ha×GS},fO a.JF H b x->b≠B.r:=λ{b x} ⟨dx,ex⟩ w=>by
  rw[w,er] at ex;have:=GO (λo:HO=>match o with| .ins _ _ fs=>fs.length|_=>0) (F4 ex)
  exact F6 this (by show¬(6=4);decide)
 refine#[#[#[#[dr,ae],as,all,old h1 (nir h1 λ_ _ _ z=>nomatch z),Paired.NV h2 λb x h=>?_,h3],S.wh,#[#[kk,old k1 (nir k1 λ_ _ _ z=>nomatch z),k2,k3],#[ff,old f1 (nir f1 λ_ _ _ z=>nomatch z),f2],S.kn.len,#[ff,old f1 (nir f1 λ_ _ _ z=>nomatch z),S.kn.fl f1]],old hy (nir hy λ_ _ _ z=>nomatch z),by show aI (aI H nb (.dK [])) B.r _ nb=FB (.dK []);rw[ac nbr];exact ae,#[d1,d2,aj k1 VF,d4,aj f1 VF,aj hy VF],λb xs h=>?_],λb o e m=>old e λz=>m (.inl z)]
 .have w:=am6 h
  obtain⟨dx,ex⟩:=h;exact#[dx,old ex w]
 .have e2:=S.fr b xs h
  exact old e2 (nir e2 λ_ _ _ z=>nomatch z)
def tD {q kd fn ds bl nb:FG}{n:FX} :ID "blocks" (.ref nb) (rO q kd fn ds bl n)=rO q kd fn ds nb n:=by
 unfold rO;simp only[ID]
 rfl
def fz.putD {a:bi}{H:Hp}{B:Rb}{n:FX}{t:FD}{Kn:FH}(S:fz a B H n t Kn):fz a (B.dk c) (aI H B.ds.p (.dK c)) n t Kn:=by
 rw[02];obtain⟨as,all,h1,h2,h3⟩:=S.rd.toks;obtain⟨kk,k1,k2,k3⟩:=S.kn.vals;obtain⟨ff,f1,f2⟩:=S.kn.funs;have hy:=S.S7;have e:=S.TF;obtain⟨d1,d2,d3,d4,d5,d6⟩:=S.QB;have nr:B.r≠B.ds.p:=λw=>by rw[w,e] at er;cases er
 have nq:B.q≠B.ds.p:=λw=>by rw[w,e] at h1;cases h1
 refine#[#[#[dr,(by show aI H B.ds.p (.dK c) B.r=_;rw[ac nr];exact er)],as,all,(by show aI H B.ds.p (.dK c) B.q=_;rw[ac nq];exact h1),Paired.NV h2 λb x ⟨dx,ex⟩=>#[dx,?_],h3],S.wh,#[#[kk,(by show aI H B.ds.p (.dK c) B.kd=_;rw[ac d2];exact k1),k2,k3],#[ff,(by show aI H B.ds.p (.dK c) B.fn=_;rw[ac d4];exact f1),f2],S.kn.len,#[ff,(by show aI H B.ds.p (.dK c) B.fn=_;rw[ac d4];exact f1),S.kn.fl f1]],ae,(by show aI H B.ds.p (.dK c) B.bl.p=_;rw[ac d6.symm];exact hy),S.QB,λb xs h=>?_]
 .rw[ac λw=>by rw[w,e] at ex;cases ex]
  exact ex
 .have e2:=S.fr b xs h
  rw[ac λw=>by rw[w,e] at e2;cases e2];exact e2
section
variable {β:Type}{H H0:Hp}{p:FQ β}{E:XK}{Ro:β->FD->Prop}
theorem RS.putD (R:RS #[a,E,B,L,H0,Ro] F b H t Kn p):RS #[a,E,B.dk c,L,H0,Ro] F b (aI H B.ds.p (.dK c)) t Kn p:=by
 rw[00];have k:dg (eV B) H (aI H B.ds.p (.dK c)):=eY (.inr (.inr (.inr (.inl Go))));exact#[#[n,S.putD],R.k.trans k,λe=>jr.Iv k.two (R.f e),R.l,R.w]
theorem RS.aca {n:FX}{nb dr:FG}(R:RS #[a,E,B,L,H0,Ro] F b H t Kn p) (hN:DQ B H0) (S:fz a B H n t Kn) (VF:H nb=FM) (er:H B.r=FB (.ins a.GY dr (rO B.q B.kd B.fn B.ds.p B.bl.p n))):
  DQ (B.nb nb) H0/\RS #[a,E,B.nb nb,L,H0,Ro] F b (aI (aI H nb (.dK [])) B.r (.ins a.GY dr (rO B.q B.kd B.fn B.ds.p nb n))) t Kn p:=by
 obtain⟨S',k⟩:=S.aca VF er;have m: ∀ {b},eV (B.nb nb) b->eV B b\/b=nb:=λ{b} z=>by
  rcases z with z|z|z|z|z|z
  .exact .inl (.inl z)
  .exact .inl (.inr (.inl z))
  .exact .inl (.inr (.inr (.inl z)))
  .exact .inl (.inr (.inr (.inr (.inl z))))
  .exact .inr z
  .exact .inl (.inr (.inr (.inr (.inr (.inr z)))))
 have h0:H0 nb=FM:=by
  cases e:H0 nb with
  |none=>rfl
  |some o=>
   have:=R.k nb o e λz=>by rw[hN nb z] at e;cases e
   rw[VF] at this;cases this
 have N':DQ (B.nb nb) H0:=λb z=>(m z).elim (hN b) λz=>by rw[z];exact h0
 refine#[N',#[n,S'],λb o e _=>?_,λe=>jr.Iv (λb o e w=>#[λz=>(m z).elim w (λz=>gJ (by rw[z];exact VF) e),k b o e w]) (R.f e),R.l,R.w.mono (λ_ _ z=>z) λ_ _ z H' k'=>z H' λb o e _=>k' b o e λz=>gJ (N' b z) e];have w: ¬eV B b:=λz=>gJ (hN b z) e
 exact k b o (R.k b o e w) w
end
section
variable {K:FH}{β:Type}{g:g7->FQ β}
def yk (h1:FR t "const"=Gc) (h2:FR t "fun"=Gc):(iz k K n D>>=g) t=(HK "desk">>=λ_=>eJ D>>=λx=>Gz "{">>=λ_=>Kx k 6 K []>>=λl=>g (.desk x l.1,K,n,x::D)) t:=by
 have c1: ¬FR t "const"=FS:=by rw[h1];exact FA
 have c2: ¬FR t "fun"=FS:=by rw[h2];exact FA
 cases hd:FR t "desk" with
 |true=>
  rw[aW (show iz k K n D t=(G7>>=λ_=>AN k K n D:FQ g7) t by unfold iz;rw[FF c1,FF c2,FI hd])];refine Eq.trans ?_ (bL (p:=HK "desk") (x:=()) (r:=t.drop 1) (by unfold HK;rw[FI hd])).symm;unfold AN;simp only[bind_assoc,pure_bind]
  rfl
 |false=>
  have c3: ¬FR t "desk"=FS:=by rw[hd];exact FA
  refine(aW (q:=(F8 2:FQ g7)) (by unfold iz;rw[FF c1,FF c2,FF c3])).trans ?_;exact((eX t).trans (eX t).symm).trans (aW (p:=HK "desk") (q:=(F8 2:FQ Nc)) (by unfold HK;rw[FF c3])).symm
def um (nb:x≠ .bad) (en:cR x=Gc):eJ D ((x,xp)::t)=F8 2 ((x,xp)::t):=by
 cases x with
 |word u=>
  rw[dC] at en;have SM:G6.contains u=FS:=by cases h:G6.contains u;rw[h] at en;cases en;rfl
  unfold eJ;rw[cW,FI SM]
  rfl
 |num m=>rfl
 |sign s=>rfl
 |eof=>rfl
 |bad=>exact F6 Go nb
def ml (SM:G6.contains u=Gc):eJ D ((.word u,xp)::t)=if D.contains u=FS then F8 4 ((.word u,xp)::t) else .ok (u,t):=by
 unfold eJ;rw[cW,FF (by rw[SM];exact FA)]
end
def ajt (T:aV K mg a) (XC:XT K a) (hk:8<=k)
  (G:T.Xa.O P w base k (kP a 7)):
  T.XE.O P w base (k+1) (pf a λt=>FR t "const"=Gc/\FR t "fun"=Gc):=by
 refine E8 T XC hk T.XE.F ahV λHn A outer s H β B L H0 Ro F b t Kn nf Ds fu g Q E hr ho hf hB hc hn hN=>?_;intro X D Z Y R q;have lL:=R.lL;have hm:Kn.values.length+t.length<=4000:=R.room;have R:=R.at.as (yk ho.1 ho.2);generalize hl:t.length=l at R lL hc hf hm;refine ld (Z:=Z.at l) Y EU R λH t R=>?_;have l1:t.length+1<=l:=R.l;rw[00];refine aO 1 Y.nd (xW (Z:=Z.at l) Y R (λ_=>rfl) T.Mz S.TF (mt Ds).bind (λnb en=>?_) (λu e1 hk hu=>?_) λu xp r e1 hk hu=>#[Gz "{">>=λ_=>Kx fu 6 Kn []>>=λl=>g (.desk u l.1,Kn,nf,u::Ds),(bL (x:=u) (r:=r) ((ml hk).trans (FF (Zq ((hB u).symm.trans hu))))).trans Go,λH R=>?_])
 .obtain⟨⟨x,xp⟩,r,rfl⟩:=R.cons
  exact(aW (q:=F8 2) (um nb en)).trans (eX _)
 .obtain⟨⟨x,xp⟩,r,rfl⟩:=R.cons
  obtain rfl:x= .word u:=e1;exact(aW (q:=F8 4) ((ml hk).trans (FI ((hB u).symm.trans hu)))).trans (eX _)
 rw[e1,FW] at l1;rw[00];rw[02];refine aT (ie (dv hr) [09] (pv 1) uI Go) #[B.r,_,dr,_,_,Go,er,T.Gx,T.Mz,Go,B.ds.p,_,Go, .inl #[B.ds.c,nk u,S.TF,Go,GF (show B.ds.c.length<=4000 by lia) [01],Go],?_];have hD: ∀v,has (dB B.ds.c (nk u) (.bl FS)) v=(u::Ds).contains v:=λv=>by
  rw[rH,GZ,hB v]
  congr 1
  rw[HB,GB,beq_iff_eq]
 have hDl:=cG B.ds.c (nk u) (.bl FS)
 have R:=R.putD (c:=dB B.ds.c (nk u) (.bl FS));generalize dB B.ds.c (nk u) (.bl FS)=c3 at R hD hDl ⊢;generalize aI H B.ds.p (.dK c3)=H at R ⊢;rw[00];rw[02];refine aT (b5 (pv 0) fh Go) λnb VF=>#[B.r,_,dr,_,Go,(by rw[ac λz=>by rw[<-z,er] at VF;cases VF];exact er),T.Gx,T.Ki,(by show 6<1000;decide),?_]
 rw[tD];obtain⟨hN,R⟩:=R.aca hN S VF er;refine aN (jU Y (Es T) (aP (bA 1 (aP #[_,Y.call2 #[G,hr,T.Xa.c,Go] ak [01] Go,(B.dk c3).nb nb,l,H0,Ro,F,_,r,Kn,[],0,fu,_,Go,Gn _,by decide,by lia,(λv=>rfl),(by show 0+r.length<=4000;lia),R,λx v H t c' hB' Xb R=>cH (R.new Go λw H i R=>?_)]))));have l9:t.length+1<=l:=R.l;have R:=RS.back (Z:=#[a,E,B.tp c3 nb c',L,H0,Ro]) lL R;obtain⟨us,la,sa⟩:oV a (eV (B.tp c3 nb c')) H x.1 v:=R.f (i:=0) Go;exact q (.desk u x.1,Kn,nf,u::Ds) w H t c3 nb c' hD (by lia) hn hN ((R.cut 1).and #[v,us,i,la,sa])
def aju (T:aV K mg a) (XC:XT K a) (hk:8<=k)
  (G1:T.XB.O P w base k (pf a λt=>FR t "const"=FS))
  (G2:T.XD.O P w base k (pf a λt=>FR t "const"=Gc/\FR t "fun"=FS))
  (G3:T.XE.O P w base k (pf a λt=>FR t "const"=Gc/\FR t "fun"=Gc)):
  T.Xz.O P w base (k+1) (pf a λ_=>True):=by
 refine E8 T XC hk T.Xz.F ahQ λHn A outer s H β B L H0 Ro F b t Kn nf Ds fu g Q E hr ho hf hB hc hn hN=>?_;intro X D Z Y R q;refine bI (du (iO (Z:=Z) Y R (l8 _ _ _ _).bind λnb=>#[_,Go,?_]));rw[ca R.tok tE];refine aQ (λe1=>aN (e7 Y #[G1,hr,T.XB.c,Go] #[B,L,H0,Ro,F,b,t,Kn,nf,Ds,fu,g,Go,e1,hf,hB,hc,hn,hN,R,q])) λe1=>?_;refine bI (du (iO (Z:=Z) Y R (l8 _ _ _ _).bind λnb=>#[_,Go,?_]));rw[ca R.tok Dr];refine aQ (λe2=>aN (e7 Y #[G2,hr,T.XD.c,Go] #[B,L,H0,Ro,F,b,t,Kn,nf,Ds,fu,g,Go,#[e1,e2],hf,hB,hc,hn,hN,R,q])) λe2=>?_;exact aN (e7 Y #[G3,hr,T.XE.c,Go] #[B,L,H0,Ro,F,b,t,Kn,nf,Ds,fu,g,Go,#[e1,e2],hf,hB,hc,hn,hN,R,q])
section
open Vbemac (tokens)
def vW (u:Fy):bQ dy (nk u)=(Jw.funs.find? λf=>f.1 == u).map λf=>V.int (f.2:FX):=by
 have h1:(IF "min":be)=nk (Fz "min"):=by show(IF "min":be)=IF (sb (Fz "min"));congr 1
 have h2:(IF "max":be)=nk (Fz "max"):=by show(IF "max":be)=IF (sb (Fz "max"));congr 1
 have h3:(IF "abs":be)=nk (Fz "abs"):=by show(IF "abs":be)=IF (sb (Fz "abs"));congr 1
 unfold dy Jw LR;rw[h1,h2,h3];have ne: ∀ {v:Fy},¬v=u-> ¬nk v=nk u:=λh z=>h (eD (J1 z))
 have st: ∀(v:Fy) (x:V) (r:Fx (be×V)),bQ ((nk v,x)::r) (nk u)=if v=u then FB x else bQ r (nk u):=λv x r=>by
  by_cases e:v=u
  .rw[FI e];exact ci (by rw[e])
  .rw[FF e];exact b7 (ne e)
 rw[st,st,st,HC,HC,HC];dsimp only;by_cases e1:Fz "min"=u
 .rw[FI e1,show(Fz "min" == u)=FS from beq_iff_eq.mpr e1];rfl
 .rw[FF e1,show(Fz "min" == u)=Gc from beq_eq_false_iff_ne.mpr e1]
  dsimp only;by_cases e2:Fz "max"=u
  .rw[FI e2,show(Fz "max" == u)=FS from beq_iff_eq.mpr e2];rfl
  .rw[FF e2,show(Fz "max" == u)=Gc from beq_eq_false_iff_ne.mpr e2]
   dsimp only;by_cases e3:Fz "abs"=u
   .rw[FI e3,show(Fz "abs" == u)=FS from beq_iff_eq.mpr e3];rfl
   .rw[FF e3,show(Fz "abs" == u)=Gc from beq_eq_false_iff_ne.mpr e3];rfl
abbrev F0:FG->Fx V->Prop:=λ_ _=>False
def abC.st {a:bi}{H H':Hp}(N:abC a H H' r dr q kd fn ds bl) (hq:H q=FB (.lst (as.map V.ref))) (nq:q≠r) (tk:Paired (fO a.JF H) as (tokens bs)) (nt: ∀b∈as,b≠r) (hl:bs.length<=3000):
  fz a #[r,q,kd,fn,#[ds,[],F0],#[bl,[],F0]] H' 0 (tokens bs) Jw:=by
 have len:(tokens bs).length<=4000:=by
  have:=dU (bs.length+1) (1,1) bs;unfold tokens;lia
 refine#[#[#[dr,N.ins],as,tokens bs,N.kept _ _ hq nq,?_,Go],fM _ _ _,#[#[[],N.kd1,F5 _,λu=>rfl],#[dy,N.fn1,vW],by show 0+(tokens bs).length<=4000;lia,#[dy,N.fn1,Go]],N.ds1,N.bl1,#[N.QB.1,N.QB.2.1,N.QB.2.2.1,N.QB.2.2.2.1,N.QB.2.2.2.2.1,N.QB.2.2.2.2.2],λ_ _ z=>z.elim];clear len hq;revert nt;generalize tokens bs=ts at tk ⊢
 induction tk with
 |nil=>exact λ_=> .nil
 |cons h t ih=>exact λnt=> .cons (by obtain⟨dx,e⟩:=h;exact#[dx,N.kept _ _ e (nt _ (FL ..))]) (ih λb hb=>nt b (FK _ hb))
end
abbrev Ef (a:bi) (M:FG->Prop) (H:Hp) (ss:Fx HI) (us:Fx V):Prop:=Paired (λs v=>fb a M H s v) ss us
inductive kK (K:FC) (a:bi) (vs:Fx V) (H:Hp) (Q:VK) (E:XK):Prop
 |mk (l:FG) (bs:Fy) (_:vs=[.ref l]) (_:cD K H l (jX bs)) (_:bs.length<=3000) (_:W (Ku (Mu (Hr bs)) Jw NA []) (Hr bs) (λss _=> ∀H' (L:FG) (us:Fx V) (M:FG->Prop),aU H H'->H L=FM-> ¬M L->H' L=FB (.lst us)->Ef a M H' ss us->Q (.ref L) H') (λk x=> ∀H',aU H H'->nF a.Im E H' k x)):kK K a vs H Q E
def Et {k n:FX}{K:FH}{β:Type}{g:JK->FQ β}(h0:F3 t≠ .eof):(Ku (k+1) K n D>>=g) t=(iz k K n D>>=λx=>Ku k x.2.1 x.2.2.1 x.2.2.2>>=λl=>g (x.1::l)) t:=by
 have e:Ku (k+1) K n D t=(iz k K n D>>=λx=>Ku k x.2.1 x.2.2.1 x.2.2.2>>=λl=>pure (x.1::l):FQ JK) t:=by
  cases h1:FR t "const" with
  |true=>
   rw[vA h0 h1,sG h1];simp only[dS,bind_assoc,pure_bind]
  |false=>
   cases h2:FR t "fun" with
   |true=>
    by_cases hn:n=0
    .rw[yV h0 h1 h2 hn,yl h1 h2 hn]
    .rw[Bv h0 h1 h2 hn,Bo h1 h2 hn]
     unfold md;simp only[j4,dS,bind_assoc,pure_bind]
     rfl
   |false=>
    rw[yk h1 h2];cases h3:FR t "desk" with
    |true=>
     rw[Ae h0 h1 h2 h3];refine Eq.trans ?_ (bL (p:=HK "desk") (x:=()) (r:=t.drop 1) (by unfold HK;rw[FI h3])).symm
     rfl
    |false=>
     rw[yu h0 h1 h2 h3];exact((aW (p:=HK "desk") (q:=(F8 2:FQ Nc)) (by unfold HK;rw[FF (Zq h3)])).trans (eX t)).symm
 rw[aW e];simp only[bind_assoc,pure_bind]
abbrev fkT (ps:Fx (HI×V)):Fx (Fk×V):=ps.map λx=>(Fk.top x.1,x.2)
theorem wU {a:bi}{M:FG->Prop}{H:Hp}{l:Fx HI}{ws:Fx V}(hl:Ef a M H l ws): ∀ {ps:Fx (HI×V)},(∀ {i:FX}{x:Fk×V},(fkT ps)[i]?=FB x->jr a M H x)->Ef a M H ((ps.map λx:HI×V=>x.1).reverse++l) ((ps.map λx:HI×V=>x.2).reverse++ws)
 |[],_=>hl
 | (e,v)::ps,h=>by
  rw[Ge,Ge,Hh,Hh,G9,G9];exact wU (.cons (h (i:=0) Go) hl) λ{i x} q=>h (i:=i+1) q
inductive ShI (a:bi) (E:XK) (B:Rb) (H0:Hp) (Ro:JK->FD->Prop) (Ls:FG) (l:FX) (σ0:L2.St) (m:FX) (σ:L2.St) (H:Hp):Prop
 |mk (ps:Fx (HI×V)) (K1:FH) (nf:FX) (D:Fx Fy) (dc:Fx (be×V)) (bp:FG) (bc:Fx (be×V)) (t:FD) (f:FX) (_:m=t.length) (_:σ=σ0) (_:ps.length+t.length<=l) (_: ∀u,has dc u=D.contains u) (_:dc.length+t.length<=4000) (_:K1.funs.length+nf=9) (_:16*t.length+1<=f) (_:DQ (B.tp dc bp bc) H0)
  (_:wB #[a,E,B.tp dc bp bc,l,H0,Ro] Ls) (_:RS (Zf.mo #[a,E,B.tp dc bp bc,l,H0,Ro] Ls (ps.map λx:HI×V=>x.2).reverse) (fkT ps) Gc H t K1 (Ku f K1 nf D>>=λx=>pure ((ps.map λx:HI×V=>x.1).reverse++x))):ShI a E B H0 Ro Ls l σ0 m σ H
def am7 (T:aV K mg a) (XC:XT K a) (kS:Ao P w K a.Kv dY) (kF:DM P w K a.HA dy) (hk:8<=k)
  (G:T.Xz.O P w base k (pf a λ_=>True)):
  T.d_k.O P w base (k+1) (kK K a):=by
 have G1:=nQ (P:=P) (w:=w) (base:=base) T kF
 have G2:=ams (P:=P) (w:=w) (base:=base) T kS
 have G3:=yX (P:=P) (w:=w) (base:=base) T XC;refine fW T.d_k.F abp (λvs H Q E h=>?_) [02]
 .obtain⟨l,bs,rfl,_⟩:=h
  rfl
 obtain⟨l,bs,rfl,hS,hl,hW⟩:=h;refine aO 1 abp.nd #[_,h9 T.Vy G1 [017] (by rfl) T.Vt T.aam.c.b .nil aR (aa (aF G2 [017] (by rfl) T.d_j.c aR (aa (pv 0) ag)) ag),l,bs,Go,hS,hl,λH1 q as s1 hq0 hq1 tk=>?_];intro r dr hr0 hdr ne;refine#[r,dr,q,Go,ae,λH2 kd fn ds bl N=>#[Go,?_]];have qr:q≠r:=(aj hq1 hr0);have up1: ∀ {b:FG}{o:HO},H1 b=FB o->aI (aI H1 dr (.own r)) r (.ins a.GY dr []) b=FB o:=λe=>by
  rw[ac (aj e hr0),ac (aj e hdr)];exact e
 have ajv: ∀ {as:Fx FG}{ts:FD},Paired (fO a.JF H1) as ts-> ∀b∈as,b≠r:=λtk=>by
  induction tk with
  |nil=>exact λb hb=>nomatch hb
  |cons h t ih=>
   intro b hb;rcases FU.mp hb with hb|hb
   .obtain⟨dx,e⟩:=h
    rw[hb];exact aj e hr0
   .exact ih b hb
 have S2:=N.st (up1 hq1) qr (Paired.NV tk λb x ⟨dx,e⟩=>#[dx,up1 e]) (ajv tk) hl
 have s02:aU H H2:=λb o e=>N.kept b o (up1 (s1 b o e)) (aj (s1 b o e) hr0)
 have upn: ∀ {b:FG},aI (aI H1 dr (.own r)) r (.ins a.GY dr []) b=FM->H b=FM:=λ{b} e=>by
  cases z:H b with
  |none=>rfl
  |some o=>rw[up1 (s1 b o z)] at e;cases e
 have hN:DQ ⟨r,q,kd,fn,⟨ds,[],F0⟩,⟨bl,[],F0⟩⟩ H:=λb z=>by
  rcases z with z|z|z|z|z|⟨_,z⟩
  .rw[z]
   cases e:H r with
   |none=>rfl
   |some o=>exact(gJ hr0 (s1 r o e)).elim
  .rw[z];exact upn N.kd0
  .rw[z];exact upn N.fn0
  .rw[z];exact upn N.ds0
  .rw[z];exact upn N.bl0
  .exact z.elim
 clear N ajv up1 upn;have tl:(Hr bs).length<=3002:=by
  have:=dU (bs.length+1) (1,1) bs;unfold Hr;lia
 generalize hRo:(λ(ss:JK) (_:FD)=> ∀H' (L:FG) (us:Fx V) (M:FG->Prop),aU H H'->H L=FM-> ¬M L->H' L=FB (.lst us)->Ef a M H' ss us->Q (.ref L) H')=Ro at hW;generalize hB:(#[r,q,kd,fn,#[ds,[],F0],#[bl,[],F0]]:Rb)=B at S2 hN;have Br:B.r=r:=by rw[<-hB]
 have same: ∀ {dc bp bc} {H':Hp},DQ (B.tp dc bp bc) H->dg (eV (B.tp dc bp bc)) H H'->aU H H':=λn k b o e=>k b o e λz=>gJ (n b z) e
 have R:RS ⟨a,E,B,(Hr bs).length,H,Ro⟩ (fkT []) Gc H2 (Hr bs) Jw (Ku (Mu (Hr bs)) Jw NA []>>=λx=>pure ([]++x)):=#[#[_,S2],λb o e _=>s02 b o e,(λe=>nomatch e),F5 _,by
  rw[jM];exact hW.mono (λ_ _ z=>z) λ_ _ z H' k'=>z H' λb o e=>k' b o e λz=>gJ (hN b z) e]
 rw[<-Br];refine aO 2 abp.nd (mE λLs hL=>?_);have hx: ∀b zs,¬B.bl.x b zs:=λb zs=>by rw[<-hB];exact λz=>z
 have hdc:B.ds.c=[]:=by rw[<-hB]
 refine fZ Jz (ShI a E B H Ro Ls (Hr bs).length [FB (.ref l),FB (.ref B.r),FB (.ref Ls)]) _ #[[],Jw,NA,[],B.ds.c,B.bl.p,B.bl.c,Hr bs,Mu (Hr bs),Go,Go,by show 0+_<=_;lia,(λ_=>by rw[hdc];rfl),by rw[hdc];show 0+_<=_;lia,Go,by unfold Mu;lia,hN,R.nwl hL,R.more hL] ?_;rintro mm σ H4 ⟨ps,K1,nf,D,dc,bp,bc,t,f,rfl,rfl,ul,hD,hDl,hn,hf,hN',N,R⟩;rw[03];obtain⟨n4,S⟩:=R.S;obtain⟨⟨x,xp⟩,t5,rfl,tok,RB,Ng,_⟩:=S.wh.first;obtain⟨dr4,er4⟩:=S.rd.ins;refine#[_,k6 (de (bV (pv 1) T.Gx T.aan.c G3 [017] aA)),B.r,dr4,_,Go,er4,Go,B.r,B.q,B.kd,B.fn,B.ds.p,bp,n4,(x,xp),t5,Go,S.rd,(λb=>(sR _ _ _ _).bind.Me (RB.trans b) R.w H4 R.k),λnb=>#[_,Go,?_]];have len:((ps.map λx:HI×V=>x.2).reverse:Fx V).length=ps.length:=by rw[Hc,FT]
 cases he:CY x with
 |true=>
  have ex:x= .eof:=by cases x<;>first|rfl|cases he
  subst ex;refine bG (aN (bA 2 ?_));have w:=(R.as (p':=pure ((ps.map λx:HI×V=>x.1).reverse++[])) ((bL (Dt Go)).trans Go)).w
  have w:Ro ((ps.map λx:HI×V=>x.1).reverse++[]) ((.eof,xp)::t5):=w
  rw[<-hRo] at w;refine w H4 Ls _ (eV (B.tp dc bp bc)) (same hN' (R.less N).k) N.n0 N.nm R.Rc ?_;rw[<-Hj (ps.map λx:HI×V=>x.2).reverse];exact wU .nil λe=>(R.less N).f e
 |false=>
  have ne:F3 ((x,xp)::t5)≠ .eof:=λz=>by
   have z:x= .eof:=z;rw[z] at he;cases he
  refine b8 (oQ (β:=JK) R.Rc (pv 2) [05] #[_,aF G hr (by rfl) T.Xz.c aA (aa (pv 1) ag),(B.tp dc bp bc).more Ls (ps.map λx:HI×V=>x.2).reverse,((x,xp)::t5).length,H,Ro,fkT ps,Gc,(x,xp)::t5,K1,nf,D,f,_,Go,HD,by lia,hD,hDl,hn,λb z=>(df z).elim (λz=>by rw[z];exact N.n0) (hN' b),R.at.as (Et ne),λy v H' t' dc' bp' bc' Qn am8 YE hN2 R2=>?_]);have l2:t'.length+1<=((x,xp)::t5).length:=R2.l;have R2:=RS.back (Z:=Zf.mo #[a,E,B.tp dc' bp' bc',(Hr bs).length,H,Ro] Ls (ps.map λx:HI×V=>x.2).reverse) (by show((x,xp)::t5).length<=(Hr bs).length;lia) R2;have N2:wB ⟨a,E,B.tp dc' bp' bc',(Hr bs).length,H,Ro⟩ Ls:=by
   refine#[N.n0,λz=>?_,N.nx,N.nq];rcases z with z|z|z|z|z|⟨zs,z⟩
   .exact N.nm (.inl z)
   .exact N.nm (.inr (.inl z))
   .exact N.nm (.inr (.inr (.inl z)))
   .exact N.nm (.inr (.inr (.inr (.inl z))))
   .obtain⟨n5,S5⟩:=R2.S
    have h1:=R2.Rc
    have h2:=S5.S7
    have z:Ls=bp':=z;rw[z] at h1;cases h1.symm.trans h2
   .exact hx _ _ z
  refine#[_,_,_,_,_,_,N2,by rw[len];exact GF (show ps.length<=4000 by lia) [01],R2,λH3 R3=>?_];refine gh #[_,l2,(y.1,v)::ps,y.2.1,y.2.2.1,y.2.2.2,dc',bp',bc',t',f,Go,Go,(by rw[FW];lia),Qn,am8,YE,(by lia),λb z=>hN2 b (cA z),N2,?_];rw[Ge,Ge,Hh,Hh];simp only[G9];exact#[R3.S,R3.k,R3.f,F7 (Kr _ _) R3.l,R3.w]
def Ci {P:Gy}{w:Hf}{K:FC}{mg:Gf->FP FE}{base:Ho}{a:bi}(T:aV K mg a) (XC:XT K a) (IL:qh K a) (KT:Ak K a.IK di) (kS:Ao P w K a.Kv dY) (kF:DM P w K a.HA dy):
  T.d_k.O P w base 178 (kK K a):=by
 have E:o4 P w K mg base a 151:=(amX T XC KT 13).1
 have Br:=yR T XC IL [01] E 7
 have Gi:=ajf T XC [01] E
 have Co:=ajp T XC [01] Gi
 have Fu:=ajs T XC kF [01] Gi
 have De:=ajt T XC [01] Br
 have To:=aju T XC [01] (Co.mono (by decide:153<=176)) (Fu.mono [01]) De;exact am7 T XC kS kF [01] To
def iR (z:Int):GP:=decide (0<=z)&&decide (z<=255)
def iZ (zs:Fx Int):GP:=decide (zs.length<=3000)&&zs.all iR
inductive sk (K:FC) (vs:Fx V) (H:Hp) (Q:VK) (_E:XK):Prop
 |mk (l:FG) (zs:Fx Int) (_:vs=[.ref l]) (_:cD K H l (gy zs)) (_:zs.length<=4000) (_: ∀H',aU H H'->Q (.bl (iZ zs)) H'):sk K vs H Q _E
def sD (h:iZ zs=Gc):ON zs=FM:=by
 unfold ON;rw[FF];intro z;have:iZ zs=FS:=z;rw[h] at this;cases this
def vr (h:iZ zs=FS): ∃bs:Fy,ON zs=FB bs/\jX bs=gy zs/\bs.length<=3000:=by
 have h0:=h;unfold iZ at h;rw[GI,GB] at h;refine#[zs.map λc=>OV c.toNat,?_,?_,by rw[FT];exact h.1]
 .unfold ON
  exact FI h0
 .unfold jX gy
  rw[J9];refine Fx.map_congr_left λz hz=>?_;have b:=Mq.mp h.2 z hz;unfold iR at b;rw[GI,GB,GB] at b;show V.int (nb (OV z.toNat))=V.int z;unfold nb
  congr 1
  rw[Jx.toNat_ofNat'];lia
def am9 (T:aV K mg a):T.d_N.U P w base 1 (sk K):=by
 refine T.d_N.F.ok abq [03] [02];obtain⟨l,zs,rfl,hS,hl,hQ⟩:=h;refine#[_,(ah (aH (jO (cf dN (br bP (by rfl) T.KW Iy (aa (pv 0) ag)) (aS (by rfl) T.Rv) (aG _)) (iK (br (aa6 Go) (by rfl) T.afU boot_all (aa (tX Go abq.nd (gt (pv 0)) (own:=[("byte",1)]) (gM (by show sE ["text","byte"] (af s_N) _ [("byte",1)]=FS;decide+kernel)) (λ_ _ _ _ _=>fL (i:=1) abq.nd Go (Hs Go)) (λ_ _ _ _ _=>mL) (λ_ _ _ _ _=>(fV dN dN ak (pv 1) ak))) ag)))))),?_];have il:(gy zs).length=zs.length:=FT ..;refine#[_,_,Go, .inl hS,_,_,Go,Go,_,Go,?_];rw[il];unfold iZ at hQ;rw[05]
 .have le:zs.length<=3000:=by have:=Gj e;lia
  rw[GL le] at hQ;refine#[l,Go,#[_,hS],λD hD=>?_];refine i9 (K:=K) (a:=l) (xs:=gy zs) (λi H'=>aU H H'/\H' D=FB (.lst (((zs.take i).map iR).map V.bl))) #[bH hD,ae] (λi H' _ z=>z.1.seq hS) ?_ ?_
  .rintro i y H' hi ⟨s1,Qn⟩
   obtain⟨z,hz,rfl⟩: ∃z,zs[i]?=FB z/\y=V.int z:=by
    unfold gy at hi;rw[GR] at hi;cases e:zs[i]? with
    |none=>rw[e] at hi;cases hi
    |some c=>rw[e] at hi;exact#[c,Go,(F4 hi).symm]
   have eS: ∀b:GP,b=iR z-> ∃acc,H' D=FB (.lst acc)/\acc.length<GD/\(aU H (aI H' D (.lst (acc++[V.bl b])))/\aI H' D (.lst (acc++[V.bl b])) D=FB (.lst (((zs.take (i+1)).map iR).map V.bl))):=λb hb=>by
    refine#[_,Qn,?_,λb' o e=>by rw[ac (aj e hD)];exact s1 b' o e,?_]
    .rw[FT,FT]
     exact GF (F7 (J7 i zs) hl) [01]
    .rw[ae,J8,hz,hb]
     show FB (HO.lst (((zs.take i).map iR).map V.bl++[V.bl (iR z)]))=FB (HO.lst (((zs.take i++[z]).map iR).map V.bl))
     rw[Hk,Hk]
     rfl
   refine#[Go,?_];unfold DC;dsimp only;rw[FI Go];refine#[_,_,Go,Go,_,Go,?_];refine aQ (λe0=>?_) λe0=>?_
   .refine#[_,_,Go,Go,eS _ ?_]
    unfold iR;rw[e0]
    rfl
   .refine eS _ ?_
    unfold iR;rw[e0]
    rfl
  .rintro H' ⟨s1,Qn⟩
   rw[il,JQ] at Qn;refine#[D,zs.map iR,Go,cD.of Qn,?_];have:=hQ H' s1;rw[Jj] at this;rw[TZ];exact this
 .have le: ¬zs.length<=3000:=by have:=Gw e;lia
  rw[Gp le] at hQ;exact hQ H λ_ _ e=>e
section
open Vbemac (expandSteps)
def acb {Qo:JK->FD->Prop}{Qe:FX->GS->Prop}(ho: ∀ss t,OO bs= .ok ss->wN [] LR ss->Qo ss t) (he: ∀e,OO bs= .error e->Qe e.1 e.2):W (Ku (Mu (Hr bs)) Jw NA []) (Hr bs) Qo Qe:=by
 unfold W;have r:OO bs=(match Ku (Mu (Hr bs)) Jw NA [] (Hr bs) with
  | .error e=> .error e
  | .ok (a,_)=> .ok a):=rfl
 cases e:Ku (Mu (Hr bs)) Jw NA [] (Hr bs) with
 |error x=>rw[e] at r;exact he x r
 |ok z=>rw[e] at r;exact ho z.1 z.2 r (mz _ Jw _ _ Go _ _ _ (lO _ _ _) e).1
def Zr (M:KJ) (bs:Fy):Except Int (JK×Fx GC×FX):=match OO bs with
 | .error _=> .error (-3)
 | .ok s=>match expandSteps M s with
  | .error c=> .error c
  | .ok (l,n)=> .ok (s,l,n)
def ajw {f:JK->Fx GC->FX->Vbemac.Ans} :Qi M bs f=(match Zr M bs with
  | .error c=>[c]
  | .ok (s,l,n)=>f s l n):=by
 unfold Qi Vbemac.withSheet Zr;cases OO bs with
 |error e=>rfl
 |ok s=>dsimp only;cases expandSteps M s<;>rfl
def Bad (K:FC) (a:bi) (E:XK) (H:Hp) (c:Int):Prop:= ∀(C d fI:FG) (fs:Fx (Gf×V)),dq K a.Hu C fI->fs.lookup ("number":Gf)=FB (.int c)->H d=FM->E (.ref C) (FB d) (aI H d (cn d fs))
def Bad.toW {K:FC}{a:bi}{E:XK}{H:Hp}(XC:XW K a) (h:Bad K a E H c):pw a E H c:=λC hC d hd=>by
 have: ∃fI,dq K a.Hu C fI:=by
  unfold xcl at hC;simp only[FU,HZ,or_false,Prod.mk.injEq] at hC;rcases hC with⟨_,rfl⟩|⟨_,rfl⟩|⟨_,rfl⟩|⟨_,rfl⟩|⟨_,rfl⟩|⟨_,rfl⟩
  .exact#[_,XC.MA]
  .exact#[_,XC.Pu]
  .exact#[_,XC.Ob]
  .exact#[_,XC.Oc]
  .exact#[_,XC.MB]
  .exact#[_,XC.Pw]
 obtain⟨fI,x⟩:=this;exact h C d fI _ x Go hd
def vo {X:Cx}{σ:L2.St}{H:Hp}{Q:VK}{e1 e2 e3:HX}{t1 t2 t3:TE}{lo x hi:Int}{p:Pos}(h1:PE X e1 t1) (h2:PE X e2 t2) (h3:PE X e3 t3) (v1: ∀Q:VK,Q (.int lo) H->t1 σ H Q) (v2: ∀Q:VK,Q (.int x) H->t2 σ H Q) (v3: ∀Q:VK,Q (.int hi) H->t3 σ H Q) (q:Q (.bl (FZ x lo hi)) H) (hm:VM [.LtE, .LtE] [e2,e3]=Gc:=by with_unfolding_all rfl):
  Pe X (.Compare e1 [.LtE, .LtE] [e2,e3] p) σ H Q:=by
 refine#[_,fV dN dN h1 h2 h3 hm,v1 _ (v2 _ #[_,_,Go,Go,_,Go,?_])];unfold FZ at q;by_cases h:lo<=x
 .rw[GL h,Jj] at q
  rw[GL h];exact b8 (v3 _ #[_,_,Go,Go,q])
 .rw[Gp h,Ip] at q
  rw[Gp h];exact bG q
def w9 {H:Hp}{Q:VK}(b c:GP) (q:Pe X e σ H λv H1=>v= .bl b/\(b=FS->Pe X (.BoolOp .And (f::es) p) σ H1 Q)/\(b=Gc->Q (.bl (b&&c)) H1)):Pe X (.BoolOp .And (e::f::es) p) σ H Q:=
 #[_,jO dA dA,q.mono λv H1 ⟨hv,h1,h2⟩=>#[b,hv,by
  cases b with
  |true=>exact b8 (h1 Go)
  |false=>exact bG (h2 Go)]]
def Zs {H:Hp}{Q:VK}(q:Pe X e σ H Q):Pe X (.BoolOp .And [e] p) σ H Q:=#[_,iK dA,q]
def kH (T:aV K mg a) (XC:XN K a):T.Z0.U P w mg base 2 (dM a.Mm (gC (-1))):=
 YZ T.Z0.F agU λHn A outer s H p Q hr q=>#[_,ah (bf (eF (by rfl) T.Ig XC.rm (bJ T XC.OJ) hr T.Wt.c.b .nil aR (aa (pv 0) (aa (dH cE ak) ag)))),_,Go,q]
inductive rY (K:FC) (a:bi) (vs:Fx V) (H:Hp) (Q:VK) (E:XK):Prop
 |mk (x:GP) (_:vs=[.bl x]) (_:x=FS->Q .Jm H) (_:x=Gc->Bad K a E H (-1)):rY K a vs H Q E
def ajx (T:aV K mg a) (XC:XN K a):T.d_e.O P w base 4 (rY K a):=by
 refine fW T.d_e.F amj [03] [02];obtain⟨x,rfl,h1,h2⟩:=h;refine bI (jw #[_,de (pv 0),?_]);cases x with
 |true=>exact#[_,Go,bG (cg (h1 Go))]
 |false=>exact#[_,Go,b8 (aT (dZ eM XC.OJ (kH T XC) (hr.mono (by decide)) (by rfl) T.PQ T.Z0.c.b) #[Gn _,_,#[Go,Go],λd hd=>h2 Go _ d _ _ XC.OJ Go hd])]
inductive wH (vs:Fx V) (H:Hp) (Q:VK) (_E:XK):Prop
 |mk (x:Int) (_:vs=[.int x]) (_:Q (.bl (Jh x)) H):wH vs H Q _E
def acd (T:aV K mg a):T.d_C.U P w base 1 wH:=by
 refine T.d_C.F.ok ami [03] [02];obtain⟨x,rfl,q⟩:=h;exact aN (vo (lo:= -Yl) (hi:=Yl) (bM cv ak (aS (by rfl) T.P9)) (pv 0) (aS (by rfl) T.P9) (λ_ q=>#[_,_,Go,Go,q]) [05] [05] q)
def vv (z t lo hi:Int):GP:=FZ z 1 6&&(FZ t 1 4&&(Jh lo&&(Jh hi&&decide (lo<=hi))))
inductive ui (vs:Fx V) (H:Hp) (Q:VK) (_E:XK):Prop
 |mk (z t lo hi:Int) (_:vs=[.int z, .int t, .int lo, .int hi]) (_:Q (.bl (vv z t lo hi)) H):ui vs H Q _E
def ajy (T:aV K mg a):T.aaB.U P w base 2 ui:=by
 refine T.aaB.F.ok YS [03] [02];obtain⟨z,t,lo,hi,rfl,q⟩:=h;unfold vv at q;have h1: ∀ {X:Cx}{σ:L2.St}{e f:HX}{p:Pos},(∀Q:VK,Q (.bl (FZ z 1 6)) H->Pe X e σ H Q)->(∀Q:VK,Q (.bl (FZ t 1 4)) H->Pe X f σ H Q)->Pe X (.BoolOp .And [e,f] p) σ H λv H'=>v= .bl (FZ z 1 6&&FZ t 1 4)/\H'=H:=λh1 h2=>w9 _ (FZ t 1 4) (h1 _ #[Go,λe=>Zs (h2 _ (by rw[e];exact#[Go,Go])),λe=>#[Go,Go]]);refine aO 4 YS.nd (Pe.mono (h1 (λQ q=>vo ak (pv 0) (aS (by rfl) T.P8) [05] [05] [05] q) λQ q=>vo ak (pv 1) (aS (by rfl) T.Ol) [05] [05] [05] q) λv H' ⟨hv,hH⟩=>?_);subst hv hH;refine aN (w9 (FZ z 1 6&&FZ t 1 4) (Jh lo&&(Jh hi&&decide (lo<=hi))) (bA 4 #[Go,λe=>?_,λe=>by rw[GP.and_assoc];exact q]))
 .rw[GI] at e
  rw[e.1,e.2,Jj,Jj] at q;refine w9 (Jh lo) (Jh hi&&decide (lo<=hi)) (bN (aP (bA 2 (cH #[lo,Go,Go,λe=>?_,λ_=>q]))) (acd T) [06] T.d_C.c aR);rw[e,Jj] at q;refine w9 (Jh hi) (decide (lo<=hi)) (bN (aP (bA 3 (cH #[hi,Go,Go,λe=>?_,λ_=>q]))) (acd T) [06] T.d_C.c aR);rw[e,Jj] at q;exact Zs #[_,cf dN (pv 2) (pv 3) (aG _),_,_,Go,Go,q]
end
inductive Db (K:FC) (a:bi) (vs:Fx V) (H:Hp) (Q:VK) (E:XK):Prop
 |mk {l:FG}{bs:Fy}{G:KJ}(_:vs=[.int G.zones, .int G.quarters, .int G.lo, .int G.hi, .ref l]) (_:G.quarters<=4) (_:cD K H l (jX bs)) (_:bs.length<=3000) (_: ∀c,Zr G bs= .error c-> ∀H',aU H H'->Bad K a E H' c) (_: ∀ss Z H' U o n,Zr G bs= .ok (ss,o,n)->Z.a=a->aU H Z.N->TS Z H' U o n (JM ss) []->Q (.ref Z.x) H'):Db K a vs H Q E
def ajz (T:aV K mg a) (XC:XN K a) (KX:mJ K a) (G_k:T.d_k.O P w base 178 (kK K a)):T.aaC.O P w base 179 (Db K a):=by
 refine fW T.aaC.F ah4 [03] [02];obtain @⟨l,bs,G,rfl,q4,sl,lb,er,q⟩:=h;refine aN (bN (aP (abP (zS T) [06] (aP (bA 0 (aP (bA 1 (aP (bA 2 (aP (bA 3 (cH #[Go,λm dm H1 hm s1 e1=>?_]))))))))))) (amJ T XC.toXW KX) [06] T.d_X.c aA);refine aP (bN (aP (bA 4 (cH #[l,bs,Go,s1.seq sl,lb,acb (λss t hr' wt=>?_) λe he=>?_]))) G_k hr T.d_k.c aA)
 .intro H2 L us M s2 _ _ hL tl
  have ex:Zr G bs=(match M0 G ss with| .error c=> .error c| .ok (l,n)=> .ok (ss,l,n)):=by unfold Zr;rw[hr']<;>rfl
  have tl':Paired (λs v=>fb a (λp=>H2 p=FM) H2 s v) ss us:=Paired.NV tl λs v h=>fb.Iv (λb o e _=>#[λz=>(by rw[z] at e;cases e),e]) s h
  refine cH (.mk Go (s2 _ _ e1) q4 hL tl' wt (λc h H' s3=>(er c (by rw[ex,h]) H' ((s1.trans s2).trans s3)).toW XC.toXW) λZ H' U o n h ha hN R=>q ss Z H' U o n (by rw[ex,h]) ha (by rw[hN];exact s1.trans s2) R)
 .intro H2 s2 d hd
  exact er (-3) (by unfold Zr;rw[he]) H2 (s1.trans s2) _ d _ _ XC.fc Go hd
def Bh (zs:Fx Int):(gy zs).length=zs.length:=FT _
def CF (x y:Fx Int):gy (x++y)=gy x++gy y:=Hk
def r6 {H H':Hp}{v:V}(s:aU H H') {o:GC}(h:fT a ol H v o):fT a ol H' v o:=by
 cases o with
 |step=>
  obtain⟨⟨u,dx,e1,m,e⟩,b⟩:=h;exact#[#[u,dx,e1,m,s _ _ e],b]
 |block=>
  obtain⟨q,n,⟨u,dx,e1,m,e⟩,h,le⟩:=h;exact#[q,n,#[u,dx,e1,m,s _ _ e],s _ _ h,le]
theorem fP {α β:Type}{F:α->β->Prop} : ∀ {l:Fx α}{m:Fx β}{i:FX}{x:α},Paired F l m->l[i]?=FB x-> ∃y,m[i]?=FB y/\F x y
 |_::_,_::_,0,_, .cons h _,e=>by cases e;exact#[_,Go,h]
 |_::_,_::_,i+1,_, .cons _ t,e=>fP (i:=i) t e
def jt:GC->GP
 | .step .. =>FS
 | .block .. =>Gc
def D9:GC->Int
 | .step _ z _ _ _ _ _=>z
 | .block _ z _ _ _ _ _=>z
def Ev:GC->Int
 | .step _ _ t _ _ _ _=>t
 | .block .. => -1
def yo:GC->Int
 | .step _ _ _ b _ _ _=>M7 b
 | .block _ _ b _ _ _ _=>M7 b
def lT:GC->Int
 | .step _ _ _ _ p _ _=>p
 | .block .. =>0
def k8:GC->Int
 | .step _ _ _ _ _ p _=>p
 | .block .. =>0
def vN:GC->Int
 | .step _ _ _ _ _ _ q=>q
 | .block .. =>0
structure ajA (K:FC) (H:Hp) (v:V) (o:GC):Prop where
 zo: ∀ {R:V->Hp->Prop},R (.int (D9 o)) H->cQ K "zone" R v H
 qu: ∀ {R:V->Hp->Prop},R (.int (Ev o)) H->cQ K "quarter" R v H
 sd: ∀ {R:V->Hp->Prop},R (.int (yo o)) H->cQ K "side" R v H
 lo: ∀ {R:V->Hp->Prop},R (.int (lT o)) H->cQ K "low" R v H
 hi: ∀ {R:V->Hp->Prop},R (.int (k8 o)) H->cQ K "high" R v H
 am: ∀ {R:V->Hp->Prop},R (.int (vN o)) H->cQ K "amount" R v H
 sl:0<=k8 o-lT o/\k8 o-lT o<=10000
def As (T:aV K mg a) {H H':Hp}{v:V}{o:GC}(s:aU H H') (h:fT a ol H v o) (i:jt o=FS):ajA K H' v o:=by
 cases o with
 |step=>
  obtain⟨⟨u,dx,rfl,_,e⟩,b⟩:=h;have f: ∀ {x:Gf}{y:V}{R:V->Hp->Prop},au K a.HF x->_->R y H'->cQ K x R (.ref u) H':=λn l r=>#[u,_,dx,_,_,Go,s _ _ e,T.Oa,n,l,r]
  exact#[f T.Np Go,f T.Mn Go,f T.Nq Go,f T.NU Go,f T.Nr Go,f T.MJ Go,b]
 |block=>cases i
def Az (O:OdK K a) {H H':Hp}{v:V}{Q:VK}{o:GC}(s:aU H H') (h:fT a ol H v o) (q:Q (.bl (jt o)) H'): ∃(x:V) (C:FG) (t:FE) (b:GP),[v, .ref a.HF]=[x, .ref C]/\iS K H' x t/\HM K t (.ref C)=FB b/\Q (.bl b) H':=by
 cases o with
 |step=>
  obtain⟨⟨u,dx,rfl,_,e⟩,b⟩:=h;exact#[_,_,_,_,Go,O.s.of (s _ _ e),O.ss,q]
 |block=>
  obtain⟨_,_,⟨u,dx,rfl,_,e⟩,_⟩:=h;exact#[_,_,_,_,Go,O.b.of (s _ _ e),O.bs,q]
def eqI {i j:Int}{H:Hp}{Q:VK}(q:Q (.bl (decide (i=j))) H):rEq (.int i) (.int j) H Q:=#[Go,by rw[show decide (V.int i=V.int j)=decide (i=j) from decide_eq_decide.mpr #[λy=>V.int.inj y,λy=>by rw[y]]];exact q]
def yD (o:GC) (p:Int):Int:=if k8 o<=p then vN o else if p<lT o then 0 else(vN o*(p-lT o)).fdiv (k8 o-lT o)
def yr (o:GC) (p:Int):Int:=if p<=lT o then vN o else if k8 o<p then 0 else(vN o*(k8 o-p)).fdiv (k8 o-lT o)
inductive ace (f:GC->Int->Int) (K:FC) (vs:Fx V) (H:Hp) (Q:VK) (_E:XK):Prop
 |mk {v:V}{o:GC}{p:Int}(_:vs=[v, .int p]) (_:ajA K H v o) (_:Q (.int (f o p)) H):ace f K vs H Q _E
def Aq {o:GC}(h:0<=k8 o-lT o/\k8 o-lT o<=10000):(k8 o-lT o).natAbs.log2<9000:=mW (by unfold ro;lia)
def ana (T:aV K mg a):T.d_P.U P w base 1 (ace yD K):=by
 refine T.d_P.F.ok alO [03] [02];obtain @⟨v,o,p,rfl,S,q⟩:=h;refine#[_,(ao (b4 (aL xf (pv 1) [09] (aG _)) (ah (aH [09])) aY)
   (ao (b4 (aL io (pv 1) [09] (aG _)) (ah (aH ak)) aY)
   (ah (aH (bM n8 (bM rR [09] (bM cv (pv 1) [09])) (bM cv [09] [09])))))),?_]
 unfold yD at q;refine S.hi #[_,_,Go,Go,_,Go,cq (λh=>S.am ?_) λh=>?_]
 .rw[FI h] at q;exact q
 .rw[FF h] at q
  refine S.lo #[_,_,Go,Go,_,Go,cq (λh2=>?_) λh2=>?_]
  .rw[FI h2] at q;exact q
  .rw[FF h2] at q
   have sl:=S.sl;exact S.am (S.lo #[_,_,Go,Go,_,_,Go,Go, .inr (by lia),S.hi (S.lo #[_,_,Go,Go,_,_,Go,Go,#[by have:=S.sl;lia,Aq S.sl],q])])
def anb (T:aV K mg a):T.d_Q.U P w base 1 (ace yr K):=by
 refine T.d_Q.F.ok alP [03] [02];obtain @⟨v,o,p,rfl,S,q⟩:=h;refine#[_,(ao (b4 (aL dN (pv 1) [09] (aG _)) (ah (aH [09])) aY)
   (ao (b4 (aL fS (pv 1) [09] (aG _)) (ah (aH ak)) aY)
   (ah (aH (bM n8 (bM rR [09] (bM cv [09] (pv 1))) (bM cv [09] [09])))))),?_]
 unfold yr at q;refine S.lo #[_,_,Go,Go,_,Go,cq (λh=>S.am ?_) λh=>?_]
 .rw[FI h] at q;exact q
 .rw[FF h] at q
  refine S.hi #[_,_,Go,Go,_,Go,cq (λh2=>?_) λh2=>?_]
  .rw[FI h2] at q;exact q
  .rw[FF h2] at q
   have sl:=S.sl;exact S.am (S.hi #[_,_,Go,Go,_,_,Go,Go, .inr (by lia),S.hi (S.lo #[_,_,Go,Go,_,_,Go,Go,#[by have:=S.sl;lia,Aq S.sl],q])])
def kr {p:GC->GP}{l:Fx GC}(h:l[i]?=FB o):(l.take (i+1)).filter p=(l.take i).filter p++(if p o=FS then [o] else []):=by
 rw[J8,h,show(T6 o).toList=[o] from Go,Fx.filter_append,Oe,Fx.filter_nil]
abbrev jv (z t s:Int) (o:GC):GP:=decide (D9 o=z)&&(decide (Ev o=t)&&decide (yo o=s))
abbrev uK (l:Fx GC) (z t s:Int):Fx GC:=(l.filter jt).filter (jv z t s)
theorem pZ (z t:FX) (p:Int): ∀l:Fx GC,RW l z t p=((uK l z t 0).map λo=>yD o p).sum
 |[]=>rfl
 |o::l=>by
  have ih:=pZ z t p l;unfold RW Ym at ih ⊢;rw[Ge,Xk,ih];cases o with
  |block=>simp [uK,jt,Qk]
  |step e z' t' b p0 p1 q=>
   cases b with
   |true=>simp [uK,jt,Qk,jv,yo,M7]
   |false=>
    by_cases h:z'=z/\t'=t
    .obtain⟨rfl,rfl⟩:=h
     simp [uK,jt,Qk,jv,yo,D9,Ev,M7,yD,k8,lT,vN]<;>rfl
    .have h': ¬((z':Int)=(z:FX)/\(t':Int)=(t:FX)):=λy=>h #[LZ y.1,LZ y.2]
     have e2:jv z t 0 (.step e z' t' Gc p0 p1 q)=Gc:=by
      cases hh:jv z t 0 (.step e z' t' Gc p0 p1 q) with
      |false=>rfl
      |true=>
       have hh':=(GI _ _).mp hh;exact(h' #[Gj hh'.1,Gj ((GI _ _).mp hh'.2).1]).elim
     simp [uK,jt,Qk,h,e2]
theorem pL (z t:FX) (p:Int): ∀l:Fx GC,RY l z t p=((uK l z t 1).map λo=>yr o p).sum
 |[]=>rfl
 |o::l=>by
  have ih:=pL z t p l;unfold RY Ym at ih ⊢;rw[Ge,Xk,ih];cases o with
  |block=>simp [uK,jt,Q4]
  |step e z' t' b p0 p1 q=>
   cases b with
   |false=>simp [uK,jt,Q4,jv,yo,M7]
   |true=>
    by_cases h:z'=z/\t'=t
    .obtain⟨rfl,rfl⟩:=h
     simp [uK,jt,Q4,jv,yo,D9,Ev,M7,yr,k8,lT,vN]<;>rfl
    .have h': ¬((z':Int)=(z:FX)/\(t':Int)=(t:FX)):=λy=>h #[LZ y.1,LZ y.2]
     have e2:jv z t 1 (.step e z' t' FS p0 p1 q)=Gc:=by
      cases hh:jv z t 1 (.step e z' t' FS p0 p1 q) with
      |false=>rfl
      |true=>
       have hh':=(GI _ _).mp hh;exact(h' #[Gj hh'.1,Gj ((GI _ _).mp hh'.2).1]).elim
     simp [uK,jt,Q4,h,e2]
inductive ajB (a:bi) (vs:Fx V) (H:Hp) (Q:VK) (_E:XK):Prop
 |mk {ol L:FG}{us:Fx V}{l:Fx GC}{z t s:Int}(_:vs=[.ref L, .int z, .int t, .int s]) (_:H L=FB (.lst us)) (_:Paired (λv o=>fT a ol H v o) us l) (_:l.length<=48) (_: ∀H' D Px,aU H H'->H' D=FB (.lst Px)->Paired (λv o=>fT a ol H v o) Px (uK l z t s)->Q (.ref D) H'):ajB a vs H Q _E
def ajC (T:aV K mg a) (O:OdK K a):T.d_h.U P w base 1 (ajB a):=by
 refine T.d_h.F.ok Cr [03] [02];obtain @⟨ol,L,us,l,z,t,sd,rfl,hL,po,le,q⟩:=h;refine#[_,(ao (CW (i:=4) (tt:=tB (tCB (λxs H Q=> ∃(x:V) (C:FG) (t:FE) (b:GP),xs=[x, .ref C]/\iS K H x t/\HM K t (.ref C)=FB b/\Q (.bl b) H) (uk (gc 5) (uk (λ_ H Q=>Q (.ref a.HF) H) Ah)))) Go Cr.nd Go Go (Ez Go Go Go Go) (gt (pv 0)) (own:=[("order",5)]) (gM (by show sE ["orders","zone","quarter","side","steps","order","step"] (af s_h) _ [("order",5)]=FS;decide+kernel)) (λ_ _ _ _ _=>fL (i:=5) Cr.nd Go (Hs Go)) (λ_ _ _ _ _=>by exact xO (de (br li (by rfl) T.LP S9 (aa (pv 5) (aa (ip (by rfl) T.PN) ag))))) (λ_ _ _ _ _=>(pv 5)))
   (ah (aH (tX (tt:=aaR (pY (DT rEq (Ay K (gc 6) "zone") (gc 1))) (aaR (pY (DT rEq (Ay K (gc 6) "quarter") (gc 2))) (pY (DT rEq (Ay K (gc 6) "side") (gc 3))))) Go Cr.nd (gt (pv 4)) (own:=[("step",6)]) (gM (by show sE ["orders","zone","quarter","side","steps","order","step"] (af s_h) _ [("step",6)]=FS;decide+kernel)) (λ_ _ _ _ _=>fL (i:=6) Cr.nd Go (Hs Go)) (λ_ _ _ _ _=>by exact xO (lP (aL bS (ai (pv 6) Go) (pv 1) (aG _)) (lP (aL bS (ai (pv 6) Go) (pv 2) (aG _)) (kh (aL bS (ai (pv 6) Go) (pv 3) (aG _))))).pt) (λ_ _ _ _ _=>(pv 6)))))),?_]
 refine#[L,Go,#[_,cD.of hL],λD hD=>?_];refine i9 (K:=K) (a:=L) (xs:=us) (λi H'=>aU H H'/\ ∃Px,H' D=FB (.lst Px)/\Paired (λv o=>fT a ol H v o) Px ((l.take i).filter jt)) #[bH hD,[],ae,by rw[Nh];exact .nil] (λi H' _ z=>cD.of (z.1 _ _ hL)) ?_ ?_
 .rintro i y H' hi ⟨s1,Px,Qn,pr⟩
  obtain⟨o,hl,oy⟩:=fP po hi;refine#[Go,Az O s1 oy #[_,Go,?_]];cases z:jt o with
  |true=>
   refine b8 #[Px,Qn,?_,λb o e=>by rw[ac (aj e hD)];exact s1 b o e,Px++[y],ae,?_]
   .rw[aZ pr]
    exact GF (F7 (HW _ _) (F7 (J7 i _) le)) [01]
   .rw[kr hl,FI z]
    exact e9 pr oy
  |false=>
   refine bG #[s1,Px,Qn,?_];rw[kr hl,FF (by rw[z];exact FA),Hj];exact pr
 .rintro H1 ⟨s1,u1,h1,p1⟩
  rw[aZ po,JQ] at p1;have le1:(l.filter jt).length<=48:=F7 (HW _ _) le;refine#[D,Go,#[_,cD.of h1],λD2 hD2=>?_];refine i9 (K:=K) (a:=D) (xs:=u1) (λi H'=>aU H1 H'/\ ∃Px,H' D2=FB (.lst Px)/\Paired (λv o=>fT a ol H v o) Px (((l.filter jt).take i).filter (jv z t sd))) #[bH hD2,[],ae,by rw[Nh];exact .nil] (λi H' _ z=>cD.of (z.1 _ _ h1)) ?_ ?_
  .rintro i y H' hi ⟨s2,Px,Qn,pr⟩
   obtain⟨o,hl,oy⟩:=fP p1 hi;have S:=As T (s1.trans s2) oy (KO.mp (G8 hl)).2;have no:jv z t sd o=Gc->aU H1 H'/\ ∃Px,H' D2=FB (.lst Px)/\Paired (λv o=>fT a ol H v o) Px (((l.filter jt).take (i+1)).filter (jv z t sd)):=λn=>#[s2,Px,Qn,by
    rw[kr hl,FF (by rw[n];exact FA),Hj];exact pr]
   refine#[Go,S.zo (eqI #[_,Go,cq (λh1=>S.qu (eqI #[_,Go,cq (λh2=>S.sd (eqI #[_,Go,cq (λh3=>?_) λh3=>no (by unfold jv;rw[Gp h3,Ia,Ia])])) λh2=>bG (no (by unfold jv;rw[Gp h2,Ip,Ia]))])) λh1=>bG (no (by unfold jv;rw[Gp h1,Ip]))])];refine#[Px,Qn,?_,λb o e=>by rw[ac (aj e hD2)];exact s2 b o e,Px++[y],ae,?_]
   .rw[aZ pr]
    exact GF (F7 (HW _ _) (F7 (J7 i _) le1)) [01]
   .rw[kr hl,FI (by unfold jv;rw[GL h1,GL h2,GL h3];rfl)]
    exact e9 pr oy
  .rintro H2 ⟨s2,u2,h2,p2⟩
   rw[aZ p1,JQ] at p2;exact q H2 D2 u2 (s1.trans s2) h2 p2
inductive acf (f:GC->Int->Int) (sd:Int) (a:bi) (vs:Fx V) (H:Hp) (Q:VK) (_E:XK):Prop
 |mk {ol L:FG}{us:Fx V}{l:Fx GC}{z t p:Int}(_:vs=[.ref L, .int z, .int t, .int p]) (_:H L=FB (.lst us)) (_:Paired (λv o=>fT a ol H v o) us l) (_:l.length<=48) (_: ∀H',aU H H'->Q (.int ((uK l z t sd).map λo=>f o p).sum) H'):acf f sd a vs H Q _E
def anc (T:aV K mg a) (O:OdK K a):T.d_D.U P w base 2 (acf yD 0 a):=by
 have G_h:=ajC (P:=P) (w:=w) (base:=base) T O
 have G_P:=ana (P:=P) (w:=w) (base:=base) T;refine T.d_D.F.ok abj [03] [02];obtain @⟨ol,L,us,l,z,t,p,rfl,hL,po,le,q⟩:=h;refine#[_,(ah (aH (br (v9 Go) (by rfl) T.WI boot_sum (aa (tX Go abj.nd (gt (aF G_h [06] (by rfl) T.d_h.c aR (aa (pv 0) (aa (pv 1) (aa (pv 2) (aa (aS (by rfl) T.U3) ag)))))) (own:=[("step",4)]) (gM (by show sE ["orders","zone","quarter","price","step"] (af s_D) _ [("step",4)]=FS;decide+kernel)) (λ_ _ _ _ _=>fL (i:=4) abj.nd Go (Hs Go)) (λ_ _ _ _ _=>mL) (λ_ _ _ _ _=>(aF G_P [06] (by rfl) T.d_P.c aR (aa (pv 4) (aa (pv 3) ag))))) ag)))),?_]
 refine .mk Go hL po le λH1 L1 u1 s1 h1 p1=>?_;have le1:(uK l z t 0).length<=48:=F7 (HW _ _) (F7 (HW _ _) le);refine#[L1,Go,#[_,cD.of h1],λD hD=>?_];refine i9 (K:=K) (a:=L1) (xs:=u1) (λi H'=>aU H1 H'/\H' D=FB (.lst (gy (((uK l z t 0).take i).map λo=>yD o p)))) #[bH hD,by rw[ae,Nh];rfl] (λi H' _ z=>cD.of (z.1 _ _ h1)) ?_ ?_
 .rintro i y H' hi ⟨s2,Qn⟩
  obtain⟨o,hl,oy⟩:=fP p1 hi;have S:=As T (s1.trans s2) oy (KO.mp (KO.mp (G8 hl)).1).2;refine#[Go,?_];unfold DC;dsimp only;rw[FI Go];refine#[Go,S,_,Qn,?_,λb o e=>by rw[ac (aj e hD)];exact s2 b o e,?_]
  .rw[Bh,FT]
   exact GF (F7 (J7 i _) le1) [01]
  .rw[ae,J8,hl,show(T6 o).toList=[o] from Go,Hk,CF]
   rfl
 .rintro H' ⟨s2,Qn⟩
  rw[aZ p1,JQ] at Qn;exact#[D,_,Go,cD.of Qn,q H' (s1.trans s2)]
def ane (T:aV K mg a) (O:OdK K a):T.d_E.U P w base 2 (acf yr 1 a):=by
 have G_h:=ajC (P:=P) (w:=w) (base:=base) T O
 have G_Q:=anb (P:=P) (w:=w) (base:=base) T;refine T.d_E.F.ok abk [03] [02];obtain @⟨ol,L,us,l,z,t,p,rfl,hL,po,le,q⟩:=h;refine#[_,(ah (aH (br (v9 Go) (by rfl) T.WI boot_sum (aa (tX Go abk.nd (gt (aF G_h [06] (by rfl) T.d_h.c aR (aa (pv 0) (aa (pv 1) (aa (pv 2) (aa (aS (by rfl) T.WC) ag)))))) (own:=[("step",4)]) (gM (by show sE ["orders","zone","quarter","price","step"] (af s_E) _ [("step",4)]=FS;decide+kernel)) (λ_ _ _ _ _=>fL (i:=4) abk.nd Go (Hs Go)) (λ_ _ _ _ _=>mL) (λ_ _ _ _ _=>(aF G_Q [06] (by rfl) T.d_Q.c aR (aa (pv 4) (aa (pv 3) ag))))) ag)))),?_]
 refine .mk Go hL po le λH1 L1 u1 s1 h1 p1=>?_;have le1:(uK l z t 1).length<=48:=F7 (HW _ _) (F7 (HW _ _) le);refine#[L1,Go,#[_,cD.of h1],λD hD=>?_];refine i9 (K:=K) (a:=L1) (xs:=u1) (λi H'=>aU H1 H'/\H' D=FB (.lst (gy (((uK l z t 1).take i).map λo=>yr o p)))) #[bH hD,by rw[ae,Nh];rfl] (λi H' _ z=>cD.of (z.1 _ _ h1)) ?_ ?_
 .rintro i y H' hi ⟨s2,Qn⟩
  obtain⟨o,hl,oy⟩:=fP p1 hi;have S:=As T (s1.trans s2) oy (KO.mp (KO.mp (G8 hl)).1).2;refine#[Go,?_];unfold DC;dsimp only;rw[FI Go];refine#[Go,S,_,Qn,?_,λb o e=>by rw[ac (aj e hD)];exact s2 b o e,?_]
  .rw[Bh,FT]
   exact GF (F7 (J7 i _) le1) [01]
  .rw[ae,J8,hl,show(T6 o).toList=[o] from Go,Hk,CF]
   rfl
 .rintro H' ⟨s2,Qn⟩
  rw[aZ p1,JQ] at Qn;exact#[D,_,Go,cD.of Qn,q H' (s1.trans s2)]
def BX {A:Hm}{env:Env}{outer:Fx Env}{s:FJ}{oe:Jp}{vs:JN FE}{Q:Nc->FJ->Prop}{E:FE->FJ->Prop}{base:Ho}{L:FG}{a:FG}(RA:A.frames=FB (env::outer)) (hl:s.heap.FunFrames base (env::outer)) (hf:env.frame=FB L)
  (he:s.heap.get? a=FB oe) (hd:oe.data= .fields vs) (h1:vs[1]?=FB .none)
  (h: ∀h',uO ((env::outer).filterMap (·.frame)) [a] a oe s.heap h'->Q () { s with heap:=h' }):Gk M A (MU (.ref a) env) (λ_ s'=>Gk M A (QH (.ref a) FM) Q E s') E s:=by
 unfold MU;simp only[hf];refine FV (wpAny_field he hd h1 ?_);rw[FF [01]];exact jF RA hl hf he hd (JR.mp h1).1 h
def EW {X:Cx}{pins:Fx (FG×Jp)}{σ:L2.St}{H:Hp}{s:FJ}{a:FG}{φ:Ho->Prop}(I:aE X pins σ H s) (z:X.Ql.heap.objs.size<=a) (h:H a=FB (.ext φ)):aE X pins σ (qK H [a]) s:=by
 have ne: ∀ {b:FG}{u:HO},H b=FB u->(∀φ,u≠ .ext φ)->qK H [a] b=FB u:=λe n=>by
  rw[eA λm=>n φ (by rw[Ga.mp m,h] at e;exact(F4 e).symm)];exact e
 have no: ∀ {b:FG},H b=FM->qK H [a] b=FM:=λe=>by
  unfold qK;split
  .rfl
  .exact e
 refine#[I.ok,I.os,I.bare,#[I.base.keep,I.base.slot,λb o e n x=>no (I.base.free b o e n x),I.base.there,λb xs e=>ne (I.base.Rj b xs e) nofun,λb o u e=>ne (I.base.Q5 b o u e) nofun,λb ps e=>?_],I.loc,I.cell,no I.free,λx c e=>no (I.L3 x c e),λp hp=>?_,λb u e=>?_,I.len]
 .obtain⟨m,e⟩:=I.base.Rk b ps e
  exact#[m,ne e nofun]
 .obtain⟨p1,p2,p3⟩:=I.pin p hp
  exact#[p1,no p2,p3]
 .have hb:H b=FB u:=by
   unfold qK at e;split at e
   .cases e
   .exact e
  exact(I.IQ b u hb).Rw (λc v _ q=>q) (λc q=>ne q nofun) λc xs q=>ne q nofun
section
variable {X:Cx}{pins:Fx (FG×Jp)}{Q:Flow->FJ->Prop}{Ek:XK}{hs:Fx ExceptHandler}
def Cj (KN:X.stack=X.env::X.outer) (RA:X.env.frame=FB X.env.locals)
  (hh: ∀(C a d:FG) (σ:L2.St) (H:Hp) (s:FJ),aE X pins σ H s->zQ X pins H s.heap C d a->Ek (.ref C) (FB d) H->Gk (model X.prog X.w) X.A (Uk (.ref a) X.env hs) Q X.xe s):
  lj (tP X pins (ah9 X hs Q)) Ek:=by
 intro Tx σ H s C d a I h z hE;obtain⟨⟨o,vs,x1,x2,x3,x4,x5⟩,_⟩:=I.IQ _ _ h;have I0:aE X pins σ H s:=d8 I;have J:aE X pins σ (qK H [a]) s:=EW I0 z h;have oa:Own X pins a:=by
  refine#[z,λy=>?_,λx c e y=>?_,λp hp y=>?_]
  .rw[y,I0.free] at h;cases h
  .rw[<-y,I0.L3 x c e] at h;cases h
  .have q:=(I0.pin p hp).2.1
   rw[y,h] at q;cases q
 have fr:X.A.frames=FB (X.env::X.outer):=by rw[J.ok.frames,KN]
 have st:s.heap.FunFrames X.base (X.env::X.outer):=by rw[<-KN];exact J.stack
 show Gk (model X.prog X.w) X.A (MU (.ref a) X.env) _ _ s
 refine BX (base:=X.base) fr st RA x1 x4 x5 λh' L=>?_;have ck: ∀b∈[a],qK H [a] b=FM:=λb hb=>jI hb
 have fq:(X.env::X.outer).filterMap (·.frame)=rq X.stack:=by rw[KN];rfl
 rw[fq] at L;have hk:hJ X.prog X.w (qK H [a]) h':=λb u e=>by
  refine(J.IQ b u e).Rw (λc v hc q=>L.keep c v (λz=>?_) (λz=>?_) q) [05] λ_ _ q=>q
  .have y:=J.Qa c z
   rcases hc with w1|w1
   .rw[w1,e] at y;cases y
   .rw[w1] at y;cases y
  .have y:=ck c z
   rcases hc with w1|w1
   .rw[w1,e] at y;cases y
   .rw[w1] at y;cases y
 have K1:aE X pins σ (qK H [a]) { s with heap:=h' } :=by
  refine J.call (g':=s.gens) (t':=s.toks) (d':=s.drawn) (ch:=[a]) #[λb o e n hb hx=>L.keep b o hb hx e,λb o e n hb hx=>L.slot b o hb hx e,λb o e n hx=>n,λb o e hx=>L.there b o e,λ_ _ e=>e,λ_ _ _ e=>e,λb ps e=>#[[].toArray,by rw[e];simp]] hk J.bare λb hb=>?_;rw[Ga.mp hb];exact#[.inr oa.z,oa.nl,oa.nc,oa.np]
 obtain⟨ws,T2,oT2,ts2,y1,y2,y3,y4,y5,y6,y7⟩:=L.fly;exact hh C a d σ _ _ K1 #[oa,jI FL,_,ws,T2,oT2,ts2,y1,x2,x3,Go,y2,y4,J.IQ.fresh y3,rn J y3,y5,y6,y7] hE
end
section
variable {X:Cx}{tb th:L2.TS}{Ek:XK}{R G:FG}
def zb (Ek:XK) (KN:X.stack=X.env::X.outer) (RA:X.env.frame=FB X.env.locals) (hE: ∀C d H,Ek (.ref C) (FB d) H-> ∃fI,dq X.K R C fI/\BI R G C) (hg:Gl X x) (hm:X.mg x=FB (.ref G)) (hN:X.N.Nodup) (hi:X.N[i]?=FB n) (hl:X.env.scope.names.lookup n=FB .local)
  (hb: ∀pins Ew,dn (gb X.prog X.w) (tP X pins Ew) Ek->lj (tP X pins Ew) Ek->uJ (tP X pins Ew) body tb) (hs: ∀a,uJ (DR X a) (b0::Vd) th) (SJ:(x == [003])=Gc:=by decide):
  PS X (.Try body [.ExceptHandler (FB (.Name x np)) (FB n) (b0::Vd) aia] [] [] pos) (abz Ek X.N.length i tb th):=by
 rw[04];refine wpAny_Try_except ?_;have hh: ∀(C a d:FG) (σ1:L2.St) (H1:Hp) (s1:FJ),aE X pins σ1 H1 s1->zQ X pins H1 s1.heap C d a->Ek (.ref C) (FB d) H1->Gk (model X.prog X.w) X.A (Uk (.ref a) X.env [.ExceptHandler (FB (.Name x np)) (FB n) (b0::Vd) aia]) (SP X pins D) X.xe s1:=λC a d σ1 H1 s1 I1 cm hE1=>(hE C d H1 hE1).elim λfI ⟨XC,hG⟩=>aby (D:=D) XC hG hg hm hN hi hl (hs a) I1 cm (h.2 C d H1 a hE1 cm.no) SJ
 refine Jc (hb pins _ (E6 KN RA hh) (Cj KN RA hh) [] s σ H D (Dm I) h.1) (λf s1 z=>?_) λe s1 z=>z;cases f with
 |next=>exact Nv (ku z)
 |brk=>exact ku z
 |cont=>exact ku z
 |ret u=>exact ku z
end
section
open Vbemac (bytesOf)
def DY (y u p:Int):GP:=FZ y 0 5&&(FZ u 0 3&&Jh p)
def qd {z t lo hi y u p:Int}{zs:Fx Int} :Kc z t lo hi y u p zs=(match (match Lu z t lo hi,bytesOf zs,DY y u p with
   |some M,some b,true=>FB (SX M y.toNat u.toNat p b)
   |_,_,_=>FM) with
  |some k=>Vbemac.f k
  |none=>[-1]):=by
 show Xp [[3,z,t,lo,hi,y,u,p],zs]=_
 unfold Xp;rw[show Vbemac.decode [[3,z,t,lo,hi,y,u,p],zs]=(match Lu z t lo hi,bytesOf zs,FZ y 0 5&&(FZ u 0 3&&Jh p) with
   |some M,some b,true=>FB (SX M y.toNat u.toNat p b)
   |_,_,_=>FM) from Go]
 rfl
def jk {z t lo hi y u p:Int}{zs:Fx Int}(h:(vv z t lo hi&&iZ zs&&DY y u p)=Gc):Kc z t lo hi y u p zs=[-1]:=by
 rw[qd];cases h1:vv z t lo hi with
 |false=>rw[show Lu z t lo hi=FM from FF (by show¬vv z t lo hi=FS;rw[h1];exact FA)]
 |true=>
  rw[h1,Jj] at h;cases h2:iZ zs with
  |false=>
   rw[sD h2];cases Lu z t lo hi<;>rfl
  |true=>
   rw[h2,Jj] at h;rw[h];cases Lu z t lo hi<;>cases bytesOf zs<;>rfl
def Dg {z t lo hi y u p:Int}{zs:Fx Int}{bs:Fy}(h:vv z t lo hi=FS) (hb:bytesOf zs=FB bs) (hp:DY y u p=FS): ∃G:KJ,(G.zones:Int)=z/\(G.quarters:Int)=t/\G.lo=lo/\G.hi=hi/\G.quarters<=4/\0<=y/\0<=u/\Kc z t lo hi y u p zs=(if z<=y\/t<=u then [-4] else match Zr G bs with
  | .error c=>[c]
  | .ok (s,l,n)=>[0,RW l y.toNat u.toNat p,RY l y.toNat u.toNat p]):=by
 have h':=h;unfold vv FZ at h;simp only[GI,GB] at h
 have WQ:=hp;unfold DY FZ at WQ;simp only[GI,GB] at WQ;refine#[#[z.toNat,t.toNat,lo,hi],by lia,by show(t.toNat:Int)=t;lia,Go,Go,by show t.toNat<=4;lia,by lia,by lia,?_];rw[qd,hb,hp,show Lu z t lo hi=FB _ from FI h']
 show(if z.toNat<=y.toNat\/t.toNat<=u.toNat then [-4] else Qi _ _ _)=_
 by_cases c:z<=y\/t<=u
 .rw[FI c,FI (by lia)]
 .rw[FF c,FF (by lia)]
  exact ajw
def ju (T:aV K mg a) (XC:XP K a):T.Z1.U P w mg base 2 (dM a.Lf (gC (-4))):=
 YZ T.Z1.F agV λHn A outer s H p Q hr q=>#[_,ah (bf (eF (by rfl) T.Ig XC.rm (bJ T XC.Mg) hr T.Wt.c.b .nil aR (aa (pv 0) (aa (dH cE ak) ag)))),_,Go,q]
end
def yn {y:Int}(n:Int):FZ y 0 (n-1)=(decide (0<=y)&&decide (y<n)):=by
 unfold FZ;rw[decide_eq_decide.mpr (show y<=n-1 ↔ y<n by lia)]
def tw {σ:L2.St}{H:Hp}{Q:VK}{i:FX}{y:Int}(n:Int) (hv: ∀Q:VK,Q (.int y) H->gc i σ H Q) (q:Q (.bl (FZ y 0 (n-1))) H):rf (vX λi j=>V.bl (decide (i<=j))) (vX λi j=>V.bl (decide (i<j))) (tC (V.int 0)) (gc i) (tC (V.int n)) σ H Q:=by
 rw[yn] at q;refine hv _ #[_,_,Go,Go,_,Go,?_];by_cases h:0<=y
 .rw[GL h,Jj] at q
  rw[GL h];exact b8 #[_,_,Go,Go,q]
 .rw[Gp h,Ip] at q
  rw[Gp h];exact bG q
def anf (T:aV K mg a) (XC:XP K a) (KX:mJ K a) (O:OdK K a) (G_k:T.d_k.O P w base 178 (kK K a)):
  T.d_d.U P w base 180 (j8 K):=by
 refine T.d_d.F.ok abr [03] [02];obtain⟨z,t,lo,hi,y,u,p,l,zs,rfl,hS,hl,hQ⟩:=h;refine#[_,(ao (zb (R:=a.Hu) (G:=a.Hu) (i:=9) (λv od SY=> ∃(C d fI:FG) (c:Int) (fs:Fx (Gf×V)),v= .ref C/\od=FB d/\dq K a.Hu C fI/\Kc z t lo hi y u p zs=[c]/\SY d=FB (cn d fs)/\fs.lookup ("number":Gf)=FB (V.int c)) Go Go (λC d H h=>by obtain⟨_,_,fI,_,_,e,_,x,_⟩:=h;cases e;exact#[fI,x, .inr Go]) (by rfl) T.Ig abr.nd Go Go
    (λpins Ew PE_ RE_=>ao (bf (aF (ajx T XC.toXN) [06] (by rfl) T.d_e.c PE_ (aa (jO (aF (ajy T) [06] (by rfl) T.aaB.c aR (aa (pv 0) (aa (pv 1) (aa (pv 2) (aa (pv 3) ag))))) (iK (aF (am9 T) [06] (by rfl) T.d_N.c aR (aa (pv 7) ag)))) ag)))
     (ao (bf (aF (ajx T XC.toXN) [06] (by rfl) T.d_e.c PE_ (aa (jO (fV dN io ak (pv 4) (aS (by rfl) T.P8)) (jO (fV dN io ak (pv 5) (aS (by rfl) T.Ol)) (iK (aF (acd T) [06] (by rfl) T.d_C.c aR (aa (pv 6) ag))))) ag)))
     (ao (b4 (tK (aL xf (pv 4) (pv 0) (aG _)) (ou (aL xf (pv 5) (pv 1) (aG _)))).pt (ah (dZ RE_ XC.Mg (ju T XC) [06] (by rfl) T.OB T.Z1.c.b)) aY)
     (ah (cN (i:=8) abr.nd Go (Hs Go) (show PE _ _ (Ay K _ "orders") from ai (aF (ajz T XC.toXN KX G_k) hr (by rfl) T.aaC.c PE_ (aa (pv 0) (aa (pv 1) (aa (pv 2) (aa (pv 3) (aa (pv 7) ag)))))) Go))))))
    (λa'=>(ah (aH (iQ (aa (EM (K:=K) Go [00] oP (pv 9) (by rfl)) ag))))))
   (ah (aH (iQ (aa ak (aa (aF (anc T O) [06] (by rfl) T.d_D.c aR (aa (pv 8) (aa (pv 4) (aa (pv 5) (aa (pv 6) ag))))) (aa (aF (ane T O) [06] (by rfl) T.d_E.c aR (aa (pv 8) (aa (pv 4) (aa (pv 5) (aa (pv 6) ag))))) ag))))))),?_]
 refine#[?_,?_]
 .have bad: ∀ {H1:Hp}{c:Int},Kc z t lo hi y u p zs=[c]->Bad K a (λv od SY=> ∃(C d fI:FG) (c:Int) (fs:Fx (Gf×V)),v= .ref C/\od=FB d/\dq K a.Hu C fI/\Kc z t lo hi y u p zs=[c]/\SY d=FB (cn d fs)/\fs.lookup ("number":Gf)=FB (V.int c)) H1 c:=λh C d fI fs x lk hd=>#[C,d,fI,_,fs,Go,Go,x,h,ae,lk]
  refine#[z,t,lo,hi,Go,_,Go,aQ (λh1=>?_) λh1=>#[_,Go,nofun,λ_=>bad (jk (by rw[h1];rfl))]];refine#[l,zs,Go,hS,hl,λH1 s1=>#[_,Go,λht=>?_,λht=>bad (jk (by rw[h1,ht];rfl))]];have no: ∀ {Q:VK},DY y u p=Gc->rY K a [.bl Gc] H1 Q _:=λh=>#[Gc,Go,nofun,λ_=>bad (jk (by rw[h1,ht,h];rfl))];refine tw 6 [05] #[_,Go,aQ (λhy=>?_) λhy=>no (by unfold DY;rw[show FZ y 0 5=Gc from hy];rfl)];refine tw 4 [05] #[_,Go,aQ (λhu=>?_) λhu=>no (by unfold DY;rw[show FZ u 0 3=Gc from hu,Ip,Ia])];have pe:DY y u p=Jh p:=by unfold DY;rw[show FZ y 0 5=FS from hy,show FZ u 0 3=FS from hu];rfl
  refine#[p,Go,#[_,Go,λhp=>?_,λhp=>bad (jk (by rw[h1,ht,pe,hp];rfl))]];obtain⟨bs,eb,ev',hb⟩:=vr ht;obtain⟨G,rfl,rfl,rfl,rfl,q4,y0,u0,ec⟩:=Dg h1 eb (pe.trans hp);have up:(G.zones:Int)<=y\/(G.quarters:Int)<=u->Kc G.zones G.quarters G.lo G.hi y u p zs=[-4]:=λh=>by rw[ec,FI h]
  refine#[_,_,Go,Go,_,Go,cq (λc1=>b8 ?_) λc1=>#[_,_,Go,Go,_,Go,cq (λc2=>?_) λc2=>?_]]
  .exact#[Gn _,_,#[Go,Go],λd hd=>bad (up (.inl c1)) _ d _ _ XC.Mg Go hd]
  .exact#[Gn _,_,#[Go,Go],λd hd=>bad (up (.inr c2)) _ d _ _ XC.Mg Go hd]
  rw[FF (λh=>h.elim c1 c2)] at ec;refine .mk Go q4 (by rw[ev'];exact s1.seq hS) hb (λc h H' _=>bad (by rw[ec,h])) λss Z H' U o n h ha _ R=>?_;subst ha;rw[h] at ec;obtain⟨B,nm,R,_⟩:=R;obtain @⟨r,b,ff,d,s,nd,kk,os,FO,W,A,gs,X7,hj⟩:=R;have le:o.length<=48:=X7.le;have sB:=W.O.same;have ho:=sB _ _ X7.ho;refine#[Z.x,_,Z.dx,_,_,Go,sB _ _ X7.hx,T.Ih,T.Ke,Go,?_];refine .mk Go ho (Paired.NV X7.po λv o h=>r6 sB h) le λH2 s2=>?_;refine .mk Go (s2 _ _ ho) (Paired.NV X7.po λv o h=>r6 (λb u e=>s2 _ _ (sB _ _ e)) h) le λH3 s3=>#[by show 3<=GD;decide,λq hq=>hQ _ q ?_];have ye:(y.toNat:Int)=y:=Km y0;have ue:(u.toNat:Int)=u:=Km u0;rw[ec,ae];dsimp only;rw[pZ,pL,ye,ue]
  rfl
 .rintro C d H2 a' ⟨C',d',fI,c,fs,eC,ed,X1,ec',hd,lk⟩ ha'
  cases ed;cases eC;have nd:d≠a':=λz=>by rw[z,ha'] at hd;cases hd
  have h1:aI H2 a' (ko C d a') d=FB (cn d fs):=by rw[ac nd];exact hd
  refine#[_,_,_,a',d,_,_,X1,Go,ae,h1,lk,?_];refine#[by show 1<=GD;decide,λp hp=>?_];refine hQ _ p ?_;rw[ec'];exact ae
def mJ.at_ (I:mJ K a) (hi:(yM a)[i]?=FB C) (hj:(yM a)[j]?=FB D) (h:i<15) (h':j<15):HM K (.ref C) (.ref D)=FB (decide (i=j)):=by
 have:=GO (λl=>(l[i]?.bind λr:Fx (FP GP)=>r[j]?)) I.kit
 rw[GR,hi,GR,MS h] at this;simp only[MG,FP.bind_some,GR,hj,MS h'] at this;exact F4 this
def acg {a:bi}(I:mJ K a):qh K a:=#[I.ty _ (.tail _ (.tail _ (.tail _ (.tail _ (.tail _ (.tail _ (.tail _ (.head _)))))))),I.ty _ (.tail _ (.tail _ (.tail _ (.tail _ (.tail _ (.tail _ (.tail _ (.tail _ (.head _))))))))),I.ty _ (.tail _ (.tail _ (.tail _ (.tail _ (.tail _ (.tail _ (.tail _ (.tail _ (.tail _ (.head _)))))))))),I.ty _ (.tail _ (.tail _ (.tail _ (.tail _ (.tail _ (.tail _ (.tail _ (.tail _ (.tail _ (.tail _ (.head _))))))))))),I.ty _ (.tail _ (.tail _ (.tail _ (.tail _ (.tail _ (.tail _ (.tail _ (.tail _ (.tail _ (.tail _ (.tail _ (.head _)))))))))))),I.at_ (i:=7) (j:=7) Go Go [01] [01],I.at_ (i:=8) (j:=7) Go Go [01] [01],I.at_ (i:=9) (j:=7) Go Go [01] [01],I.at_ (i:=10) (j:=7) Go Go [01] [01],I.at_ (i:=11) (j:=7) Go Go [01] [01]]
def B8 {mg:Gf->FP FE}{base:Ho}{a:bi}(T:aV K mg a) (XC:XP K a) (kS:Ao P w K a.Kv dY) (kF:DM P w K a.HA dy) (KT:Ak K a.IK di) (I:mJ K a) (O:OdK K a):T.d_d.U P w base 180 (j8 K):=
 anf T XC I O (Ci T XC.toXT (acg I) KT kS kF)
end OS
open PySem PySem.W PyProof.Rows
theorem PySem.Challenge.cw_ordersheets_s04_curve_holds : PySem.Challenge.rw_ordersheets_s04_curve.Holds :=
 OS.hd OS.B8

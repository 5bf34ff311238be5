import PyProof.Rows.All
import KE.OsGo
import Wide.All
import OpenK.AllK
import Wide.FinOn
import PyProof.EqAt
import PyProof.EqKinds
import PyProof.TupleCall
import KE.BitLaws
import Open.SpecLaws
import KE.OsHead
import PyProof.StationsW
import PyProof.PassesOwn
import PyProof.ExcClass
import PyProof.ExcClass2
import PyProof.ExcArgs
import PyProof.ExcBaseAll.Exception
import PyProof.InstLoad
import PyProof.InstStoreFacts
import VbemacSpec
import PySem.Str
import PySem.Challenge.RW_ordersheets_s09_desks
import PyProof.RulesAs
import PyVbemac
local macro_rules|`(#[$x,*])=>`(⟨$x,*⟩)
open Option renaming some->FB,none->FM
open Bool renaming true->FS,false->Gc
open _root_ renaming rfl->Go
set_option compiler.extract_closed false
set_option hygiene false
local macro_rules
|`([00])=>`((by decide+kernel))
|`([01])=>`((by decide))
|`([02])=>`((λHb A outer s H vs Q E hr h=>?_))
|`([03])=>`((λvs H Q E h=>by cases h;subst_vars;rfl))
|`([04])=>`((λ_ _ _ _ _ _ us hl=>OS.u2 hl λ_ _=>[0x0]))
|`([05])=>`((λ_ q=>q))
|`([06])=>`((λ_ _ _ _ _ _ us hl=>OS.u1 hl λ_=>[0x0]))
|`([07])=>`((hr.mono [01]))
|`([08])=>`((by exact rfl))
|`([09])=>`((OS.aD KX G [0x5] [04]))
|`([000])=>`((aj (pv 0) rfl))
|`([001])=>`((Gc,eval e X.env))
|`([002])=>`((λ_ _=>rfl))
|`([003])=>`(("__debug__":FY))
|`([004])=>`((λ_ _ _ _ _ _ us hl=>OS.u3 hl λ_ _ _=>[0x0]))
|`([005])=>`((.Name "reader" p1))
|`([006])=>`((F5 KX G [08]))
|`([007])=>`(#[by decide+kernel,by decide+kernel,by decide+kernel])
|`([008])=>`(#[by decide+kernel,by decide+kernel])
|`([009])=>`((OS.aD KX G [0x5] [06]))
|`([010])=>`((aj (pv 1) rfl))
|`([011])=>`((JR Hl (af st) s.heap.objs.size f Hb))
|`([012])=>`((λc h=>er c (by rw[<-Hd,h])))
|`([013])=>`(#[Go,_,Go,?_])
|`([014])=>`((OS.aD KX G [0x5] [004]))
|`([015])=>`((λe=>?_))
|`([016])=>`((.cons (.cons .nil)))
|`([017])=>`((hr.mono (by lia)))
|`([018])=>`((ps.zip us))
|`([019])=>`((OS.aH [0x6] [06]))
|`([020])=>`((OS.aH [0x6] [04]))
|`([021])=>`(#[_,Go,?_])
local macro_rules
|`(tactic|rw[00])=>`(tactic|(obtain⟨n,S⟩:=R.S))
|`(tactic|rw[01])=>`(tactic|(intro pins s σ H Q I h))
|`(tactic|rw[02])=>`(tactic|(obtain⟨dr,er⟩:=S.rd.ins))
|`(tactic|rw[03])=>`(tactic|(obtain⟨f,rfl⟩: ∃f',f=f'+1:=#[f-1,by lia]))
|`(tactic|rw[04])=>`(tactic|(intro pins s σ H D I h))
|`(tactic|rw[05])=>`(tactic|(refine aP [015] λe=>?_))
set_option hygiene true
open _root_ renaming List->Fh,if_neg->Fs,if_pos->Fv,Option->FA,Nat->FH,absurd->FP,of_decide_eq_true->Ga,of_decide_eq_false->Gf,decide_eq_false->Gg,decide_eq_true_iff->Gp,congrArg->Gx,Bool->GA,decide_eq_true->GQ,beq_self_eq_true->Hf,UInt8->Jm,Array->JE,if_false->MX,Unit->Nj,decide_eq_true_eq->N8,if_true->Tu,not_or->V6
open Vbemac renaming Bytes->Fi,text->Fj,Toks->Fn,Known->Ft,Exp->Fz,P->FC,isKey->FD,peek->FK,within->FQ,fail->FT,expr->FZ,sign->Gm,isSign->Gn,Bytes->Gv,Order->GC,Pos->GD,Out->GF,KEYS->GK,next->GL,Tok->GO,SIGNS->GP,primary->GU,tokens->GW,newName->GY,unary->G8,Stmt->Hj,behind->Hu,Top->Hv,Env->Hw,key->Hx,deskCount->Hz,deeper->HH,DEEP->HK,digit->HU,isKey->HX,Blocks->Ig,Scope->Ij,place->IA,evAmounts->IK,side->Jd,runOne->Jj,zoneIn->Jk,known0->Jl,Stmts->Jn,MOST->Jp,knownBlock->Jv,Sheet->Jz,Funs->JP,runAll->JU,maybeName->J1,isPrice->J2,Exps->Kc,tops->Kd,stmts->Ki,letter->Kr,Market->Ks,params->Kt,bytesOf->KA,deskRow->KC,read->KD,BIG->KG,ifSign->Lb,addBlock->Li,expandSteps->Lm,stmt->Lw,BUILT->LJ,signOf->LV,ev->L5,fuel->Mh,isSign->Mi,marketOf->Mt,compare->MV,Toks->M0,expandTops->Ni,FUNS->Nk,truth->NZ,answer->OZ,lex->Pd,bit->Pf,SLOPE->PX,arguments->Qn,Rest->QK,valueIn->Ri,blank->SA,evEither->TZ,MOSTORDERS->U9,withOrders->Va,moreAdded->VA,moreTimes->VB,blockName->VC,compared->V2,evRest->V7,builtIn->WH,checked->WI,moreAnd->WK,addStep->WL,runLoop->WM,anyName->WN,moreOr->Xd,placed->Xe,decode->Xf,arith->X3,added->X4,times->X5,evOpt->X6,ifKey->X7,PRICE->X8,total->X9,evBoth->Zo,ands->Zs
open Bool renaming false_ne_true->Fl,and_eq_true->G7,eq_iff_iff->Hq,noConfusion->HC,and_false->Iz,false_eq_true->Ji,false_and->Js,true_and->JB,or_eq_false_iff->Mr,or_eq_true->MF,or_false->Pk,not_eq_false'->PU,or_true->Qs,false_or->Sv,true_or->Tx,and_eq_true_iff->Uq,not_eq_true'->VX,eq_false_iff->VY
open PySem.W renaming Frag->Fm,mg_of->F5,kitOne->HA,mg_none_of->HG,findIn->Ia,kia_one->Iw,fnOf->Iy,emptyDict->IT,keepIn->IU,instObj->JH,nsIn->Kb,callWith_K->Ld,codeIn->LD,methodCall_KW->LM,plainGet->Nw,lookIn->Oc,plainGet_of->OA,callWith_K0->OB,methodObj->Pg,hasDictIn->Ph,specialIn->Pj,isFn->Pl,length_le_weightAllW->QG,takerIn->QJ,nsMap_none_of_in->Rl,cellsFrom_some->RO,isNs_of_in->TY,plainOver->Uw,kitx_list->Ux,kitx_dict->Uy,WRecords->Vb,handedIn->Vc,makesIn->VD,takesIn->VE,findCls->VF,WalkOS->V3,typeIn->V4,nsOkIn->V5,mroIn->WO
open PySem renaming Value->Fp,Addr->Fq,Shared->Fw,wpAny_bind->FI,starEach->FU,Str->FY,wpAny->F4,wpAny_pure->Gb,Program->Gh,sizeLine->Gk,FuncData->Gz,wpAny_loadPart_at->GH,World->GR,mem_of_lookup->G6,Heap->Ha,Around->Hc,bindArgs->HD,boot_len->HF,Expr->HM,typeLookup->HZ,sizeLine_eq->Im,cellsFrom->Ir,excClassObj->IC,compareOp->IJ,attributeBase->IM,sysModules->IQ,wpAny_mono->IS,wpAny_truthy_bool->Je,backTo->Jf,Obj->Jh,builtinLookup_eq_fast->Jr,mainGlobals->Jx,keywordEach->Jy,checkBuiltinCall->JK,wpAny_Call_Name_kw->JQ,NameKind->J4,swapsWith->Kp,tupleKind_room_in1->Ky,wpAny_passesOwn->KJ,typeLookup_type->KL,foldedSetIterable->KU,backToKw->Lf,intItems->Lg,compEnvC->Lh,bootBuiltins->Lo,getMethod->Lu,codeAny->LO,plainObj_wpAny_Assign_Attribute->MA,numAt->MG,StoreFacts->MJ,wpAny_standAt->MR,argBest->MU,sliceBounds->MW,wpAny_execs_nil->Nf,codeAny_mono->Nt,ExcBaseFacts->Nu,tupleKind->NM,pushCells->NN,callWith->NS,Within->N6,wpAny_holding->Oa,rawInt->Ob,DictEntry->OC,letOwnedTupleGo->O7,pushCells_keeps->O8,codeAny_call_builtin->PZ,importBound->P1,binaryOp->P2,cLine->P4,PassesOwn->Ql,noteFrame->Qm,valueAt->Qr,wpAny_call->QW,GenState->Rm,atKey->Rn,wpAny_lookBehind->RM,pastItsLine_dict->RN,setFlight->RP,pyNext->RR,IsPair->RT,BindsTo->Tn,callerA->Tp,getAttr->Tq,setAttr->Tr,getItem->Tt,notedBy->Tw,wpAny_setField->TV,lastMarks->Vy,bindL->VG,bindC->VH,wpAny_nextOf_list_item->VP,tupleKeyHash->VR,wpAny_nsSet1->VT,wpAny_typeOf->VU,Fin->V8,wpAny_isTrue_Compare1->WC,wpAny_loadName_local->W3,ZipApart->Xc,wpAny_loadName_cell->XY,Builtin->X2,wpAny_getItem_heap->Zg,getattributeRaised->Zh,builtinsNs->Zi,wpAny_Name->Zj,typeIs_str->Zl,isInstance->Zm
open List renaming mem_cons_of_mem->Fx,mem_cons_self->Fy,length_map->FE,mem_cons->FF,length_cons->FG,length_append->FR,mem_singleton->FW,map_cons->FX,mem_append->F8,getElem?_eq_some_iff->Gq,nodup_cons->Gu,contains_iff_mem->Gw,size_toArray->Gy,getElem?_map->GB,contains_cons->GJ,append_assoc->GN,length_reverse->GS,append_nil->GV,reverse_cons->GZ,map_append->He,mem_of_getElem?->Hg,find?_cons->Hr,mem_append_right->Ht,drop_eq_getElem_cons->Hy,getElem?_eq_getElem->HI,not_mem_nil->HP,length_filter_le->Iv,filter_cons->IP,getD_eq_getElem?_getD->Ja,range->Jb,getElem?_eq_none->Jg,replicate->Jt,take_of_length_le->JA,lookup->JC,length_singleton->JF,take_add_one->JS,map_map->JT,takeWhile_cons->J3,lookup_cons->J5,take_length->J6,mem_reverse->J7,drop_of_length_le->Km,length_nil->Ku,length_take_le'->KR,mem_of_find?_eq_some->KY,filterMap_cons->K9,mem_map_of_mem->La,of_mem_zip->Lr,getElem?_replicate->LC,nodup_append->LN,mem_map->LP,all_eq_true->Md,length_drop->Me,any_eq_true->Mf,mem_append_left->Mp,mem_of_getLast?->Mq,getElem?_range->MI,nodup_nil->M4,find?_isSome->Nv,all_cons->NO,any_cons->NP,length_eq_zero_iff->NY,getElem?_set_self->N7,length_replicate->Ox,getElem?_set_ne->OI,drop_drop->OJ,take_zero->OK,length->OL,find?_eq_none->PR,filter_append->PV,length_filter_eq_length_iff->Qj,length_range->Qk,map_nil->Qq,length_take->QO,take_append->QP,drop_length->QQ,eq_nil_of_length_eq_zero->QV,find?_some->Rh,forIn_nil->RB,getElem?_append_left->RK,getLastD_eq_getLast?->RL,getLast?_cons_cons->SI,drop_eq_nil_of_le->Tg,append_eq_nil_iff->Th,all_map->Tv,any_map->Tz,take_append_drop->TK,eq_nil_or_concat->TM,concat_eq_append->TN,filterMap_append->TQ,getElem?_reverse->TR,mem_of_mem_take->Ur,dropLast_concat->Us,mem_of_mem_drop->Ut,toList_toArray->U3,reverse_append->U5,flatMap_append->U6,mem_filterMap->Vu,map_inj_right->Vw,any_eq_false->VS,find?_append->VV,mem_of_head?->VW,drop_sublist->VZ,cons_append->WE,perm_middle->WG,mem_filter->W5,forIn_cons->W6,length_zip->W7,map_const'->W8,filter_nil->W9,range_succ->Xa,sum_cons->Zn
open PySem.Heap renaming get?_push_of_some->FJ,lt_size->F7,get?_push_size->Hk,get?_update_other->Hm,size_push->HY,get?_update_self->JG,SameBut->MT,get?_update_ne->U4
open Option.some renaming inj->FL
open Nat renaming le_refl->FN,le_trans->FV,zero_le->F6,lt_of_lt_of_le->Ge,lt_of_le_of_lt->Gr,succ_le_succ->Hh,ne_of_lt->Hi,lt_succ_self->HQ,add_sub_cancel_left->Ie,lt_irrefl->Ii,lt_succ_of_lt->Jw,le_add_right->Ka,le_of_eq->Kq,le_of_lt->K3,add_comm->K4,zero_add->K5,le_succ->LI,le_of_succ_le->LS,ne_of_gt->LU,add_sub_cancel->Ng,add_right_comm->Nh,le_succ_of_le->NL,sub_self->QI,succ->RU,add_assoc->SJ,add_le_add_left->Vt,lt_of_le_of_ne->VQ,min_eq_right->W4,min_eq_left->XZ
open StateT renaming bind->F3
open PySem.Value renaming ref->F9,none->Ih,int->Kv,builtin->Mg,bool->MY,type->MZ,str->OM,isStrOf->Pc,float->T3
open Option renaming map_eq_some_iff->Gs,isSome_map->Ip,bind_eq_some_iff->II,isSome_iff_exists->K8,map_some->Ms,none->TB,some->TC,some_ne_none->TX,isSome_some->Uv,getD_none->Vz,map_map->WJ
open Or renaming inl->G9
open True renaming intro->Hs
open Vbemac.Tok renaming word->HJ,sign->Jq
open Sum renaming inr->Io,inl->JV
open PySem.Obj renaming mapFields->IB,isFreed_of_fields->Mb,data_mapFields->P0
open PySem.F renaming plainAttrs_list->ID,store_Exception->IE,slot_list_append->KZ,type_list_append->K0,slot_zip_getattribute->L6,slot_dict_getitem->Rf,excBase_Exception->Rg,slot_dict_pop->Sq,slot_list_pop->Sr,type_list_pop->Ss
open Ne renaming symm->IV
open False renaming elim->IZ
open PySem.PassesOwn renaming leaving->Jo,never->KW
open List.cons renaming inj->JL,injEq->Uz
open Sum.inr renaming inj->JM
open PyProof.Rows renaming envOfC->JR,callWith_type1->J9,boot_tuple->MS,callWith_builtin1->OH,boot_isinstance->O9,AllBare->Qp,subscriptTail->U7,subscriptTail_builtinR->VO,Subscript_->Zk
open Array renaming getElem?_eq_some_iff->KI,toList->SK,getElem?_toList->Ti,mem_toList_iff->TU,length_toList->Uu,find?_toList->U8,toList_map->V1
open PySem.Calls renaming spliced_cons->Lq,callWith_builtin->LK,spliced_nil->LL,evalArgs_plain->Oz,Name_function_global->Rk
open PyVbemac renaming desks->Lz
open PySem.NameKind renaming free->LW,cell->Rj
open PySem.Builtin.List renaming listTooLong->ME
open Int renaming toNat_of_nonneg->MQ,zero_add->T1,toNat_natCast->WD
open PySem.Builtin.SmallTypes renaming ownedTupleIsFree->Nc,nextOf->OD
open UInt8 renaming toNat->Nr,ofNat->OE,toNat_inj->QX,ofNat_toNat->Vx,toNat_lt->Xb
open ForInStep renaming yield->NQ
open Vbemac.Known renaming taken->N9
open Int.ofNat renaming inj->Oy
open PySem.Heap.Ns1 renaming of_empty->Pb
open PySem.Builtin.Dict renaming updateFrom->QH
open PySem.Paired renaming length->RC,snoc->Zp
open Nat.succ renaming inj->RD
open PySem.EntryCells renaming newEntry->RQ
open PySem.SeqAt.EqAt renaming int_str->Sw,str_int->Sx
open PySem.Around renaming under->Sy,under_plainId->Tj
open PySem.Code renaming isFrame->Ts,quiet_builtin->Vv
open PySem.Heap.DictOf renaming new->TF
open Vbemac.Exp renaming call->T4
open PySem.Data renaming seq->UA
open PySem.Value.type renaming inj->UC
open PySem.Txt renaming join->Vd
open PySem.Bind renaming checkArgs->X0
open Sum.inl renaming inj->Ya
open PySem.Str renaming join->Zq
open PySem.Within renaming cons->Zr
open PySem.Heap.IsSliceOf renaming new->abX
set_option Elab.async false
set_option linter.all false
set_option maxRecDepth 100000
set_option cleanup.letToHave false
set_option maxHeartbeats 4000000
set_option maxRecDepth 100000 in
set_option maxHeartbeats 0 in
theorem OS.abY:PySem.Challenge.rw_ordersheets_s09_desks.wellSaid=FS:=by decide+kernel
namespace OS
open PySem PySem.W
def live (o:Jh):FA Jh:=match o with
 |⟨_,_, .freed,_⟩=>FM
 |o=>FB o
noncomputable def pick (l:Fh Jh):FH->Fh FH->Fh (FA Jh):=
 @Fh.rec Jh (λ_=>FH->Fh FH->Fh (FA Jh)) (λ_ _=>[])
  (λo _ f i as=> @Fh.rec FH (λ_=>Fh (FA Jh)) [] (λa t _=> @GA.rec (λ_=>Fh (FA Jh)) (f (RU i) as) (live o::f (RU i) t) (FH.beq a i)) as) l
theorem zP (o:Jh) (l:Fh Jh) (i a:FH) (t:Fh FH):pick (o::l) i (a::t)=if a=i then live o::pick l (i+1) t else pick l (i+1) (a::t):=by
 show @GA.rec (λ_=>Fh (FA Jh)) _ _ (FH.beq a i)=_
 cases h:FH.beq a i
 ·rw[Fs (FH.ne_of_beq_eq_false h)];rfl
 ·rw[Fv (FH.eq_of_beq_eq_true h)];rfl
theorem Fb {K:Fh (FH×Jh)}(l:Fh Jh): ∀(i:FH),pick l i (K.map (·.1))=K.map (λp=>FB p.2)-> ∀p∈K,i<=p.1/\l[p.1-i]?.bind live=FB p.2:=by
 induction l generalizing K with
 |nil=>
  intro i h p hp;cases K with
  |nil=>cases hp
  |cons q r=>cases h
 |cons o l ih=>
  intro i h p hp;cases K with
  |nil=>cases hp
  |cons q r=>
   rw[FX,zP] at h;split at h
   ·rename_i e
    obtain⟨h1,h2⟩:=JL h;rcases FF.mp hp with z|z
    ·rw[z,e,QI];exact#[FN _,h1]
    ·have⟨a,b⟩:=ih (i+1) h2 p z
     refine#[by lia,?_];rw[show p.1-i=p.1-(i+1)+1 by lia];exact b
   ·have⟨a,b⟩:=ih (K:=q::r) (i+1) h p hp
    refine#[by lia,?_];rw[show p.1-i=p.1-(i+1)+1 by lia];exact b
theorem uS {K:Frag}{a:FH}{o:Jh}(e:K.lookup a=FB o):(a,o)∈K:=by
 induction K with
 |nil=>cases e
 |cons p r ih=>
  obtain⟨b,x⟩:=p;simp only[JC] at e;split at e
  ·rename_i q;cases e;rw[beq_iff_eq.mp q];exact .head _
  ·exact .tail _ (ih e)
noncomputable def hook (K:Params->Frag) (as:Fh FH) (e: ∀P,as=(K P).map (·.1)):Hook:=
 #[Fh (FA Jh),λs=>pick s.heap.objs.toList 0 as,λw=>(K w.params).map λp=>FB p.2,InK K,λw s h a o x=>by
  rw[e w.params] at h;have:=(Fb _ 0 h _ (uS x)).2;rw[Ti] at this;unfold Ha.get?;cases z:s.heap.objs[a]? with
  |none=>rw[show(a,o).1-0=a from rfl,z] at this;cases this
  |some y=>rw[show(a,o).1-0=a from rfl,z] at this;rcases y with⟨_,_,x,_⟩;cases x<;>exact this,InK.keeps]
theorem VI {K:Params->Frag}{as:Fh FH}{e: ∀P,as=(K P).map (·.1)} {w:GR}{h:Ha}(Y:(hook K as e).says w h):(K w.params).In h:=Y
end OS
namespace L2
open PySem PySem.Spec PyProof.Rows
abbrev be:=Sum Int FY
def jq:be->Fp->GA
 | .inl k,v=>Fp.isInt k v
 | .inr x,v=>Pc x v
def ai8 (w:GR):be->Int
 | .inl k=>hashInt k
 | .inr x=>hashStr w x
theorem cJ: ∀ {k:be}{v:Fp},jq k v=FS->(∃i t,k=JV i/\v=Kv i t)\/(∃x t,k=Io x/\v=OM x t)
 | .inl i,v,h=>by
  obtain⟨t,e⟩:=Fp.isInt_shape (k:=i) (v:=v) h;exact .inl #[i,t,Go,e]
 | .inr x,v,h=>by
  obtain⟨t,e⟩:=Fp.isStrOf_shape (x:=x) (v:=v) h;exact .inr #[x,t,Go,e]
theorem Zu (a b:Int):decide ((JV a:be)=JV b)=(a == b):=by
 by_cases e:a=b
 ·subst e;simp
 ·have h: ¬(JV a:be)=JV b:=λq=>e (Ya q)
  rw[Gg h];exact(beq_eq_false_iff_ne.mpr e).symm
theorem Zv (a b:FY):decide ((Io a:be)=Io b)=decide (a=b):=by
 by_cases e:a=b
 ·subst e;simp
 ·have h: ¬(Io a:be)=Io b:=λq=>e (JM q)
  rw[Gg h,Gg e]
theorem Zw (a:Int) (b:FY):decide ((JV a:be)=Io b)=Gc:=Gg (λq=>nomatch q)
theorem Zy (a:FY) (b:Int):decide ((Io a:be)=JV b)=Gc:=Gg (λq=>nomatch q)
def aW (prog:Gh) (w:GR):PySem.KeyKind prog w be where
 is:=jq
 hash:=ai8 w
 inj:=λv a b ha hb=>by
  rcases cJ ha with⟨i,t,rfl,rfl⟩|⟨x,t,rfl,rfl⟩
  ·rcases cJ hb with⟨j,u,rfl,e⟩|⟨y,u,rfl,e⟩
   ·injection e with e1 _;rw[e1]
   ·exact nomatch e
  ·rcases cJ hb with⟨j,u,rfl,e⟩|⟨y,u,rfl,e⟩
   ·exact nomatch e
   ·injection e with e1 _;rw[e1]
 byValue:=λk v h=>by
  rcases cJ h with⟨i,t,rfl,rfl⟩|⟨x,t,rfl,rfl⟩<;>rfl
 pyHash:=λhv h=>by
  rcases cJ hv with⟨i,t,rfl,rfl⟩|⟨x,t,rfl,rfl⟩
  ·exact wpAny_pyHash_int h
  ·exact wpAny_pyHash_str h
 eqBool:=λhu hv h=>by
  rcases cJ hu with⟨i,t,rfl,rfl⟩|⟨x,t,rfl,rfl⟩
  ·rcases cJ hv with⟨j,u,rfl,rfl⟩|⟨y,u,rfl,rfl⟩
   ·rw[Zu] at h;exact wpAny_eqBool_int h
   ·rw[Zw] at h;exact Sw i t y u _ _ _ _ h
  ·rcases cJ hv with⟨j,u,rfl,rfl⟩|⟨y,u,rfl,rfl⟩
   ·rw[Zy] at h;exact Sx x t j u _ _ _ _ h
   ·rw[Zv] at h;exact wpAny_eqBool_str h
 «strs»:=λk x t v h=>by
  rcases cJ h with⟨i,u,rfl,e⟩|⟨y,u,rfl,e⟩
  ·exact nomatch e
  ·injection e with e1 _
   subst e1;cases v<;>rfl
inductive V where
 |IX|bl (b:GA)|int (i:Int)|str (x:FY)|SM (b:JE Jm)|Yb (b:UInt64)|ref (a:Fq)|ty (n:String)
 deriving DecidableEq
def br:V->Fp->Prop
 | .IX,u=>u=Ih
 | .bl b,u=>u=MY b
 | .int i,u=> ∃t,u=Kv i t
 | .str x,u=> ∃t,u=OM x t
 | .SM b,u=> ∃t,u=Fp.bytes b t
 | .Yb b,u=> ∃t,u=T3 b t
 | .ref a,u=>u=F9 a
 | .ty n,u=>u=MZ n
abbrev a8:Fh V->Fh Fp->Prop:=Paired br
def fQ:FA V->FA Fp->Prop
 |some v,some u=>br v u
 |none,none=>True
 |_,_=>False
def KV {κ:Type} :Fh (κ×V)->Fh (κ×Fp)->Prop:=Paired λ(p:κ×V) (q:κ×Fp)=>p.1=q.1/\br p.2 q.2
def kV:be->V
 | .inl i=> .int i
 | .inr x=> .str x
inductive HO where
  |lst (xs:Fh V)
  |tup (xs:Fh V)
  |dK (aC:Fh (be×V))|dT (aC:Fh (Fh be×V))
  |set (S:Int->GA) (n:FH)
  |ins (C dx:Fq) (fs:Fh (FY×V))
  |own (x:Fq)
  |xd (fs:Fh (FY×V))
  |met (f x:Fq)
  |rng (lo hi:Int)
  |QY (o:Jh) (u:HO)
  |Zz (ps:JE Fp)
  |ext (φ:Ha->Prop)
abbrev Hp:=Fq->FA HO
section
variable (P:Gh) (w:GR)
def cy (H:Hp) (h:Ha) (a:Fq):HO->Prop
 | .lst xs=>xs.length<=Gk/\ ∃(HR:Fh Fp) (n:FH),a8 xs HR/\h.get? a=FB { cls:= .type "list",data:= .seq HR.toArray n }
 | .tup xs=>xs.length<=Gk/\ ∃HR:Fh Fp,a8 xs HR/\IsTup h a HR.toArray
 | .dK aC=>aC.length<=Gk/\(a == IQ)=Gc/\ ∃vs,KV aC vs/\h.DictOf (aW P w) a vs
 | .dT aC=>aC.length<=Gk/\(a == IQ)=Gc/\ ∃xs:Fh (Fh be×Fq×Fp),
   Paired (λ(p:Fh be×V) (q:Fh be×Fq×Fp)=>p.1=q.1/\H q.2.1=FB (.tup (p.1.map kV))/\br p.2 q.2.2) aC xs/\
   ∃o es ep,h.get? a=FB o/\o.ExactDict/\o.data= .dict es ep/\es.toList=xs.map (entryOfKey (NM (aW P w)))/\(xs.map (·.1)).Nodup
 | .set S n=>h.SetOf (intKind P w) a S n
 | .ins C dx fs=>H dx=FB (.own a)/\fs.length<=1000/\dx≠a/\h.get? a=FB (JH C dx)/\
   ∃mA,h.Ns1 dx mA/\(∀f,fQ (fs.lookup f) (mA f))/\N6 mA (fs.map (·.1))
 | .own _=> ∃o,h.get? a=FB o
 | .xd fs=> ∃mA,h.Ns1 a mA/\ ∀f,fQ (fs.lookup f) (mA f)
 | .rng lo hi=> ∃t u v,h.get? a=FB { cls:= .type "range",data:= .fields [.int lo t, .int hi u, .int 1 v].toArray }
 | .QY o u=>h.get? a=FB o/\cy H h a u
 | .Zz ps=>h.get? a=FB { cls:= .none,data:= .fields ps }
 | .met f x=>h.get? a=FB (Pg (.ref f) (.ref x))
 | .ext φ=>φ h/\(∃o,h.get? a=FB o)/\ ∀h1 h2:Ha,φ h1->(∀o,h1.get? a=FB o->h2.get? a=FB o)->φ h2
def ij (H:Hp) (h:Ha):Prop:= ∀a o,H a=FB o->cy P w H h a o
end
def Rd (H:Hp) (a:Fq) (u:HO):Prop:=H a=FB u\/ ∃o,H a=FB (.QY o u)
theorem Rd.ok {P:Gh}{w:GR}{H:Hp}{h:Ha}{a:Fq}{u:HO}(r:Rd H a u) (x:ij P w H h):cy P w H h a u:=by
 rcases r with r|⟨o,r⟩
 ·exact x a u r
 ·obtain⟨_,q⟩:=x a _ r
  exact q
structure Un (fs ex:Fh Fq) (H H':Hp) (h h':Ha):Prop where
 keep: ∀b o,h.get? b=FB o->H b=FM->b∉fs->b∉ex->h'.get? b=FB o
 slot: ∀b o,h.get? b=FB o->H b=FM->b∈fs->b∉ex-> ∃sl,h'.get? b=FB { o with slots:=sl }
 free: ∀b o,h.get? b=FB o->H b=FM->b∉ex->H' b=FM
 there: ∀b o,h.get? b=FB o->b∉ex-> ∃o',h'.get? b=FB o'
 Rp: ∀b xs,H b=FB (.tup xs)->H' b=FB (.tup xs)
 QZ: ∀b o u,H b=FB (.QY o u)->H' b=FB (.QY o u)
 Rq: ∀b ps,H b=FB (.Zz ps)-> ∃more,H' b=FB (.Zz (ps++more))
def Bc (h:Ha) (H:Hp):Fh Fq:=(Jb h.objs.size).filter λa=>(H a).isSome
def rA (h:Ha) (H:Hp):Ha:=PySem.W.hideAll h (Bc h H)
theorem zA (h:Ha) (H:Hp):(rA h H).objs.size=h.objs.size:=PySem.W.hideAll_size _ _
theorem Bt {h:Ha}{H:Hp}{b:Fq}{o:Jh}(e:h.get? b=FB o) (n:H b=FM):(rA h H).get? b=FB o:=
 PySem.W.hideAll_get _ e λhm=>by
  have q:(H b).isSome=FS:=(W5.mp hm).2;rw[n] at q;simp at q
theorem E1 {h:Ha}{H:Hp}{b:Fq}{o:Jh}(e:(rA h H).get? b=FB o):h.get? b=FB o/\H b=FM:=by
 have e':h.get? b=FB o:=PySem.W.of_hideAll (Bc h H) e;refine#[e',?_];cases q:H b with
 |none=>rfl
 |some x=>
  have hm:b∈Bc h H:=W5.mpr #[Fh.mem_range.mpr (F7 e'),by simp [q]]
  have z:(rA h H).get? b=FM:=PySem.W.hideAll_none (Bc h H) hm;rw[z] at e;cases e
structure Mod (K:Fm) (mg:FY->FA Fp) (base:Ha):Prop where
 VI:K.In base
 glob:base.Ns Jx mg
 blt: ∃mb,base.Ns Zi mb/\ ∀x:FY,x≠"__name__"->mb x=Lo x
 nolimit:base.NoLimit
def rQ (l:Fh Env):Fh Fq:=l.filterMap (·.frame)
abbrev XK:=Fp->FA Fq->Hp->Prop
abbrev VK:=V->Hp->Prop
def cw (K:Fm) (H:Hp) (a:Fq) (xs:Fh V):Prop:=
 Rd H a (.lst xs)\/
  ∃(o:Jh) (HR:JE Fp) (n:FH),K.lookup a=FB o/\o.cls= .type "list"/\o.dict=FM/\o.data= .seq HR n/\HR.size<=Gk/\a8 xs HR.toList
def rc (K:Fm) (H:Hp) (a:Fq) (xs:Fh V):Prop:=
 Rd H a (.tup xs)\/
  ∃(o:Jh) (HR:JE Fp) (n:FH),K.lookup a=FB o/\o.cls= .type "tuple"/\o.data= .seq HR n/\HR.size<=Gk/\a8 xs HR.toList
section
variable {X:Cx}{pins:Fh (Fq×Jh)}{σ:St}{H:Hp}{s:Fw}{a:Fq}{xs ys:Fh V}
theorem cw.of {K:Fm}(h:H a=FB (.lst xs)):cw K H a xs:= .inl (.inl h)
end
structure gG (K:Fm) (C:Fq):Prop where
 pg:Nw K C FY.empty=FS
 hd:Ph K C=FS
 po:Uw K C=FS
 sa:Ia K (.ref C) "__setattr__"=FB (FB (.builtin "object.__setattr__"))
def au (K:Fm) (C:Fq) (f:FY):Prop:=Ia K (.ref C) f=FB FM
structure Meth (K:Fm) (C:Fq) (m:FY) (f:Fq):Prop where
 at_:Ia K (.ref C) m=FB (FB (.ref f))
 fn:Pl K (.ref f)=FS
 kp:IU K (.ref f)=FS
structure bZ (k:FH) (A:Hc):Prop where
 hd:A.handled=FM
 dp:A.depth+2*k+5<recursionLimit
 un:A.units+16*k+200<P4
abbrev Sp:=Fh V->Hp->VK->XK->Prop
abbrev pV:=Fh Env->Hp->Fw->XK->Fp->Fw->Prop
structure wm (P:Gh) (w:GR) (K:Fm) (mg:FY->FA Fp) (base:Ha) (A:Hc) (outer:Fh Env) (s:Fw) (H:Hp):Prop where
 frames:A.frames=FB outer
 mod:Mod K mg base
 bs: ∀b o,base.get? b=FB o->s.heap.get? b=FB o/\H b=FM
 Ve:base.objs.size<=s.heap.objs.size
 funs:s.heap.FunFrames base outer
 WQ: ∀b∈rQ outer,H b=FM
 IF:ij P w H s.heap
 bare:Qp s.gens
def CE (outer:Fh Env) (P:Gh) (w:GR) (H:Hp) (s:Fw) (Q:VK) (u:Fp) (s':Fw):Prop:=
 ∃v H',s'.os=s.os/\Qp s'.gens/\Un (rQ outer) [] H H' s.heap s'.heap/\ij P w H' s'.heap/\br v u/\Q v H'
def CR (CX:pV) (outer:Fh Env) (P:Gh) (w:GR) (H:Hp) (s:Fw) (Q:VK) (E:XK) (r:Result) (s':Fw):Prop:=
 match r with
 | .ok (.ret u)=>CE outer P w H s Q u s'
 | .ok _=>False
 | .error e=>CX outer H s E e s'
structure bV (P:Gh) (w:GR) (K:Fm) (mg:FY->FA Fp) (base:Ha) (CX:pV) (k:FH) (f:Fq) (fd:Gz) (ps:Fh FY) (sp:Sp):Prop where
 len: ∀vs H Q E,sp vs H Q E->vs.length=ps.length
 run: ∀(A:Hc) (outer:Fh Env) (s:Fw) (H:Hp) (args:Args) (us:Fh Fp) (vs:Fh V) (Q:VK) (E:XK),bZ k A->wm P w K mg base A outer s H->Tn s fd args (ps.zip us)->a8 vs us->sp vs H Q E->
  LO (model P w) A (.call (.ref f) args) (CR CX outer P w H s Q E) s
def gu (K:Fm) (fd:Gz) (ps:Fh FY) (ds:Fh Fp):Prop:=
 ∀(s:Fw) (us:Fh Fp),K.In s.heap->(us++ds).length=ps.length->Tn s fd #[us,[]] (ps.zip (us++ds))
theorem gu.all {K:Fm}{fd:Gz}{ps:Fh FY}(h: ∀us:Fh Fp,us.length=ps.length->HD fd #[us,[]]=pure [018]):gu K fd ps []:=λs us _ hl=>by
 rw[GV] at hl ⊢;exact .of_eq (h us hl)
section
variable {X:Cx}{CX:pV}{k:FH}{f C:Fq}{fd:Gz}{ps:Fh FY}{sp:Sp}{RE:Fh V}{ds:Fh Fp}{E:XK}{x m:FY}{p pos Ly:Pos}{e o:HM}{es:Fh HM}{ta:TE}{t:TA}
structure CD (K:Fm) (mg:FY->FA Fp) (x:FY) (f:Fq) (fd:Gz) (ps:Fh FY):Prop where
 m:mg x=FB (.ref f)
 k:IU K (.ref f)=FS
 b:gu K fd ps []
structure MD (K:Fm) (C:Fq) (m:FY) (f:Fq) (fd:Gz) (ps:Fh FY):Prop where
 m:Meth K C m f
 b:gu K fd ps []
structure Mk (K:Fm) (C f:Fq):Prop where
 makes:VD K C=FS
 init:Ia K (.ref C) "__init__"=FB (FB (.ref f))
 fn:Pl K (.ref f)=FS
 kp:IU K (.ref C)=FS
end
def aB (s:Stmt) (j:FH):Stmt:=match s with
 | .ClassDef _ _ _ body _ _ _ _ _ _ _=>body.getD j (.Pass #[0,0,0,0])
 |_=> .Pass #[0,0,0,0]
def dP (s:Stmt):Arguments:=match s with
 | .FunctionDef _ a _ _ _ _ _ _ _ _=>a
 |_=> { posonlyargs:=[],args:=[],vararg:=FM,kwonlyargs:=[],kw_defaults:=[],kwarg:=FM,defaults:=[] }
def bf (s:Stmt):Fh Stmt:=match s with
 | .FunctionDef _ _ b _ _ _ _ _ _ _=>b
 |_=>[]
def af (s:Stmt):Scope:=match s with
 | .FunctionDef _ _ _ _ _ _ sc _ _ _=>sc
 |_=> { kind:= .function,names:=[],isGenerator:=Gc,isCoroutine:=Gc }
abbrev ye:pV:=λ_ _ _ _ _ _=>False
structure oY (K:Fm) (x Hl:FY) (st:Stmt) (f:Fq) (fd:Gz):Prop where
 ex: ∃(oc:Fp) (od:FA Fq) (kV doc pm:Fp) (an:FA Fq) (Hb ct:Fp) (WR:JE (FA Fp)),
  fd=Iy x Hl (dP st) (bf st) (af st) .none kV doc pm an Hb ct/\K.lookup f=FB #[oc,od, .func fd,WR]/\LD K Hb Hl=FS
 kp:IU K (.ref f)=FS
section
variable {P:Gh}{w:GR}{K:Fm}{mg:FY->FA Fp}{base:Ha}
theorem oY.binds {x Hl:FY}{st:Stmt}{f:Fq}{fd:Gz}{ps:Fh FY}(F:oY K x Hl st f fd)
  (h: ∀(kV doc pm:Fp) (an:FA Fq) (Hb ct:Fp) (us:Fh Fp),us.length=ps.length->HD (Iy x Hl (dP st) (bf st) (af st) .none kV doc pm an Hb ct) #[us,[]]=pure [018]):gu K fd ps []:=by
 obtain⟨oc,od,kV,doc,pm,an,Hb,ct,WR,rfl,lk,SN⟩:=F.ex;exact .all (h kV doc pm an Hb ct)
theorem kU {x Hl:FY}{st:Stmt}{f:Fq}{oc:Fp}{od an:FA Fq}{WR:JE (FA Fp)}{kV doc pm Hb ct:Fp}(l:K.lookup f=FB #[oc,od, .func (Iy x Hl (dP st) (bf st) (af st) .none kV doc pm an Hb ct),WR])
  (c:LD K Hb Hl=FS) (k:IU K (.ref f)=FS):oY K x Hl st f (Iy x Hl (dP st) (bf st) (af st) .none kV doc pm an Hb ct):=#[#[oc,od,kV,doc,pm,an,Hb,ct,WR,Go,l,c],k]
end
end L2
section
set_option maxHeartbeats 2000000
namespace L2
open PySem PySem.Spec PyProof.Rows
open PySem.W (WData Codec OpenSpec Well WellAll ReadsW ReadsAllW)
mutual
inductive Dw (K:Fm) (H:Hp):V->WData->Prop
 |IX:Dw K H .IX .none
 |bl (b:GA):Dw K H (.bl b) (.bool b)
 |int (i:Int):Dw K H (.int i) (.int i)
 |str (x:FY):Dw K H (.str x) (.str x)
 |SM (b:JE Jm):Dw K H (.SM b) (.bytes b.toList)
 |lst {a:Fq}{xs:Fh V}{ds:Fh WData} :cw K H a xs->io K H xs ds->Dw K H (.ref a) (.list ds)
 |tup {a:Fq}{xs:Fh V}{ds:Fh WData} :rc K H a xs->io K H xs ds->Dw K H (.ref a) (.tuple ds)
inductive io (K:Fm) (H:Hp):Fh V->Fh WData->Prop
 |nil:io K H [] []
 |cons {v:V}{vs:Fh V}{d:WData}{ds:Fh WData} :Dw K H v d->io K H vs ds->io K H (v::vs) (d::ds)
end
theorem wX {K:Fm}{H:Hp} : ∀ns:Fh Int,io K H (ns.map V.int) (ns.map WData.int)
 |[]=> .nil
 |n::r=> .cons (.int n) (wX r)
theorem xE {K:Fm}{H:Hp} : ∀(ns:Fh Int) (xs:Fh V),io K H xs (ns.map WData.int)->xs=ns.map V.int
 |[],xs,h=>by
  cases h
  rfl
 |n::r,xs,h=>by
  cases h with
  |cons h1 h2=>
   cases h1;rw[xE r _ h2]<;>rfl
section
variable {P:Gh}{w:GR}{K:Fm}{H:Hp}{h:Ha}{R:Vb}{cl:FY->FA Fq}
theorem ZA {a:Fq}(IF:ij P w H h) (KX:K.In h) (q:cw K H a xs): ∃(HR:Fh Fp) (o:Jh) (n:FH),a8 xs HR/\h.get? a=FB o/\o.cls= .type "list"/\o.data= .seq HR.toArray n:=by
 rcases q with q|⟨o,HR,n,e,hc,_,hd,_,hv⟩
 ·obtain⟨_,HR,n,hv,e⟩:=(show cy P w H h a (.lst xs) from q.ok IF)
  exact#[HR,_,n,hv,e,Go,Go]
 ·exact#[HR.toList,o,n,hv,KX _ _ e,hc,by simp [hd]]
theorem ZC {a:Fq}(IF:ij P w H h) (KX:K.In h) (q:rc K H a xs): ∃(HR:Fh Fp) (o:Jh) (n:FH),a8 xs HR/\h.get? a=FB o/\o.cls= .type "tuple"/\o.data= .seq HR.toArray n:=by
 rcases q with q|⟨o,HR,n,e,hc,hd,_,hv⟩
 ·obtain⟨_,HR,hv,o,e,hc,n,hd⟩:=(show cy P w H h a (.tup xs) from q.ok IF)
  exact#[HR,o,n,hv,e,hc,hd]
 ·exact#[HR.toList,o,n,hv,KX _ _ e,hc,by simp [hd]]
mutual
theorem Dw.reads (IF:ij P w H h) (KX:K.In h): ∀(d:WData) (v:V) (u:Fp),Dw K H v d->br v u-> ∃as,ReadsW R cl h u d as
 | .none,_,_,x,r=>by
  cases x;cases r;exact#[_,ReadsW.none]
 | .bool b,_,_,x,r=>by
  cases x;cases r;exact#[_,ReadsW.bool b]
 | .int i,_,_,x,r=>by
  cases x;obtain⟨t,rfl⟩:=r;exact#[_,ReadsW.int i t]
 | .str s,_,_,x,r=>by
  cases x;obtain⟨t,rfl⟩:=r;exact#[_,ReadsW.str s t]
 | .bytes b,_,_,x,r=>by
  cases x;obtain⟨t,rfl⟩:=r;exact#[_,ReadsW.bytes _ t]
 | .list ds,_,_,x,r=>by
  cases x with
  |lst hs ha=>
   cases r;obtain⟨HR,o,n,rv,ho,hc,hd⟩:=ZA IF KX hs;obtain⟨as,hr⟩:=Dw.readsAll IF KX ds _ HR ha rv;exact#[_,ReadsW.list ho hc hd hr]
 | .tuple ds,_,_,x,r=>by
  cases x with
  |tup hs ha=>
   cases r;obtain⟨HR,o,n,rv,ho,hc,hd⟩:=ZC IF KX hs;obtain⟨as,hr⟩:=Dw.readsAll IF KX ds _ HR ha rv;exact#[_,ReadsW.tuple ho hc hd hr]
 | .float _,_,_,x,_=>by cases x
 | .dict _,_,_,x,_=>by cases x
 | .bytearray _,_,_,x,_=>by cases x
 | .set _,_,_,x,_=>by cases x
 | .frozenset _,_,_,x,_=>by cases x
 | .obj _ _,_,_,x,_=>by cases x
theorem Dw.readsAll (IF:ij P w H h) (KX:K.In h): ∀(ds:Fh WData) (vs:Fh V) (us:Fh Fp),io K H vs ds->a8 vs us-> ∃as,ReadsAllW R cl h us ds as
 |[],_,_,x,r=>by
  cases x;cases r;exact#[_,ReadsAllW.nil]
 |d::ds,_,_,x,r=>by
  cases x with
  |cons h1 h2=>
   cases r with
   |cons r1 r2=>
    obtain⟨as,q1⟩:=Dw.reads IF KX d _ _ h1 r1;obtain⟨bs,q2⟩:=Dw.readsAll IF KX ds _ _ h2 r2;exact#[_,ReadsAllW.cons q1 q2]
end
end
mutual
def xP:WData->GA
 | .none=>FS
 | .bool _=>FS
 | .int _=>FS
 | .str _=>FS
 | .bytes _=>FS
 | .list xs=>ma xs
 | .tuple xs=>ma xs
 |_=>Gc
def ma:Fh WData->GA
 |[]=>FS
 |x::r=>xP x&&ma r
end
theorem sW {α:Type}{f:α->WData}(h: ∀a,xP (f a)=FS): ∀l:Fh α,ma (l.map f)=FS
 |[]=>rfl
 |x::r=>by
  show(xP (f x)&&ma (r.map f))=FS
  rw[h x,sW h r]<;>rfl
theorem iZ: ∀(c:Codec) (a:c.denote),xP (c.enc a)=FS
 | .unit,_=>rfl
 | .bool,_=>rfl
 | .int _ _,_=>rfl
 | .nat _ _,_=>rfl
 | .u8,_=>rfl
 | .bytes _ _,_=>rfl
 | .text _ _ _ _,_=>rfl
 | .list _ _ c,a=>sW (λx=>iZ c x) a
 | .pair c d,a=>by
  show(xP (c.enc a.1)&&(xP (d.enc a.2)&&FS))=FS
  rw[iZ c a.1,iZ d a.2]<;>rfl
 | .triple c d e,a=>by
  show(xP (c.enc a.1)&&(xP (d.enc a.2.1)&&(xP (e.enc a.2.2)&&FS)))=FS
  rw[iZ c a.1,iZ d a.2.1,iZ e a.2.2]<;>rfl
 | .option c,none=>rfl
 | .option c,some x=>iZ c x
theorem pJ: ∀(cs:Fh Codec) (a:Codec.denoteAll cs),ma (Codec.encAll cs a)=FS
 |[],_=>rfl
 |c::cs,a=>by
  show(xP (c.enc a.1)&&ma (Codec.encAll cs a.2))=FS
  rw[iZ c a.1,pJ cs a.2]<;>rfl
theorem jN: ∀ {xs:Fh WData}{d:WData},d∈xs->d.weight<=WData.weightAll xs
 |[],d,h=>FP h (by simp)
 |x::r,d,h=>by
  show d.weight<=x.weight+1+WData.weightAll r
  rcases FF.mp h with e|m
  ·rw[e]
   omega
  ·have z:=jN m
   omega
def sZ:Fp->V
 | .none=> .IX
 | .bool b=> .bl b
 | .int i _=> .int i
 | .str x _=> .str x
 | .bytes b _=> .SM b
 | .ref a=> .ref a
 |_=> .IX
def zE (A:Fh Fq):Fp->Prop
 | .none=>True
 | .bool _=>True
 | .int _ _=>True
 | .str _ _=>True
 | .bytes _ _=>True
 | .ref a=>a∈A
 |_=>False
theorem zE.mono {A B:Fh Fq}(h: ∀a∈A,a∈B): ∀ {u:Fp},zE A u->zE B u:=λ{u} x=>by
 cases u with
 |ref a=>exact h a x
 |none=>trivial
 |bool b=>trivial
 |int i t=>trivial
 |str s t=>trivial
 |bytes b t=>trivial
 |_=>exact IZ x
theorem AZ {A:Fh Fq}(x:zE A u):br (sZ u) u:=by
 cases u with
 |ref a=>rfl
 |none=>rfl
 |bool b=>rfl
 |int i t=>exact#[t,Go]
 |str s t=>exact#[t,Go]
 |bytes b t=>exact#[t,Go]
 |_=>exact IZ x
theorem gQ {A:Fh Fq} : ∀ {vs:Fh Fp},(∀u∈vs,zE A u)->a8 (vs.map sZ) vs
 |[],_=> .nil
 |u::r,h=> .cons (AZ (h u (Fy ..))) (gQ λx hx=>h x (Fx _ hx))
def ip (h:Ha) (A:Fh Fq) (a:Fq):Prop:= ∃vs:Fh Fp,vs.length<=Gk/\(∀u∈vs,zE A u)/\
 (h.get? a=FB { cls:= .type "list",data:= .seq vs.toArray } \/h.get? a=FB { cls:= .type "tuple",data:= .seq vs.toArray })
theorem ip.mono {h:Ha}{A B:Fh Fq}{a:Fq}(k: ∀a∈A,a∈B) (x:ip h A a):ip h B a:=by
 obtain⟨vs,h1,h2,h3⟩:=x;exact#[vs,h1,λu hu=>(h2 u hu).mono k,h3]
theorem gj {P:Params}{h:Ha} : ∀ {vs:Fh Fp}{ds:Fh WData},WellAll P h vs ds->vs.length=ds.length
 |_,_, .nil=>rfl
 |_,_, .cons _ b=>by
  show _+1=_+1
  rw[gj b]
theorem qj {P:Params}{h:Ha}(x:Well P h v (.list ds)): ∃(a:Fq) (vs:Fh Fp),v= .ref a/\h.get? a=FB { cls:= .type "list",data:= .seq vs.toArray } /\WellAll P h vs ds:=by
 cases x with
 |list ho P5=>exact#[_,_,Go,ho,P5]
theorem nh {P:Params}{h:Ha}(x:Well P h v (.tuple ds)): ∃(a:Fq) (vs:Fh Fp),v= .ref a/\h.get? a=FB { cls:= .type "tuple",data:= .seq vs.toArray } /\WellAll P h vs ds:=by
 cases x with
 |tuple ho P5=>exact#[_,_,Go,ho,P5]
theorem qy {P:Params}{h:Ha}(x:WellAll P h us (d::ds)): ∃(v:Fp) (vs:Fh Fp),us=v::vs/\Well P h v d/\WellAll P h vs ds:=by
 cases x with
 |cons a b=>exact#[_,_,Go,a,b]
theorem xD (h:n<=1048576):n<=Gk:=FV h [01]
section
variable {P:Params}{h:Ha}
mutual
theorem CK: ∀(d:WData) (v:Fp),Well P h v d->xP d=FS->d.weight<=1048576-> ∃A:Fh Fq,zE A v/\ ∀a∈A,ip h A a
 | .none,_,x,_,_=>by
  cases x;exact#[[],trivial,λa m=>FP m (by simp)]
 | .bool b,_,x,_,_=>by
  cases x;exact#[[],trivial,λa m=>FP m (by simp)]
 | .int i,_,x,_,_=>by
  cases x;exact#[[],trivial,λa m=>FP m (by simp)]
 | .str s,_,x,_,_=>by
  cases x;exact#[[],trivial,λa m=>FP m (by simp)]
 | .bytes b,_,x,_,_=>by
  cases x;exact#[[],trivial,λa m=>FP m (by simp)]
 | .list ds,_,x,p,z=>by
  obtain⟨a,vs,rfl,ho,P5⟩:=qj x;have z2:WData.weightAll ds<=1048576:=z;obtain⟨A,h1,h2⟩:=kq ds _ P5 p λd hd=>FV (jN hd) z2;have k: ∀b∈A,b∈a::A:=λb hb=>Fx _ hb
  refine#[a::A,Fy ..,λb hb=>?_];rcases FF.mp hb with e|m
  ·rw[e]
   exact#[vs,xD (by rw[gj P5];exact FV (QG ds) z2),λu hu=>(h1 u hu).mono k, .inl ho]
  ·exact(h2 b m).mono k
 | .tuple ds,_,x,p,z=>by
  obtain⟨a,vs,rfl,ho,P5⟩:=nh x;have z2:WData.weightAll ds<=1048576:=z;obtain⟨A,h1,h2⟩:=kq ds _ P5 p λd hd=>FV (jN hd) z2;have k: ∀b∈A,b∈a::A:=λb hb=>Fx _ hb
  refine#[a::A,Fy ..,λb hb=>?_];rcases FF.mp hb with e|m
  ·rw[e]
   exact#[vs,xD (by rw[gj P5];exact FV (QG ds) z2),λu hu=>(h1 u hu).mono k, .inr ho]
  ·exact(h2 b m).mono k
 | .float _,_,_,p,_=>HC (show Gc=FS from p)
 | .dict _,_,_,p,_=>HC (show Gc=FS from p)
 | .bytearray _,_,_,p,_=>HC (show Gc=FS from p)
 | .set _,_,_,p,_=>HC (show Gc=FS from p)
 | .frozenset _,_,_,p,_=>HC (show Gc=FS from p)
 | .obj _ _,_,_,p,_=>HC (show Gc=FS from p)
theorem kq: ∀(ds:Fh WData) (vs:Fh Fp),WellAll P h vs ds->ma ds=FS->(∀d∈ds,d.weight<=1048576)-> ∃A:Fh Fq,(∀u∈vs,zE A u)/\ ∀a∈A,ip h A a
 |[],_,x,_,_=>by
  cases x;exact#[[],λu m=>FP m (by simp),λa m=>FP m (by simp)]
 |d::ds,_,x,p,z=>by
  obtain⟨v,vs,rfl,x1,x2⟩:=qy x;have q:xP d=FS/\ma ds=FS:=Uq.mp p;obtain⟨A,a1,a2⟩:=CK d v x1 q.1 (z d (Fy ..));obtain⟨B,b1,b2⟩:=kq ds vs x2 q.2 λe he=>z e (Fx _ he);have kA: ∀b∈A,b∈A++B:=λb hb=>F8.mpr (.inl hb)
  have kB: ∀b∈B,b∈A++B:=λb hb=>F8.mpr (.inr hb)
  refine#[A++B,λu hu=>?_,λb hb=>?_]
  ·rcases FF.mp hu with e|m
   ·rw[e]
    exact a1.mono kA
   ·exact(b1 u m).mono kB
  ·rcases F8.mp hb with m|m
   ·exact(a2 b m).mono kA
   ·exact(b2 b m).mono kB
end
end
def E9 (o:Jh):FA HO:=match o.data with
 | .seq vs _=>if(o.cls == MZ "list")=FS then FB (.QY o (.lst (vs.toList.map sZ))) else FB (.QY o (.tup (vs.toList.map sZ)))
 |_=>FM
def ig (K:Fm) (h:Ha) (A:Fh Fq):Hp:=λb=>if b∈A then(if(K.lookup b).isNone=FS then(h.get? b).bind E9 else FM) else FM
def sN (H:Hp):Prop:= ∀b,H b=FM\/ ∃o u,H b=FB (.QY o u)
theorem ut (vs:Fh Fp):E9 { cls:= .type "list",data:= .seq vs.toArray } =FB (.QY { cls:= .type "list",data:= .seq vs.toArray } (.lst (vs.map sZ))):=by
 show(if(MZ "list" == MZ "list")=FS then FB (HO.QY { cls:= .type "list",data:= .seq vs.toArray } (.lst (vs.toArray.toList.map sZ))) else FB (HO.QY { cls:= .type "list",data:= .seq vs.toArray } (.tup (vs.toArray.toList.map sZ))))=_
 rw[Fv (Hf _)]
theorem uc (vs:Fh Fp):E9 { cls:= .type "tuple",data:= .seq vs.toArray } =FB (.QY { cls:= .type "tuple",data:= .seq vs.toArray } (.tup (vs.map sZ))):=by
 show(if(MZ "tuple" == MZ "list")=FS then FB (HO.QY { cls:= .type "tuple",data:= .seq vs.toArray } (.lst (vs.toArray.toList.map sZ))) else FB (HO.QY { cls:= .type "tuple",data:= .seq vs.toArray } (.tup (vs.toArray.toList.map sZ))))=_
 rw[Fs [01]]
section
variable {P:Gh}{w:GR}{K:Fm}{h:Ha}{A:Fh Fq}
theorem mx (hb:b∈A) (hk:K.lookup b=FM) (e:h.get? b=FB o):ig K h A b=E9 o:=by
 unfold ig;rw[Fv hb,hk,Fv (show(FM:FA Jh).isNone=FS from rfl),e]<;>rfl
theorem Eu (q:ig K h A b=FB u):b∈A/\K.lookup b=FM:=by
 unfold ig at q;by_cases hb:b∈A
 ·rw[Fv hb] at q
  cases hk:K.lookup b with
  |none=>exact#[hb,Go]
  |some o=>
   rw[hk,Fs (by simp)] at q;cases q
 ·rw[Fs hb] at q
  cases q
theorem mi (ar: ∀a∈A,ip h A a) (q:ig K h A b=FB u):K.lookup b=FM/\ ∃vs:Fh Fp,vs.length<=Gk/\(∀u∈vs,zE A u)/\
  ((h.get? b=FB { cls:= .type "list",data:= .seq vs.toArray } /\u= .QY { cls:= .type "list",data:= .seq vs.toArray } (.lst (vs.map sZ)))\/
    (h.get? b=FB { cls:= .type "tuple",data:= .seq vs.toArray } /\u= .QY { cls:= .type "tuple",data:= .seq vs.toArray } (.tup (vs.map sZ)))):=by
 obtain⟨hb,hk⟩:=Eu q;obtain⟨vs,h1,h2,h3⟩:=ar b hb;refine#[hk,vs,h1,h2,?_];rcases h3 with e|e
 ·rw[mx hb hk e,ut] at q
  exact .inl #[e,(FL q).symm]
 ·rw[mx hb hk e,uc] at q
  exact .inr #[e,(FL q).symm]
theorem yJ (ar: ∀a∈A,ip h A a):sN (ig K h A):=λb=>by
 cases q:ig K h A b with
 |none=>exact .inl rfl
 |some u=>
  obtain⟨_,vs,_,_,⟨_,e⟩|⟨_,e⟩⟩:=mi ar q
  ·exact .inr #[_,_,by rw[e]]
  ·exact .inr #[_,_,by rw[e]]
theorem EJ (ar: ∀a∈A,ip h A a):ij P w (ig K h A) h:=λb u q=>by
 obtain⟨_,vs,h1,h2,⟨e,rfl⟩|⟨e,rfl⟩⟩:=mi ar q
 ·exact#[e,by rw[FE];exact h1,vs,_,gQ h2,e]
 ·exact#[e,by rw[FE];exact h1,vs,gQ h2,_,e,Go,_,Go]
theorem mj {c c':Fp}{vs us:Fh Fp}(e:(FB { cls:=c,data:= .seq vs.toArray } :FA Jh)=FB { cls:=c',data:= .seq us.toArray }):c=c'/\vs=us:=by
 have e1:=FL e
 have e2:c=c':=Gx Jh.cls e1
 have e3:UA vs.toArray=UA us.toArray:=Gx Jh.data e1;injection e3 with e4;refine#[e2,?_]
 have e5:=Gx SK e4
 simpa using e5
theorem ai9 (KX:K.In h) (ar: ∀a∈A,ip h A a) {a:Fq}{vs:Fh Fp}(ha:a∈A) (e:h.get? a=FB { cls:= .type "list",data:= .seq vs.toArray }):(∀u∈vs,zE A u)/\cw K (ig K h A) a (vs.map sZ):=by
 obtain⟨us,h1,h2,h3⟩:=ar a ha;have hu:us=vs:=by
  rcases h3 with q|q
  ·rw[e] at q
   exact(mj q).2.symm
  ·rw[e] at q
   exact FP (UC (mj q).1) [01]
 subst hu;refine#[h2,?_];cases hk:K.lookup a with
 |none=>exact .inl (.inr #[_,by rw[mx ha hk e,ut]])
 |some o=>
  have e2:=KX a o hk;rw[e] at e2;obtain rfl:=FL e2;exact .inr #[_,us.toArray,_,hk,Go,Go,Go,by rw[Gy];exact h1,by simpa using gQ h2]
theorem aja (KX:K.In h) (ar: ∀a∈A,ip h A a) {a:Fq}{vs:Fh Fp}(ha:a∈A) (e:h.get? a=FB { cls:= .type "tuple",data:= .seq vs.toArray }):(∀u∈vs,zE A u)/\rc K (ig K h A) a (vs.map sZ):=by
 obtain⟨us,h1,h2,h3⟩:=ar a ha;have hu:us=vs:=by
  rcases h3 with q|q
  ·rw[e] at q
   exact FP (UC (mj q).1) [01]
  ·rw[e] at q
   exact(mj q).2.symm
 subst hu;refine#[h2,?_];cases hk:K.lookup a with
 |none=>exact .inl (.inr #[_,by rw[mx ha hk e,uc]])
 |some o=>
  have e2:=KX a o hk;rw[e] at e2;obtain rfl:=FL e2;exact .inr #[_,us.toArray,_,hk,Go,Go,by rw[Gy];exact h1,by simpa using gQ h2]
mutual
theorem ZD {Pm:Params}(KX:K.In h) (ar: ∀a∈A,ip h A a): ∀(d:WData) (v:Fp),Well Pm h v d->xP d=FS->zE A v->Dw K (ig K h A) (sZ v) d
 | .none,_,x,_,_=>by
  cases x;exact .IX
 | .bool b,_,x,_,_=>by
  cases x;exact .bl b
 | .int i,_,x,_,_=>by
  cases x;exact .int i
 | .str s,_,x,_,_=>by
  cases x;exact .str s
 | .bytes b,_,x,_,_=>by
  cases x;have z:=Dw.SM (K:=K) (H:=ig K h A) b.toArray;exact z
 | .list ds,_,x,p,hu=>by
  obtain⟨a,vs,rfl,ho,P5⟩:=qj x;obtain⟨h2,hs⟩:=ai9 KX ar hu ho;exact .lst hs (qT KX ar ds _ P5 p h2)
 | .tuple ds,_,x,p,hu=>by
  obtain⟨a,vs,rfl,ho,P5⟩:=nh x;obtain⟨h2,hs⟩:=aja KX ar hu ho;exact .tup hs (qT KX ar ds _ P5 p h2)
 | .float _,_,_,p,_=>HC (show Gc=FS from p)
 | .dict _,_,_,p,_=>HC (show Gc=FS from p)
 | .bytearray _,_,_,p,_=>HC (show Gc=FS from p)
 | .set _,_,_,p,_=>HC (show Gc=FS from p)
 | .frozenset _,_,_,p,_=>HC (show Gc=FS from p)
 | .obj _ _,_,_,p,_=>HC (show Gc=FS from p)
theorem qT (KX:K.In h) (ar: ∀a∈A,ip h A a): ∀(ds:Fh WData) (vs:Fh Fp),WellAll Pm h vs ds->ma ds=FS->(∀u∈vs,zE A u)->io K (ig K h A) (vs.map sZ) ds
 |[],_,x,_,_=>by
  cases x;exact .nil
 |d::ds,_,x,p,hu=>by
  obtain⟨v,vs,rfl,x1,x2⟩:=qy x;have q:xP d=FS/\ma ds=FS:=Uq.mp p;exact .cons (ZD KX ar d v x1 q.1 (hu _ (Fy ..))) (qT KX ar ds vs x2 q.2 λu m=>hu u (Fx _ m))
end
end
theorem yB {P:Gh}{w:GR}{K:Fm}{mg mb:FY->FA Fp}{CX:pV}{k:FH}{fa:Fq}{fd:Gz}{ps:Fh FY}{sp:Sp}{s₁:Fw}{vals:Fh Fp}{ds:Fh WData}{R:Vb}{cl:FY->FA Fq}{d0:WData}
  (KX:K.In s₁.heap) (hns:s₁.heap.Ns Jx mg) (hb:s₁.heap.Ns Zi mb) (hbb: ∀x:FY,x≠"__name__"->mb x=Lo x) (ajb:s₁.heap.NoLimit) (hg:s₁.gens= [].toArray)
  (hwl:WellAll w.params s₁.heap vals ds) (M3:ma ds=FS) (hwt: ∀d∈ds,d.weight<=1048576) (hr:bZ k Tp)
  (F: ∀base:Ha,K.In base->base.Ns Jx mg->bV P w K mg base CX k fa fd ps sp) (abZ: ∀(s:Fw) (us:Fh Fp),us.length=ps.length->Tn s fd #[us,[]] [018]) (NJ:ds.length=ps.length)
  (T5: ∀(H:Hp) (xs:Fh V),sN H->io K H xs ds->sp xs H (λv H'=>Dw K H' v d0) λ_ _ _=>False)
  (hCX: ∀H e s',CX [] H s₁ (λ_ _ _=>False) e s'->False):
  LO (model P w) Tp (.call (.ref fa) #[vals,[]]) (λr s'=> ∃u as,r= .ok (.ret u)/\ReadsW R cl s'.heap u d0 as/\OldK s₁.heap s'.heap/\s'.os=s₁.os/\Qp s'.gens) s₁:=by
 obtain⟨A,ho,ar⟩:=kq ds vals hwl M3 hwt;have hO:sN (ig K s₁.heap A):=yJ ar;have IF:ij P w (ig K s₁.heap A) s₁.heap:=EJ ar;have hS:=qT KX ar ds vals hwl M3 ho;have hV:=gQ ho;have hK: ∀b u,ig K s₁.heap A b=FB u->K.lookup b=FM:=λb u q=>(mi ar q).1
 have noA: ∀ {b:Fq}{o:Jh}{es:JE OC}{ep:FH},s₁.heap.get? b=FB o->o.data= .dict es ep->ig K s₁.heap A b=FM:=λ{b o es ep} e d=>by
  cases q:ig K s₁.heap A b with
  |none=>rfl
  |some u=>
   obtain⟨_,vs,_,_,⟨e2,_⟩|⟨e2,_⟩⟩:=mi ar q
   ·rw[e2] at e
    cases e;have d':UA vs.toArray _=Data.dict es ep:=d;cases d'
   ·rw[e2] at e
    cases e;have d':UA vs.toArray _=Data.dict es ep:=d;cases d'
 generalize ig K s₁.heap A=H at hO IF hS hK noA;have UD: ∀ {b:Fq}{o:Jh},s₁.heap.get? b=FB o->H b=FM->(rA s₁.heap H).get? b=FB o:=λe n=>Bt e n
 have VJ: ∀ {b:Fq}{m:FY->FA Fp},s₁.heap.Ns b m->(rA s₁.heap H).Ns b m:=λ{b m} ⟨o,es,ep,e,d,r⟩=>#[o,es,ep,UD e (noA e d),d,r]
 have nK: ∀b o,K.lookup b=FB o->H b=FM:=λb o e=>by
  cases q:H b with
  |none=>rfl
  |some u=>
   rw[hK b u q] at e;cases e
 have hKb:K.In (rA s₁.heap H):=λb o e=>UD (KX b o e) (nK b o e)
 have hM:Mod K mg (rA s₁.heap H):=#[hKb,VJ hns,#[mb,VJ hb,hbb],let ⟨mc,h1,h2⟩:=ajb;#[mc,VJ h1,h2]]
 have e0:wm P w K mg (rA s₁.heap H) Tp [] s₁ H:=#[Go,hM,λb o e=>E1 e,Kq (zA _ _),trivial,λb hb=>FP (show b∈([]:Fh Fq) from hb) (by simp),IF, .of_eq hg]
 have hl:vals.length=ps.length:=by rw[gj hwl];exact NJ
 refine Nt ((F _ hKb (VJ hns)).run Tp [] s₁ H #[vals,[]] vals (vals.map sZ) _ _ hr e0 (abZ s₁ vals hl) hV (T5 H _ hO hS)) λr s' x=>?_;cases r with
 |error e=>exact(hCX H e s' x).elim
 |ok fl=>
  cases fl with
  |next=>exact IZ x
  |brk=>exact IZ x
  |cont=>exact IZ x
  |ret u=>
   obtain⟨v,H',os,bare,un,ab0,r',q⟩:=x;have kept: ∀b o,s₁.heap.get? b=FB o->s'.heap.get? b=FB o:=λb o e=>by
    cases q2:H b with
    |none=>exact un.keep b o e q2 (by intro z;exact FP (show b∈([]:Fh Fq) from z) (by simp)) (by simp)
    |some u2=>
     rcases hO b with z|⟨ob,u3,z⟩
     ·rw[q2] at z
      cases z
     ·have z2:=un.QZ b ob _ z
      obtain⟨e1,_⟩:=IF b _ z;obtain⟨e2,_⟩:=ab0 b _ z2;rw[e] at e1;cases e1;exact e2
   have KX':K.In s'.heap:=λb o e=>kept b o (KX b o e)
   obtain⟨as,hrd⟩:=Dw.reads (R:=R) (cl:=cl) ab0 KX' d0 v u q r';exact#[u,as,Go,hrd,OldK.of_keep kept,os,bare]
theorem nN (h:WData.layableAll ds=FS): ∀d∈ds,d.weight<=1048576:=λd hd=>
 (PySem.W.layableW_iff.mp (Md.mp h d hd)).2.2
theorem n9: ∀(cs:Fh Codec) (a:Codec.denoteAll cs),(Codec.encAll cs a).length=cs.length
 |[],_=>rfl
 |c::cs,a=>by
  show(Codec.encAll cs a.2).length+1=cs.length+1
  rw[n9 cs a.2]
theorem zq {XP:(FY->FA Fp)->Ha->Prop}{YP:GR->Ha->Prop}{K:Params->Fm}{CX:GR->pV}{sp:GR->Sp}
  (V9:r.wellSaid=FS) (hdf:d.params.defaults=[]) (NJ:r.args.length=ps.length) (hr:bZ k Tp)
  (hY: ∀(w:GR) (h:Ha),YP w h->(K w.params).In h)
  (F: ∀(w:GR) (mg:FY->FA Fp) (fa:Fq) (h:Ha),YP w h->(K w.params).In h->h.Ns Jx mg->mg d.name=FB (.ref fa)->
   ∃fd:Gz,(∀(s:Fw) (us:Fh Fp),us.length=ps.length->Tn s fd #[us,[]] [018])/\
    ∀base:Ha,(K w.params).In base->base.Ns Jx mg->bV r.prog w (K w.params) mg base (CX w) k fa fd ps (sp w))
  (T5: ∀(w:GR) (H:Hp) (xs:Fh V) (a:Codec.denoteAll r.args),sN H->Codec.withinAll r.args a=FS->Codec.app r.args r.asked a=FS->io (K w.params) H xs (Codec.encAll r.args a)->
   sp w xs H (λv H'=>Dw (K w.params) H' v (r.ret.enc (Codec.app r.args r.f a))) λ_ _ _=>False)
  (hCX: ∀(w:GR) (H:Hp) (s:Fw) (e:Fp) (s':Fw),CX w [] H s (λ_ _ _=>False) e s'->False):
  V3 q loose XP YP r d [] (λf vs=>PySem.call f vs):=by
 intro w P6 s₁ mg mb G Y fa o pm cd doc dV kV ho hd SN hD hmg hg args vals as ajc ajd hrd hwl hlo;obtain⟨a,e1,e2⟩:=PySem.W.os_pre_some ajc;obtain⟨e3,hwi⟩:=Codec.encAll_of_decAll r.args args a e1;subst e3;have KX:=hY w _ Y;obtain⟨fd,hb,hF⟩:=F w mg fa _ Y KX G.T.g hmg;refine PySem.W.enter_call (Nt (yB (R:=[]) (cl:=classAt P6.heap) (d0:=r.ret.enc (Codec.app r.args r.f a)) KX G.T.g G.T.b G.T.builtins G.T.nolimit hg hwl (pJ _ _) (nN ajd) hr hF hb (by rw[n9];exact NJ)
  (λH xs hO hS=>T5 w H xs a hO hwi e2 hS) λH e s'=>hCX w H s₁ e s') λr' s' hq=>?_)
 obtain⟨u,as',rfl,h1,h2,h3,h4⟩:=hq;exact#[.inl #[u,_,as',Go,λ_=>rfl,h1,(OpenSpec.post_iff V9 hwi _ _).mpr rfl,λz=>HC (show Gc=FS from z)],h2,h3,h4]
theorem vS {XP:(FY->FA Fp)->Ha->Prop}{YP:GR->Ha->Prop}{K:Params->Fm}{CX:pV}{sp:Fm->Sp}
  (V9:r.wellSaid=FS) (hdf:d.params.defaults=[]) (NJ:r.args.length=ps.length) (hr:bZ k Tp)
  (hY: ∀(w:GR) (h:Ha),YP w h->(K w.params).In h)
  (F: ∀(w:GR) (mg:FY->FA Fp) (fa:Fq) (h:Ha),YP w h->(K w.params).In h->h.Ns Jx mg->mg d.name=FB (.ref fa)->
   ∃fd:Gz,(∀(s:Fw) (us:Fh Fp),us.length=ps.length->Tn s fd #[us,[]] [018])/\
    ∀base:Ha,(K w.params).In base->base.Ns Jx mg->bV r.prog w (K w.params) mg base CX k fa fd ps (sp (K w.params)))
  (T5: ∀(K:Fm) (H:Hp) (xs:Fh V) (a:Codec.denoteAll r.args),sN H->Codec.withinAll r.args a=FS->Codec.app r.args r.asked a=FS->io K H xs (Codec.encAll r.args a)->
   sp K xs H (λv H'=>Dw K H' v (r.ret.enc (Codec.app r.args r.f a))) λ_ _ _=>False)
  (hCX: ∀(H:Hp) (s:Fw) (e:Fp) (s':Fw),CX [] H s (λ_ _ _=>False) e s'->False):
  V3 q loose XP YP r d [] (λf vs=>PySem.call f vs):=
 zq (K:=K) (CX:=λ_=>CX) (sp:=λw=>sp (K w.params)) V9 hdf NJ hr hY F (λw H xs a h1 h2 h3 h4=>T5 (K w.params) H xs a h1 h2 h3 h4) λ_ H s e s'=>hCX H s e s'
end L2
end
namespace OS
open PySem
abbrev cZ:Fh Fp:=[.type "Exception", .type "BaseException", .type "object"]
end OS
namespace OS
open PySem PySem.Spec L2
open PyProof.Rows hiding St
def c7:Fh FY:=["__getattribute__","__getattr__","__setattr__","number","kind","line","column"]
def XO (h:Ha) (C N:Fq) (bm:Fh Fp):Prop:= ∃(nm q:FY) (bs:Fh Fp) (sn:Fh FY) (sub:Fh Fp) (ab:GA) (col:FA GA) (dd:FA Fq) (k0 k1 k2 k3 k5:FA Fp),h.get? C=FB (IC nm q C N bs bm FS sn sub ab col dd k0 k1 k2 k3 k5 "Exception.__new__")
def XAt (h:Ha) (R C fI:Fq):Prop:= ∃(N:Fq) (mN:FY->FA Fp) (oI:Jh) (NR:Fq) (mR:FY->FA Fp),XO h C N (.ref R::cZ)/\h.Ns N mN/\mN "__init__"=FB (.ref fI)/\(∀n∈c7,mN n=FM)/\h.get? fI=FB oI/\oI.cls= .type "function"/\
 XO h R NR cZ/\h.Ns NR mR/\ ∀n∈c7,mR n=FM
structure dG (K:Fm) (R C fI:Fq):Prop where
 at_: ∀h:Ha,K.In h->XAt h R C fI
 kp:IU K (.ref C)=FS
end OS
namespace OS
open Vbemac
open PySem (Str)
def sb (w:Gv):FY:=#[(w.map Nr).toArray]
def ZE:FY:=#[[47,114,101,115,116].toArray]
def dM (s:Gv):FY:=if s=[37] then ZE else sb s
end OS
namespace OS
open PySem PySem.Spec L2
open PyProof.Rows hiding St
def pc (K:Fm) (a:Fq) (xs:Fh V):Prop:= ∃(o:Jh) (HR:JE Fp) (n:FH),K.lookup a=FB o/\o.cls= .type "tuple"/\o.data= .seq HR n/\HR.size<=Gk/\a8 xs HR.toList
structure z6 (P:Gh) (w:GR) (K:Fm) (a:Fq) (aC:Fh (Fh be×V)):Prop where
 at_: ∃xs:Fh (Fh be×Fq×Fp),(∀h:Ha,K.In h->h.DictOfH (NM (aW P w)) a xs)/\Paired (λ(p:Fh be×V) (q:Fh be×Fq×Fp)=>p.1=q.1/\br p.2 q.2.2) aC xs
 no:(a == IQ)=Gc
structure yj (K:Fm) (C:Fq):Prop where
 cl:gG K C
 ha:Ia K (.ref C) "__class__"=FB (FB (.builtin "object.__class__"))
 hn:Pj K (.builtin "object.__class__") "__get__"=FB (FB (.builtin "getset_descriptor.__get__"))
 htk:VE K (.builtin "object.__class__")=FB FS
 hm:WO K C (.type "object")=FB FS
def tp (i:FH):Stmt:=PySem.Challenge.pw_ordersheets_s09_desks.main.body.getD i (.Pass #[0,0,0,0])
abbrev ab1:Stmt:=aB (tp 4) 0
abbrev ab2:Stmt:=aB (tp 5) 0
abbrev ab3:Stmt:=aB (tp 6) 0
abbrev ab4:Stmt:=aB (tp 7) 0
abbrev ab5:Stmt:=aB (tp 8) 0
abbrev ab6:Stmt:=aB (tp 9) 0
abbrev ab7:Stmt:=aB (tp 10) 0
abbrev ab8:Stmt:=aB (tp 11) 0
abbrev ab9:Stmt:=aB (tp 12) 0
abbrev aca:Stmt:=aB (tp 13) 0
abbrev acb:Stmt:=aB (tp 14) 0
abbrev acd:Stmt:=aB (tp 15) 0
abbrev ace:Stmt:=aB (tp 16) 0
abbrev acf:Stmt:=aB (tp 17) 0
abbrev acg:Stmt:=aB (tp 18) 0
abbrev ach:Stmt:=aB (tp 19) 0
abbrev aci:Stmt:=aB (tp 23) 0
abbrev acj:Stmt:=aB (tp 24) 0
abbrev s_M:Stmt:=tp 25
abbrev s_r:Stmt:=tp 26
abbrev s_o:Stmt:=tp 27
abbrev s_N:Stmt:=tp 28
abbrev s_p:Stmt:=aB (tp 30) 0
abbrev ack:Stmt:=aB (tp 31) 0
abbrev s_4:Stmt:=aB (tp 32) 0
abbrev s_O:Stmt:=aB (tp 33) 0
abbrev s_P:Stmt:=aB (tp 34) 0
abbrev acm:Stmt:=aB (tp 35) 0
abbrev acn:Stmt:=aB (tp 36) 0
abbrev aco:Stmt:=aB (tp 37) 0
abbrev acp:Stmt:=aB (tp 38) 0
abbrev s_Q:Stmt:=tp 41
abbrev s_R:Stmt:=tp 42
abbrev s_S:Stmt:=tp 43
abbrev acq:Stmt:=tp 44
abbrev acr:Stmt:=tp 45
abbrev acs:Stmt:=tp 46
abbrev s_T:Stmt:=tp 47
abbrev acu:Stmt:=aB (tp 50) 0
abbrev acv:Stmt:=aB (tp 51) 0
abbrev acw:Stmt:=aB (tp 51) 1
abbrev acx:Stmt:=aB (tp 51) 2
abbrev acy:Stmt:=aB (tp 51) 3
abbrev acz:Stmt:=aB (tp 51) 4
abbrev acA:Stmt:=aB (tp 51) 5
abbrev acB:Stmt:=aB (tp 51) 6
abbrev s_5:Stmt:=tp 52
abbrev s_6:Stmt:=tp 53
abbrev s_7:Stmt:=tp 54
abbrev s_8:Stmt:=tp 55
abbrev s_9:Stmt:=tp 56
abbrev acC:Stmt:=tp 57
abbrev acD:Stmt:=tp 58
abbrev s_y:Stmt:=tp 59
abbrev acE:Stmt:=tp 60
abbrev acF:Stmt:=tp 61
abbrev acG:Stmt:=tp 62
abbrev acH:Stmt:=aB (tp 68) 0
abbrev acI:Stmt:=aB (tp 69) 0
abbrev s_U:Stmt:=tp 70
abbrev acJ:Stmt:=tp 71
abbrev s_z:Stmt:=tp 72
abbrev s_k:Stmt:=tp 73
abbrev s_V:Stmt:=tp 74
abbrev s_A:Stmt:=tp 75
abbrev s_D:Stmt:=tp 76
abbrev acK:Stmt:=tp 77
abbrev acL:Stmt:=tp 78
abbrev s_W:Stmt:=tp 79
abbrev acM:Stmt:=tp 80
abbrev s_E:Stmt:=tp 81
abbrev acN:Stmt:=tp 82
abbrev acO:Stmt:=tp 83
abbrev s_F:Stmt:=aB (tp 97) 0
abbrev s_e:Stmt:=tp 98
abbrev s_h:Stmt:=tp 99
abbrev s_G:Stmt:=tp 100
abbrev s_H:Stmt:=tp 101
abbrev s_I:Stmt:=tp 102
abbrev s_J:Stmt:=tp 103
abbrev s_K:Stmt:=tp 104
abbrev s_t:Stmt:=tp 105
abbrev s_u:Stmt:=tp 106
abbrev s_i:Stmt:=tp 107
abbrev acP:Stmt:=aB (tp 118) 0
abbrev s_b:Stmt:=aB (tp 118) 1
abbrev s_c:Stmt:=aB (tp 118) 2
abbrev s_q:Stmt:=aB (tp 118) 3
abbrev acQ:Stmt:=aB (tp 118) 4
abbrev acR:Stmt:=aB (tp 118) 5
abbrev s_X:Stmt:=aB (tp 118) 6
abbrev acS:Stmt:=aB (tp 118) 7
abbrev s_w:Stmt:=aB (tp 118) 8
abbrev acT:Stmt:=aB (tp 118) 9
abbrev acU:Stmt:=aB (tp 118) 10
abbrev s_B:Stmt:=aB (tp 118) 11
abbrev acV:Stmt:=aB (tp 118) 12
abbrev acW:Stmt:=aB (tp 118) 13
abbrev acX:Stmt:=aB (tp 118) 14
abbrev acY:Stmt:=aB (tp 118) 15
abbrev s_f:Stmt:=tp 122
abbrev s_d:Stmt:=tp 123
abbrev acZ:Stmt:=tp 124
abbrev s_x:Stmt:=tp 125
abbrev s_l:Stmt:=tp 126
abbrev ac0:Stmt:=tp 127
abbrev ac1:Stmt:=tp 128
abbrev ac2:Stmt:=tp 129
abbrev s_Y:Stmt:=tp 130
abbrev ac3:Stmt:=tp 131
abbrev s_j:Stmt:=tp 136
abbrev ac4:Stmt:=tp 137
abbrev ac5:Stmt:=tp 138
abbrev s_s:Stmt:=tp 139
abbrev ac6:Stmt:=tp 140
abbrev ac7:Stmt:=tp 141
abbrev ac8:Stmt:=tp 142
abbrev ac9:Stmt:=tp 143
abbrev s_m:Stmt:=tp 144
abbrev ada:Stmt:=tp 145
abbrev s_Z:Stmt:=tp 146
abbrev adb:Stmt:=tp 147
abbrev ade:Stmt:=tp 148
abbrev adf:Stmt:=tp 149
abbrev adg:Stmt:=tp 150
abbrev s_n:Stmt:=tp 151
abbrev s_C:Stmt:=tp 152
abbrev s_1:Stmt:=tp 153
abbrev s_2:Stmt:=tp 154
abbrev adh:Stmt:=tp 155
abbrev adi:Stmt:=tp 156
abbrev s_L:Stmt:=tp 162
abbrev s_3:Stmt:=tp 163
abbrev adj:Stmt:=tp 164
abbrev s_g:Stmt:=tp 165
abbrev adk:Stmt:=tp 166
abbrev s_a:Stmt:=tp 167
set_option genInjectivity false in
structure bi where
 (adl adm adn ado adp adq ads adt adu adv adw adx ady adz adA adB adC adD f_M f_r f_o f_N f_p ZF f_4 f_O f_P ZG ZH ZI ZJ f_Q f_R f_S aje ajf ajg f_T adE adF ajh aji ajj ajk ajl ajm f_5 f_6 f_7 f_8 f_9 adG ajn f_y adH adI adJ adK adL f_U ajo f_z f_k f_V f_A f_D ajp ajq f_W ajr f_E ajs ajt f_F f_e f_h f_G f_H f_I f_J f_K f_t f_u f_i adM f_b f_c f_q aju ajv f_X ajw f_w ajx ajy f_B ajz ajA ajB ajC f_f f_d ajD f_x f_l ajE ajF ajG f_Y ajH f_j ajI ajJ f_s ajK ajL ajM ajN f_m ajO f_Z ajP ajQ ajR ajS f_n f_C f_1 f_2 ajT ajU f_L f_3 ajV f_g ajW f_a L7 Od NT Lc JW Kz Oe L8 Ny QL Lj Ln JN MB ON NU HB HS Hn L9 HW JI Lk KN KO JJ LX MK HN Kj GG Ju GI SO Ke Qt Ho Iu:Fq)
 (adN adO adP adQ adR adS adT adU adV adW adX adY adZ ad0 ad1 ad2 ad3 ad4 ajX ajY ajZ aj0 aj1 ad5 aj2 aj3 aj4 ad6 ad7 ad8 ad9 aj5 aj6 aj7 aea aeb aec aj8 aed aee aef aeg aeh aei aej aek ael aem aen aeo aep Yc aeq aj9 Yd Ye Yf aer aes aka aet akb akc akd ake akf aeu aev akg aew akh aex aey aki akj akk akl akm akn ako akp akq akr aks aez akt aku akv aeA aeB akw aeC akx aeD aeE aky aeF aeG aeH aeI akz aeJ aeK akA akB aeL aeM aeN akC aeO akD aeP aeQ akE aeR aeS aeT aeU akF aeV aeW aeX aeY aeZ ae0 akG akH ae1 ae2 ae3 ae4 akI akJ ae5 akK ae6 Wa:Gz)
structure cH (K:Fm) (mg:FY->FA Fp) (n:FY) (st:Stmt) (ps:Fh FY) (f:Fq) (fd:Gz):Prop where
 F:oY K n n st f fd
 c:CD K mg n f fd ps
structure eI (K:Fm) (C:Fq) (n q:FY) (st:Stmt) (ps:Fh FY) (f:Fq) (fd:Gz):Prop where
 F:oY K n q st f fd
 c:MD K C n f fd ps
structure aU (K:Fm) (mg:FY->FA Fp) (a:bi):Prop where
 RF:mg "Number"=FB (.ref a.L7)
 UE:mg "Name"=FB (.ref a.Od)
 UG:mg "Call"=FB (.ref a.NT)
 SQ:mg "Unary"=FB (.ref a.Lc)
 SR:mg "Chain"=FB (.ref a.JW)
 RG:mg "Choice"=FB (.ref a.Kz)
 ZK:mg "Sum"=FB (.ref a.Oe)
 T6:mg "Let"=FB (.ref a.L8)
 Wb:mg "For"=FB (.ref a.Ny)
 Yg:mg "If"=FB (.ref a.QL)
 UH:mg "Step"=FB (.ref a.Lj)
 T7:mg "Amounts"=FB (.ref a.Ln)
 Wc:mg "Block"=FB (.ref a.JN)
 SS:mg "Const"=FB (.ref a.MB)
 Wd:mg "Fun"=FB (.ref a.ON)
 UI:mg "Desk"=FB (.ref a.NU)
 NV:mg "StepOrder"=FB (.ref a.HB)
 Rr:mg "BlockOrder"=FB (.ref a.HS)
 Ib:mg "Refusal"=FB (.ref a.Hn)
 Pn:mg "NotAsTold"=FB (.ref a.L9)
 Q0:mg "Fault"=FB (.ref a.HW)
 Nz:mg "DivisorIsZero"=FB (.ref a.JI)
 Qu:mg "TooGreat"=FB (.ref a.Lk)
 OO:mg "NoStepLeft"=FB (.ref a.KN)
 OP:mg "OutOfRange"=FB (.ref a.KO)
 NA:mg "TooManyOrders"=FB (.ref a.JJ)
 Qv:mg "NoParent"=FB (.ref a.LX)
 Xg:mg "Task"=FB (.ref a.MK)
 Vf:mg "Worker"=FB (.ref a.HN)
 Vg:mg "Market"=FB (.ref a.Kj)
 RV:mg "Expansion"=FB (.ref a.GG)
 SU:mg "Token"=FB (.ref a.Ju)
 Vh:mg "Reader"=FB (.ref a.GI)
 ae7:eI K a.L7 "__init__" "Number.__init__" ab1 ["self","worth"] a.adl a.adN
 ae8:eI K a.Od "__init__" "Name.__init__" ab2 ["self","name"] a.adm a.adO
 ae9:eI K a.NT "__init__" "Call.__init__" ab3 ["self","name","arguments"] a.adn a.adP
 afa:eI K a.Lc "__init__" "Unary.__init__" ab4 ["self","sign","operand"] a.ado a.adQ
 afb:eI K a.JW "__init__" "Chain.__init__" ab5 ["self","strength","operands","signs"] a.adp a.adR
 afc:eI K a.Kz "__init__" "Choice.__init__" ab6 ["self","condition","chosen","otherwise"] a.adq a.adS
 afd:eI K a.Oe "__init__" "Sum.__init__" ab7 ["self","name","first","last","body"] a.ads a.adT
 afe:eI K a.L8 "__init__" "Let.__init__" ab8 ["self","name","exp"] a.adt a.adU
 aff:eI K a.Ny "__init__" "For.__init__" ab9 ["self","name","first","last","statements"] a.adu a.adV
 afg:eI K a.QL "__init__" "If.__init__" aca ["self","condition","statements","else_statements"] a.adv a.adW
 afh:eI K a.Lj "__init__" "Step.__init__" acb ["self","side","zone","quarter","price","to_price","amount"] a.adw a.adX
 afi:eI K a.Ln "__init__" "Amounts.__init__" acd ["self","name","exp"] a.adx a.adY
 afj:eI K a.JN "__init__" "Block.__init__" ace ["self","name","side","zone","price","amounts","under","group"] a.ady a.adZ
 afk:eI K a.MB "__init__" "Const.__init__" acf ["self","name","exp"] a.adz a.ad0
 afl:eI K a.ON "__init__" "Fun.__init__" acg ["self","name","parameters","exp"] a.adA a.ad1
 afm:eI K a.NU "__init__" "Desk.__init__" ach ["self","name","statements"] a.adB a.ad2
 afn:eI K a.HB "__init__" "StepOrder.__init__" aci ["self","desk","zone","quarter","side","low","high","amount"] a.adC a.ad3
 afo:eI K a.HS "__init__" "BlockOrder.__init__" acj ["self","desk","zone","side","price","group","parent","amounts"] a.adD a.ad4
 d_M:cH K mg "side_number" s_M ["word"] a.f_M a.ajX
 d_r:cH K mg "desk_numbers" s_r ["orders","desk"] a.f_r a.ajY
 d_o:cH K mg "traded" s_o ["orders","side"] a.f_o a.ajZ
 d_N:cH K mg "whole_amount" s_N ["order"] a.f_N a.aj0
 WU:eI K a.Hn "__init__" "Refusal.__init__" s_p ["self","number"] a.f_p a.aj1
 ZL:eI K a.L9 "__init__" "NotAsTold.__init__" ack ["self"] a.ZF a.ad5
 d_4:eI K a.HW "__init__" "Fault.__init__" s_4 ["self","kind","line","column"] a.f_4 a.aj2
 d_O:eI K a.JI "__init__" "DivisorIsZero.__init__" s_O ["self"] a.f_O a.aj3
 d_P:eI K a.Lk "__init__" "TooGreat.__init__" s_P ["self"] a.f_P a.aj4
 ZM:eI K a.KN "__init__" "NoStepLeft.__init__" acm ["self"] a.ZG a.ad6
 ZN:eI K a.KO "__init__" "OutOfRange.__init__" acn ["self"] a.ZH a.ad7
 ZO:eI K a.JJ "__init__" "TooManyOrders.__init__" aco ["self"] a.ZI a.ad8
 ZP:eI K a.LX "__init__" "NoParent.__init__" acp ["self"] a.ZJ a.ad9
 d_Q:cH K mg "has_result" s_Q ["sign","right"] a.f_Q a.aj5
 d_R:cH K mg "sign_result" s_R ["sign","left","right"] a.f_R a.aj6
 d_S:cH K mg "is_so" s_S ["sign","left","right"] a.f_S a.aj7
 ZQ:cH K mg "unary_result" acq ["sign","number"] a.aje a.aea
 ZR:cH K mg "function_result" acr ["name","numbers"] a.ajf a.aeb
 ZT:cH K mg "decides" acs ["strength","number"] a.ajg a.aec
 d_T:cH K mg "decided_value" s_T ["strength"] a.f_T a.aj8
 ZU:eI K a.MK "__init__" "Task.__init__" acu ["self","exp"] a.adE a.aed
 ZV:eI K a.HN "__init__" "Worker.__init__" acv ["self"] a.adF a.aee
 We:eI K a.HN "take_step" "Worker.take_step" acw ["self"] a.ajh a.aef
 Xh:eI K a.HN "set_value" "Worker.set_value" acx ["self","name","value"] a.aji a.aeg
 ZW:eI K a.HN "value_of" "Worker.value_of" acy ["self","name"] a.ajj a.aeh
 Xi:eI K a.HN "begin" "Worker.begin" acz ["self","exp"] a.ajk a.aei
 ZX:eI K a.HN "finish" "Worker.finish" acA ["self","value"] a.ajl a.aej
 ZY:eI K a.HN "work_out" "Worker.work_out" acB ["self","exp"] a.ajm a.aek
 d_5:cH K mg "go_on" s_5 ["worker","exp","parts"] a.f_5 a.ael
 d_6:cH K mg "go_on_call" s_6 ["worker","call","parts"] a.f_6 a.aem
 d_7:cH K mg "go_on_unary" s_7 ["worker","unary","parts"] a.f_7 a.aen
 d_8:cH K mg "go_on_chain" s_8 ["worker","chain","parts"] a.f_8 a.aeo
 d_9:cH K mg "go_on_deciding" s_9 ["worker","chain","parts"] a.f_9 a.aep
 afp:cH K mg "go_on_reckoning" acC ["worker","chain","parts"] a.adG a.Yc
 ZZ:cH K mg "checked_result" acD ["sign","left","right"] a.ajn a.aeq
 d_y:cH K mg "not_too_great" s_y ["value"] a.f_y a.aj9
 afq:cH K mg "go_on_choice" acE ["worker","choice","parts"] a.adH a.Yd
 afr:cH K mg "go_on_sum" acF ["worker","summed","parts"] a.adI a.Ye
 afs:cH K mg "go_on_turns" acG ["worker","summed","parts"] a.adJ a.Yf
 aft:eI K a.Kj "__init__" "Market.__init__" acH ["self","zones","quarters","low","high"] a.adK a.aer
 Z0:eI K a.GG "__init__" "Expansion.__init__" acI ["self","market"] a.adL a.aes
 d_U:cH K mg "expand_tops" s_U ["market","tops"] a.f_U a.aka
 Z1:cH K mg "do_top" acJ ["expansion","top"] a.ajo a.aet
 d_z:cH K mg "give_value" s_z ["worker","given"] a.f_z a.akb
 Xj:cH K mg "do_statements" s_k ["expansion","statements"] a.f_k a.akc
 d_V:cH K mg "do_statement" s_V ["expansion","statement"] a.f_V a.akd
 d_A:cH K mg "do_for" s_A ["expansion","loop"] a.f_A a.ake
 d_D:cH K mg "do_if" s_D ["expansion","condition"] a.f_D a.akf
 Z2:cH K mg "need_range" acK ["number","least","most"] a.ajp a.aeu
 Z3:cH K mg "do_step" acL ["expansion","step"] a.ajq a.aev
 d_W:cH K mg "add_order" s_W ["expansion","order"] a.f_W a.akg
 Z4:cH K mg "do_block" acM ["expansion","block"] a.ajr a.aew
 d_E:cH K mg "work_out_amounts" s_E ["expansion","amounts"] a.f_E a.akh
 Z5:cH K mg "parent_of" acN ["expansion","block"] a.ajs a.aex
 Z6:cH K mg "add_block" acO ["expansion","name","order"] a.ajt a.aey
 d_F:eI K a.Ju "__init__" "Token.__init__" s_F ["self","kind","value","line","column"] a.f_F a.aki
 d_e:cH K mg "is_digit" s_e ["byte"] a.f_e a.akj
 d_h:cH K mg "is_letter" s_h ["byte"] a.f_h a.akk
 d_G:cH K mg "comment_end" s_G ["text","at"] a.f_G a.akl
 d_H:cH K mg "word_end" s_H ["text","at"] a.f_H a.akm
 d_I:cH K mg "digits_end" s_I ["text","at"] a.f_I a.akn
 d_J:cH K mg "token_end" s_J ["text","at"] a.f_J a.ako
 d_K:cH K mg "token_kind" s_K ["text","at","end"] a.f_K a.akp
 d_t:cH K mg "decimal_worth" s_t ["part"] a.f_t a.akq
 d_u:cH K mg "token_value" s_u ["kind","part"] a.f_u a.akr
 d_i:cH K mg "scan_text" s_i ["text"] a.f_i a.aks
 Z7:eI K a.GI "__init__" "Reader.__init__" acP ["self","tokens"] a.adM a.aez
 Wf:eI K a.GI "current" "Reader.current" s_b ["self"] a.f_b a.akt
 Wg:eI K a.GI "fail" "Reader.fail" s_c ["self","kind"] a.f_c a.aku
 d_q:eI K a.GI "sees" "Reader.sees" s_q ["self","value"] a.f_q a.akv
 Z8:eI K a.GI "at_end" "Reader.at_end" acQ ["self"] a.aju a.aeA
 Z9:eI K a.GI "at_number" "Reader.at_number" acR ["self"] a.ajv a.aeB
 d_X:eI K a.GI "at_name" "Reader.at_name" s_X ["self"] a.f_X a.akw
 aaa:eI K a.GI "number_follows" "Reader.number_follows" acS ["self"] a.ajw a.aeC
 d_w:eI K a.GI "take" "Reader.take" s_w ["self"] a.f_w a.akx
 aab:eI K a.GI "expect" "Reader.expect" acT ["self","value"] a.ajx a.aeD
 aac:eI K a.GI "skips" "Reader.skips" acU ["self","value"] a.ajy a.aeE
 d_B:eI K a.GI "need_name" "Reader.need_name" s_B ["self"] a.f_B a.aky
 aad:eI K a.GI "take_free_name" "Reader.take_free_name" acV ["self"] a.ajz a.aeF
 aae:eI K a.GI "take_name_not_in" "Reader.take_name_not_in" acW ["self","given"] a.ajA a.aeG
 aaf:eI K a.GI "learn" "Reader.learn" acX ["self","name"] a.ajB a.aeH
 Xk:eI K a.GI "forget" "Reader.forget" acY ["self","name"] a.ajC a.aeI
 d_f:cH K mg "deeper" s_f ["reader","depth"] a.f_f a.akz
 SV:cH K mg "read_exp" s_d ["reader","depth"] a.f_d a.aeJ
 Xl:cH K mg "read_choice" acZ ["reader","depth"] a.ajD a.aeK
 Yh:cH K mg "read_chain" s_x ["reader","depth","strength"] a.f_x a.akA
 WV:cH K mg "read_unary" s_l ["reader","depth"] a.f_l a.akB
 Xm:cH K mg "read_primary" ac0 ["reader","depth"] a.ajE a.aeL
 Xn:cH K mg "read_brackets" ac1 ["reader","depth"] a.ajF a.aeM
 Xo:cH K mg "read_sum" ac2 ["reader","depth"] a.ajG a.aeN
 d_Y:cH K mg "read_call" s_Y ["reader","depth"] a.f_Y a.akC
 aag:cH K mg "refuse_here" ac3 ["reader","sign"] a.ajH a.aeO
 d_j:cH K mg "read_sheet" s_j ["text"] a.f_j a.akD
 Xp:cH K mg "read_top" ac4 ["reader"] a.ajI a.aeP
 Xq:cH K mg "read_const" ac5 ["reader"] a.ajJ a.aeQ
 Yi:cH K mg "read_given" s_s ["reader"] a.f_s a.akE
 Xr:cH K mg "read_fun" ac6 ["reader"] a.ajK a.aeR
 aah:cH K mg "read_parameters" ac7 ["reader","function"] a.ajL a.aeS
 aai:cH K mg "read_parameter" ac8 ["reader","function"] a.ajM a.aeT
 Xs:cH K mg "read_desk" ac9 ["reader"] a.ajN a.aeU
 WW:cH K mg "read_braces" s_m ["reader","depth"] a.f_m a.akF
 Xt:cH K mg "read_statement" ada ["reader","depth"] a.ajO a.aeV
 d_Z:cH K mg "read_let" s_Z ["reader"] a.f_Z a.aeW
 aaj:cH K mg "deeper_braces" adb ["reader","depth"] a.ajP a.aeX
 Xu:cH K mg "read_for" ade ["reader","depth"] a.ajQ a.aeY
 Xv:cH K mg "read_if" adf ["reader","depth"] a.ajR a.aeZ
 aak:cH K mg "read_side" adg ["reader"] a.ajS a.ae0
 Xw:cH K mg "read_part" s_n ["reader","word"] a.f_n a.akG
 d_C:cH K mg "read_part_if_there" s_C ["reader","word"] a.f_C a.akH
 d_1:cH K mg "read_step" s_1 ["reader"] a.f_1 a.ae1
 d_2:cH K mg "read_block" s_2 ["reader"] a.f_2 a.ae2
 Xx:cH K mg "read_amounts" adh ["reader"] a.ajT a.ae3
 aal:cH K mg "read_under_name" adi ["reader"] a.ajU a.ae4
 d_L:cH K mg "is_text" s_L ["text"] a.f_L a.akI
 d_3:cH K mg "is_price" s_3 ["price"] a.f_3 a.akJ
 aam:cH K mg "is_market" adj ["zones","quarters","low","high"] a.ajV a.ae5
 d_g:cH K mg "need" s_g ["as_told"] a.f_g a.akK
 aan:cH K mg "expanded" adk ["zones","quarters","low","high","text"] a.ajW a.ae6
 d_a:cH K mg "desks" s_a ["zones","quarters","low","high","text"] a.f_a a.Wa
 P7:gG K a.L7
 Vi:Mk K a.L7 a.adl
 N0:au K a.L7 "worth"
 RW:gG K a.Od
 Xy:Mk K a.Od a.adm
 Pp:au K a.Od "name"
 QR:gG K a.NT
 Xz:Mk K a.NT a.adn
 Pq:au K a.NT "name"
 M5:au K a.NT "arguments"
 Pu:gG K a.Lc
 Wh:Mk K a.Lc a.ado
 OQ:au K a.Lc "sign"
 NC:au K a.Lc "operand"
 ND:gG K a.JW
 Wi:Mk K a.JW a.adp
 LF:au K a.JW "strength"
 M6:au K a.JW "operands"
 Of:au K a.JW "signs"
 P8:gG K a.Kz
 Vj:Mk K a.Kz a.adq
 Mu:au K a.Kz "condition"
 NF:au K a.Kz "chosen"
 Mv:au K a.Kz "otherwise"
 P9:gG K a.Oe
 aao:Mk K a.Oe a.ads
 Qw:au K a.Oe "name"
 Pw:au K a.Oe "first"
 Qx:au K a.Oe "last"
 Qy:au K a.Oe "body"
 RY:gG K a.L8
 aap:Mk K a.L8 a.adt
 Og:au K a.L8 "name"
 Q1:au K a.L8 "exp"
 Qa:gG K a.Ny
 aaq:Mk K a.Ny a.adu
 Qz:au K a.Ny "name"
 Px:au K a.Ny "first"
 QA:au K a.Ny "last"
 M7:au K a.Ny "statements"
 SW:gG K a.QL
 afu:Mk K a.QL a.adv
 N3:au K a.QL "condition"
 NG:au K a.QL "statements"
 LQ:au K a.QL "else_statements"
 MC:gG K a.Lj
 XB:Mk K a.Lj a.adw
 Py:au K a.Lj "side"
 Pz:au K a.Lj "zone"
 N4:au K a.Lj "quarter"
 OR:au K a.Lj "price"
 LY:au K a.Lj "to_price"
 Oh:au K a.Lj "amount"
 O0:gG K a.Ln
 T8:Mk K a.Ln a.adx
 N5:au K a.Ln "name"
 Oi:au K a.Ln "exp"
 K6:gG K a.JN
 Wj:Mk K a.JN a.ady
 OT:au K a.JN "name"
 OU:au K a.JN "side"
 OV:au K a.JN "zone"
 Oj:au K a.JN "price"
 NH:au K a.JN "amounts"
 Ol:au K a.JN "under"
 ML:au K a.JN "group"
 Q2:gG K a.MB
 Wl:Mk K a.MB a.adz
 OW:au K a.MB "name"
 PB:au K a.MB "exp"
 Q3:gG K a.ON
 aar:Mk K a.ON a.adA
 QB:au K a.ON "name"
 M8:au K a.ON "parameters"
 Q4:au K a.ON "exp"
 RZ:gG K a.NU
 XD:Mk K a.NU a.adB
 R7:au K a.NU "name"
 MM:au K a.NU "statements"
 LG:gG K a.HB
 R8:Mk K a.HB a.adC
 M9:au K a.HB "desk"
 PD:au K a.HB "zone"
 Om:au K a.HB "quarter"
 Na:au K a.HB "side"
 Qb:au K a.HB "low"
 PF:au K a.HB "high"
 Mw:au K a.HB "amount"
 K7:gG K a.HS
 Rt:Mk K a.HS a.adD
 MN:au K a.HS "desk"
 O2:au K a.HS "zone"
 MO:au K a.HS "side"
 OF:au K a.HS "price"
 OG:au K a.HS "group"
 Oo:au K a.HS "parent"
 LR:au K a.HS "amounts"
 PH:gG K a.MK
 XE:Mk K a.MK a.adE
 QC:au K a.MK "exp"
 Nl:au K a.MK "parts"
 Iq:gG K a.HN
 Vk:Mk K a.HN a.adF
 Mj:au K a.HN "taken"
 KS:au K a.HN "functions"
 JY:au K a.HN "scopes"
 Jc:au K a.HN "tasks"
 LZ:au K a.HN "result"
 RH:gG K a.Kj
 Vl:Mk K a.Kj a.adK
 Ml:au K a.Kj "zones"
 Ll:au K a.Kj "quarters"
 Nm:au K a.Kj "low"
 LH:au K a.Kj "high"
 HL:gG K a.GG
 R9:Mk K a.GG a.adL
 Mx:au K a.GG "market"
 My:au K a.GG "worker"
 JX:au K a.GG "orders"
 Kw:au K a.GG "desk"
 Kh:au K a.GG "named"
 IW:gG K a.Ju
 SX:Mk K a.Ju a.f_F
 Ko:au K a.Ju "kind"
 JD:au K a.Ju "value"
 Np:au K a.Ju "line"
 Mm:au K a.Ju "column"
 Gj:gG K a.GI
 Vm:Mk K a.GI a.adM
 L0:au K a.GI "tokens"
 KP:au K a.GI "at"
 Kk:au K a.GI "known"
 IY:au K a.GI "functions"
 Oq:au K a.GI "desks"
 JZ:au K a.GI "blocks"
 Wm: ∃t,mg "EITHER"=FB (.int 0 t)
 T9: ∃t,mg "BOTH"=FB (.int 1 t)
 Sa: ∃t,mg "COMPARISON"=FB (.int 2 t)
 UJ: ∃t,mg "SELLS"=FB (.int 0 t)
 Wn: ∃t,mg "BUYS"=FB (.int 1 t)
 Ua: ∃t,mg "GREATEST"=FB (.int 1000000000000000000 t)
 Sb: ∃t,mg "MOST_STEPS"=FB (.int 10000 t)
 Ru: ∃t,mg "MOST_ORDERS"=FB (.int 48 t)
 OX: ∃t,mg "MOST_AMOUNT"=FB (.int 1000000000 t)
 Rv: ∃t,mg "MOST_SPREAD"=FB (.int 10000 t)
 Sd: ∃t,mg "MOST_GROUP"=FB (.int 9 t)
 Ub: ∃t,mg "WORD"=FB (.int 0 t)
 PJ: ∃t,mg "NUMBER"=FB (.int 1 t)
 Wo: ∃t,mg "SIGN"=FB (.int 2 t)
 Yj: ∃t,mg "END"=FB (.int 3 t)
 PK: ∃t,mg "WRONG"=FB (.int 4 t)
 Q5: ∃t,mg "LONGEST_WORD"=FB (.int 24 t)
 Qc: ∃t,mg "LONGEST_NUMBER"=FB (.int 18 t)
 QD: ∃t,mg "LINE_FEED"=FB (.int 10 t)
 Vn: ∃t,mg "COMMENT"=FB (.int 35 t)
 Wq:mg "BLANKS"=FB (.ref a.SO)
 Se:mg "SIGNS"=FB (.ref a.Ke)
 Uc: ∃t,mg "SPELLING"=FB (.str "0123456789:;<=>?@ABCDEFGHIJKLMNOPQRSTUVWXYZ[\\]^_`abcdefghijklmnopqrstuvwxyz" t)
 Rw: ∃t,mg "WRONG_TOKEN"=FB (.int 1 t)
 O3: ∃t,mg "NOT_HERE"=FB (.int 2 t)
 QF: ∃t,mg "NOT_KNOWN"=FB (.int 3 t)
 O4: ∃t,mg "NOT_FREE"=FB (.int 4 t)
 SY: ∃t,mg "ARGUMENTS"=FB (.int 5 t)
 Q6: ∃t,mg "TOO_DEEP"=FB (.int 6 t)
 Q7: ∃t,mg "TOO_MANY"=FB (.int 7 t)
 S6:mg "KEY_WORDS"=FB (.ref a.Qt)
 Nb:mg "FIRST_FUNCTIONS"=FB (.ref a.Ho)
 Rx: ∃t,mg "MOST_LEVELS"=FB (.int 12 t)
 OY:mg "CHAIN_SIGNS"=FB (.ref a.Iu)
 Ry: ∃t,mg "MOST_BRACES"=FB (.int 6 t)
 Qg: ∃t,mg "MOST_FUNCTIONS"=FB (.int 6 t)
 PL: ∃t,mg "MOST_PARAMETERS"=FB (.int 6 t)
 Q8: ∃t,mg "LONGEST_TEXT"=FB (.int 3000 t)
 Sf: ∃t,mg "MOST_ZONES"=FB (.int 6 t)
 QM: ∃t,mg "MOST_QUARTERS"=FB (.int 4 t)
 PM: ∃t,mg "MOST_PRICE"=FB (.int 1000000 t)
 Wr:pc K a.SO [.int 9, .int 10, .int 13, .int 32]
 S7:pc K a.Qt [.str "const", .str "fun", .str "desk", .str "let", .str "for", .str "in", .str "if", .str "then", .str "else", .str "sell", .str "buy", .str "zone", .str "quarter", .str "price", .str "to", .str "amount", .str "block", .str "under", .str "group", .str "sum"]
 S8:mg "Exception"=FM
 Yk:mg "abs"=FM
 afv:mg "all"=FM
 Ws:mg "dict"=FM
 KQ:mg "isinstance"=FM
 J8:mg "len"=FM
 afw:mg "max"=FM
 afx:mg "min"=FM
 UK:mg "range"=FM
 Wt:mg "sum"=FM
 Sg:mg "tuple"=FM
 afy:mg "zip"=FM
variable {P:Gh}{w:GR}{K:Fm}{mg:FY->FA Fp}{base:Ha}{a:bi}
abbrev nb (c:Jm):Int:=(c.toNat:Int)
def kb (c:Jm):be:=JV (nb c)
def dR:Fh (Fh be×V):=GP.map λs=>(s.map kb,V.str (dM s))
structure By (K:Fm) (R:Fq) (m:FY) (f:Fq):Prop where
 sp:Pj K (.ref R) "__getattribute__"=FB (FB (.builtin "type.__getattribute__"))
 ty:V4 K (.ref R)=FB (.type "type")
 rd:PySem.W.readsIn K R (.type "type")=FS
 fc:VF K (.ref R) (.type "type") m=FB (.val (.ref f))
 kp:IU K (.ref f)=FS
structure XT (K:Fm) (a:bi):Prop where
 fc:dG K a.Hn a.HW a.f_4
 rm:By K a.Hn "__init__" a.f_p
structure DH (P:Gh) (w:GR) (K:Fm) (a:Fq) (aC:Fh (be×V)):Prop where
 at_: ∃vs:Fh (be×Fp),(∀h:Ha,K.In h->h.DictOf (aW P w) a vs)/\KV aC vs
 len:aC.length<=Gk
 no:(a == IQ)=Gc
def dy:Fh (be×V):=[(.inr "min", .int 2),(.inr "max", .int 2),(.inr "abs", .int 1)]
end OS
namespace OS
open PySem PySem.Spec L2
open PyProof.Rows hiding St
variable {P:Gh}{w:GR}{K:Fm}{mg:FY->FA Fp}{base:Ha}{a:bi}
structure XW (K:Fm) (a:bi):Prop extends XT K a where
 Mn:dG K a.Hn a.JI a.f_O
 O5:dG K a.Hn a.Lk a.f_P
 NW:dG K a.Hn a.KN a.ZG
 NX:dG K a.Hn a.KO a.ZH
 Mo:dG K a.Hn a.JJ a.ZI
 O6:dG K a.Hn a.LX a.ZJ
def zQ (a:bi):Fh Fq:=[a.L7,a.Od,a.NT,a.Lc,a.JW,a.Kz,a.Oe,a.L8,a.Ny,a.QL,a.Lj,a.JN,a.MB,a.ON,a.NU]
structure ms (K:Fm) (a:bi):Prop where
 ty: ∀C∈zQ a,yj K C
 kit:((zQ a).map λC=>(zQ a).map λD=>HA K (.ref C) (.ref D))=(Jb 15).map λi=>(Jb 15).map λj=>FB (decide (i=j))
end OS
namespace OS
open PySem PySem.Spec L2
open PyProof.Rows hiding St
variable {P:Gh}{w:GR}{K:Fm}{mg:FY->FA Fp}{base:Ha}{a:bi}
def Ac (K:Fm) (ad:Fq) (rows:Fh (Fh V)):Prop:= ∃qs:Fh Fq,pc K ad (qs.map V.ref)/\Paired (λq xs=>pc K q xs) qs rows
def dj:Fh (Fh V):=[[.str "||"],[.str "&&"],[.str "==", .str "!=", .str "<=", .str ">=", .str "<", .str ">"],[.str "+", .str "-"],[.str "*", .str "/", .str "/rest"]]
end OS
namespace OS
open PySem PySem.Spec L2
open PyProof.Rows hiding St
variable {P:Gh}{w:GR}{K:Fm}{mg:FY->FA Fp}{base:Ha}{a:bi}


def fW (zs:Fh Int):Fh V:=zs.map V.int
structure XN (K:Fm) (a:bi):Prop extends XW K a where
 Ot:dG K a.Hn a.L9 a.ZF
structure OdK (K:Fm) (a:bi):Prop where
 s:yj K a.HB
 b:yj K a.HS
 ss:HA K (.ref a.HB) (.ref a.HB)=FB FS
 bs:HA K (.ref a.HS) (.ref a.HB)=FB Gc
end OS
namespace OS
open PySem PySem.Spec L2
open PyProof.Rows hiding St
variable {P:Gh}{w:GR}{K:Fm}{mg:FY->FA Fp}{base:Ha}{a:bi}
inductive kt (K:Fm) (vs:Fh V) (H:Hp) (Q:VK) (_E:XK):Prop
 |mk (z t lo hi:Int) (l:Fq) (zs:Fh Int) (_:vs=[.int z, .int t, .int lo, .int hi, .ref l]) (_:cw K H l (fW zs)) (_:zs.length<=4000) (_: ∀(H':Hp) (p:Fq),H' p=FB (.lst (fW (Lz z t lo hi zs)))->Q (.ref p) H'):kt K vs H Q _E
def dOf:Data->Fh OC
 | .dict es _=>es.toList
 |_=>[]
theorem aas (h:dOf d=e::r): ∃es ep,d= .dict es ep/\es.toList=e::r:=by
 cases d with
 |dict es n=>exact#[es,n,Go,h]
 |_=>cases h
noncomputable def S9 (K:Fm) (a:Fq):Fh OC:=((K.lookup a).map λo=>if o.cls= .type "dict"/\o.dict=FM/\o.slots.size=0 then dOf o.data else []).getD []
theorem xz {K:Fm}{a:Fq}(h:S9 K a=e::r): ∃o es ep,K.lookup a=FB o/\o.ExactDict/\o.data= .dict es ep/\es.toList=e::r:=by
 unfold S9 at h;cases q:K.lookup a with
 |none=>rw[q] at h;cases h
 |some o=>
  rw[q] at h;have h:(if o.cls= .type "dict"/\o.dict=FM/\o.slots.size=0 then dOf o.data else [])=e::r:=h
  by_cases c:o.cls= .type "dict"/\o.dict=FM/\o.slots.size=0
  ·rw[Fv c] at h
   obtain⟨es,n,h1,h2⟩:=aas h;exact#[o,es,n,Go,#[c.1,c.2.1,JE.eq_empty_of_size_eq_zero c.2.2],h1,h2]
  ·rw[Fs c] at h
   cases h
section
variable {a:Fq}
theorem DT {mg:FY->FA Fp}(X:K.In h) (G:h.Ns N mg) (e:Kb K N n=FB (FB v)):mg n=FB v:=by
 obtain⟨o,es,ep,ho,hd,_,hf⟩:=G;unfold Kb at e;split at e
 ·rename_i c d es' n' sl q
  have:=X _ _ q;rw[ho] at this;cases this;cases hd;split at e
  ·rename_i en he
   cases e;rw[<-hf];unfold nsFind findBy;rw[<-U8,he]
   rfl
  ·split at e<;>cases e
 ·cases e
def iOf:Fp->FA Int
 | .int i _=>FB i
 |_=>FM
def xOf:Fp->FA FY
 | .str i _=>FB i
 |_=>FM
def rOf:Fp->FA Fq
 | .ref i=>FB i
 |_=>FM
theorem uR (h:iOf v=FB i): ∃t,v= .int i t:=by
 cases v with
 |int j t=>cases h;exact#[t,Go]
 |_=>cases h
theorem uT (h:xOf v=FB i): ∃t,v= .str i t:=by
 cases v with
 |str j t=>cases h;exact#[t,Go]
 |_=>cases h
theorem CS (h:rOf v=FB i):v= .ref i:=by
 cases v with
 |ref j=>cases h;rfl
 |_=>cases h
abbrev tG {A:Type}(f:Fp->FA A) (l:Fh Fp):FA (Fh A):=l.mapM f
abbrev om:=tG iOf
abbrev ot:=tG xOf
abbrev vZ:=tG rOf
theorem iK {A B:Type}{f:Fp->FA A}{g:A->B}{R:B->Fp->Prop}(hf: ∀v x,f v=FB x->R (g x) v): ∀ {vs:Fh Fp}{l:Fh A},tG f vs=FB l->Paired R (l.map g) vs
 |[],l,h=>by cases h;exact .nil
 |v::r,l,h=>by
  rw[tG,Fh.mapM_cons] at h;cases e:f v with
  |none=>rw[e] at h;cases h
  |some x=>
   cases q:r.mapM f with
   |none=>rw[e,q] at h;cases h
   |some l'=>rw[e,q] at h;cases h;exact .cons (hf v x e) (iK hf q)
def qOf:Data->FA (JE Fp)
 | .seq HR _=>FB HR
 |_=>FM
theorem aat (h:qOf d=FB HR): ∃n,d= .seq HR n:=by
 cases d with
 |seq es n=>cases h;exact#[n,Go]
 |_=>cases h
noncomputable def MP (K:Fm) (a:Fq):FA (Fh Fp):=(K.lookup a).bind λo=>(qOf o.data).bind λHR=>if o.cls= .type "tuple"/\HR.size<=1000 then FB HR.toList else FM
theorem tH (h:MP K a=FB l): ∃o HR n,K.lookup a=FB o/\o.cls= .type "tuple"/\o.data= .seq HR n/\HR.size<=Gk/\HR.toList=l:=by
 obtain⟨o,h1,h⟩:=II.mp h;obtain⟨HR,h2,h⟩:=II.mp h;obtain⟨n,h2⟩:=aat h2;by_cases c:o.cls= .type "tuple"/\HR.size<=1000
 ·rw[Fv c] at h
  exact#[o,HR,n,h1,c.1,h2,FV c.2 [01],FL h]
 ·rw[Fs c] at h
  cases h
theorem tJ (h:om vs=FB l):a8 (l.map V.int) vs:=iK (λ_ _ e=>uR e) h
theorem sr (h:ot vs=FB l):a8 (l.map V.str) vs:=iK (λ_ _ e=>uT e) h
theorem rS (h:vZ vs=FB l):a8 (l.map V.ref) vs:=iK (λ_ _ e=>CS e) h
theorem qA (h:MP K a=FB vs) (v:a8 xs vs):pc K a xs:=by
 obtain⟨o,HR,n,h1,h2,h3,h4,h5⟩:=tH h;exact#[o,HR,n,h1,h2,h3,h4,by rw[h5];exact v]
theorem Cb (h:(MP K a).bind om=FB l):pc K a (l.map V.int):=by
 cases e:MP K a with
 |none=>rw[e] at h;cases h
 |some vs=>rw[e] at h;exact qA e (tJ h)
theorem uf (h:(MP K a).bind ot=FB l):pc K a (l.map V.str):=by
 cases e:MP K a with
 |none=>rw[e] at h;cases h
 |some vs=>rw[e] at h;exact qA e (sr h)
noncomputable def UL (K:Fm) (e:OC):FA (Int×Fh Int×FY):=(rOf e.key).bind λp=>(xOf e.val).bind λx=>((MP K p).bind om).map λl=>(e.hash,l,x)
theorem BJ (z:UL K e=FB (h,l,x)): ∃p t,e.key= .ref p/\e.val= .str x t/\e.hash=h/\(MP K p).bind om=FB l:=by
 obtain⟨p,h1,z⟩:=II.mp z;obtain⟨x',h2,z⟩:=II.mp z;obtain⟨l',h3,z⟩:=Gs.mp z;cases z;obtain⟨t,h2⟩:=uT h2;exact#[p,t,CS h1,h2,Go,h3]
theorem Ck (h:Paired (λk v=>(aW P w).is k v=FS) ks vs):ItemsAre (aW P w) ks vs:=by
 induction h with
 |nil=>exact .nil
 |cons h _ i=>exact .cons h i
theorem yD (h:om vs=FB l):ItemsAre (aW P w) (l.map λi=>(JV i:be)) vs:=
 Ck (iK (f:=iOf) (g:=λi=>(JV i:be)) (λv i e=>by
  obtain⟨t,rfl⟩:=uR e;exact Hf i) h)
theorem xZ: ∀ {es:Fh OC}{L:Fh (Fh Int×FY)},es.map (UL K)=(L.map λp=>FB (VR (aW P w) (p.1.map λi=>(JV i:be)),p.1,p.2))->
  ∃xs:Fh (Fh be×Fq×Fp),Paired (λ(p:Fh be×V) (q:Fh be×Fq×Fp)=>p.1=q.1/\br p.2 q.2.2) (L.map λp=>(p.1.map λi=>(JV i:be),V.str p.2)) xs/\es=xs.map (entryOfKey (NM (aW P w)))/\(xs.map (·.1))=(L.map λp=>p.1.map λi=>(JV i:be))/\ ∀h:Ha,K.In h-> ∀x∈xs,(NM (aW P w)).is h x.1 x.2.1
 |[],[],_=>#[[], .nil,Go,Go,λ_ _ _ z=>nomatch z]
 |[],_::_,h=>by cases h
 |_::_,[],h=>by cases h
 |e::es,p::L,h=>by
  rw[FX,FX] at h;obtain⟨h1,h2⟩:=JL h;obtain⟨xs,k1,k2,k3,k4⟩:=xZ h2;obtain⟨q,t,e1,e2,e3,e4⟩:=BJ h1;refine#[(p.1.map λi=>JV i,q, .str p.2 t)::xs, .cons #[Go,#[t,Go]] k1,?_,by rw[FX,FX,k3],λhp hK y hy=>?_]
  ·rw[FX,<-k2]
   congr 1
   obtain⟨eh,ek,ev⟩:=e;cases e1;cases e2;cases e3
   rfl
  ·rcases FF.mp hy with rfl|hy
   ·cases z:MP K q with
    |none=>rw[z] at e4;cases e4
    |some vs=>
     rw[z] at e4;obtain⟨o,HR,n,g1,g2,g3,g4,g5⟩:=tH z;exact#[o,HR,n,hK _ _ g1,g2,g3,by rw[g5];exact yD e4]
   ·exact k4 hp hK y hy
theorem aau {L:Fh (Fh Int×FY)}(ne:L≠[]) (h:(S9 K a).map (UL K)=(L.map λp=>FB (VR (aW P w) (p.1.map λi=>(JV i:be)),p.1,p.2))) (nd:(L.map λp=>p.1.map λi=>(JV i:be)).Nodup) (no:(a == IQ)=Gc):
  z6 P w K a (L.map λp=>(p.1.map λi=>(JV i:be),V.str p.2)):=by
 obtain⟨xs,k1,k2,k3,k4⟩:=xZ (P:=P) (w:=w) h;cases he:S9 K a with
 |nil=>rw[he] at h;exact FP (Fh.map_eq_nil_iff.mp h.symm) ne
 |cons e r=>
  obtain⟨o,es,ep,lk,ex,od,el⟩:=xz he;refine#[#[xs,λhp hK=>#[o,es,ep,hK a o lk,ex,od,by rw[el,<-he];exact k2,k4 hp hK,by rw[k3];exact nd],k1],no]
def Yl:Fh (Fh Int×FY):=GP.map λs=>(s.map nb,dM s)
theorem Cz:dR=Yl.map λp=>(p.1.map λi=>(JV i:be),V.str p.2):=by decide+kernel
theorem EA {mg:FY->FA Fp}{a:bi}(_:aU K mg a) (e:(S9 K a.Ke).map (UL K)=(Yl.map λp=>FB (VR (aW P w) (p.1.map λi=>(JV i:be)),p.1,p.2))) (no:(a.Ke == IQ)=Gc):z6 P w K a.Ke dR:=by
 rw[Cz];exact aau [00] e [00] no
theorem iF {A:Type}{C:Fh A->Prop}{us:Fh A}(h:us.length=n+1) (k: ∀a r,r.length=n->C (a::r)):C us:=by
 cases us with
 |nil=>cases h
 |cons a r=>exact k a r (RD h)
theorem v0 {A:Type}{C:Fh A->Prop}{us:Fh A}(h:us.length=0) (k:C []):C us:=by
 cases us with
 |nil=>exact k
 |cons a r=>cases h
theorem v1 {A:Type}{C:Fh A->Prop}{us:Fh A}(h:us.length=1) (k: ∀a,C [a]):C us:=iF h λa r h=>v0 (C:=λr=>C (a::r)) h (k a)
theorem v2 {A:Type}{C:Fh A->Prop}{us:Fh A}(h:us.length=2) (k: ∀a b,C [a,b]):C us:=iF h λa r h=>v1 (C:=λr=>C (a::r)) h (k a)
theorem v3 {A:Type}{C:Fh A->Prop}{us:Fh A}(h:us.length=3) (k: ∀a b c,C [a,b,c]):C us:=iF h λa r h=>v2 (C:=λr=>C (a::r)) h (k a)
theorem v4 {A:Type}{C:Fh A->Prop}{us:Fh A}(h:us.length=4) (k: ∀a b c d,C [a,b,c,d]):C us:=iF h λa r h=>v3 (C:=λr=>C (a::r)) h (k a)
theorem v5 {A:Type}{C:Fh A->Prop}{us:Fh A}(h:us.length=5) (k: ∀a b c d e,C [a,b,c,d,e]):C us:=iF h λa r h=>v4 (C:=λr=>C (a::r)) h (k a)
theorem v6 {A:Type}{C:Fh A->Prop}{us:Fh A}(h:us.length=6) (k: ∀a b c d e f,C [a,b,c,d,e,f]):C us:=iF h λa r h=>v5 (C:=λr=>C (a::r)) h (k a)
theorem v7 {A:Type}{C:Fh A->Prop}{us:Fh A}(h:us.length=7) (k: ∀a b c d e f g,C [a,b,c,d,e,f,g]):C us:=iF h λa r h=>v6 (C:=λr=>C (a::r)) h (k a)
theorem v8 {A:Type}{C:Fh A->Prop}{us:Fh A}(h:us.length=8) (k: ∀a b c d e f g h,C [a,b,c,d,e,f,g,h]):C us:=iF h λa r h=>v7 (C:=λr=>C (a::r)) h (k a)
theorem u0 {fd:Gz}{ps:Fh FY}{us:Fh Fp}(h:us.length=0) (k:HD fd #[[],[]]=pure (ps.zip [])):HD fd #[us,[]]=pure [018]:=v0 (C:=λus=>HD fd #[us,[]]=pure [018]) h k
theorem u1 {fd:Gz}{ps:Fh FY}{us:Fh Fp}(h:us.length=1) (k: ∀a,HD fd #[[a],[]]=pure (ps.zip [a])):HD fd #[us,[]]=pure [018]:=v1 (C:=λus=>HD fd #[us,[]]=pure [018]) h k
theorem u2 {fd:Gz}{ps:Fh FY}{us:Fh Fp}(h:us.length=2) (k: ∀a b,HD fd #[[a,b],[]]=pure (ps.zip [a,b])):HD fd #[us,[]]=pure [018]:=v2 (C:=λus=>HD fd #[us,[]]=pure [018]) h k
theorem u3 {fd:Gz}{ps:Fh FY}{us:Fh Fp}(h:us.length=3) (k: ∀a b c,HD fd #[[a,b,c],[]]=pure (ps.zip [a,b,c])):HD fd #[us,[]]=pure [018]:=v3 (C:=λus=>HD fd #[us,[]]=pure [018]) h k
theorem u4 {fd:Gz}{ps:Fh FY}{us:Fh Fp}(h:us.length=4) (k: ∀a b c d,HD fd #[[a,b,c,d],[]]=pure (ps.zip [a,b,c,d])):HD fd #[us,[]]=pure [018]:=v4 (C:=λus=>HD fd #[us,[]]=pure [018]) h k
theorem u5 {fd:Gz}{ps:Fh FY}{us:Fh Fp}(h:us.length=5) (k: ∀a b c d e,HD fd #[[a,b,c,d,e],[]]=pure (ps.zip [a,b,c,d,e])):HD fd #[us,[]]=pure [018]:=v5 (C:=λus=>HD fd #[us,[]]=pure [018]) h k
theorem u6 {fd:Gz}{ps:Fh FY}{us:Fh Fp}(h:us.length=6) (k: ∀a b c d e f,HD fd #[[a,b,c,d,e,f],[]]=pure (ps.zip [a,b,c,d,e,f])):HD fd #[us,[]]=pure [018]:=v6 (C:=λus=>HD fd #[us,[]]=pure [018]) h k
theorem u7 {fd:Gz}{ps:Fh FY}{us:Fh Fp}(h:us.length=7) (k: ∀a b c d e f g,HD fd #[[a,b,c,d,e,f,g],[]]=pure (ps.zip [a,b,c,d,e,f,g])):HD fd #[us,[]]=pure [018]:=v7 (C:=λus=>HD fd #[us,[]]=pure [018]) h k
theorem u8 {fd:Gz}{ps:Fh FY}{us:Fh Fp}(h:us.length=8) (k: ∀a b c d e f g h,HD fd #[[a,b,c,d,e,f,g,h],[]]=pure (ps.zip [a,b,c,d,e,f,g,h])):HD fd #[us,[]]=pure [018]:=v8 (C:=λus=>HD fd #[us,[]]=pure [018]) h k
theorem Ej {h:Ha}{mg:FY->FA Fp}(X:K.In h) (G:h.Ns Jx mg) {x:FY}{st:Stmt}{ps:Fh FY}{f:Fq}{oc:Fp}{od an:FA Fq}{sl:JE (FA Fp)}{kV doc pm cd ct:Fp}
  (a:Kb K Jx x=FB (FB (.ref f))) (l:K.lookup f=FB #[oc,od, .func (Iy x x (dP st) (bf st) (af st) .none kV doc pm an cd ct),sl]) (c:LD K cd x=FS) (k:IU K (.ref f)=FS)
  (hb: ∀(kV doc pm:Fp) (an:FA Fq) (Hb ct:Fp) (us:Fh Fp),us.length=ps.length->HD (Iy x x (dP st) (bf st) (af st) .none kV doc pm an Hb ct) #[us,[]]=pure [018]):
  ∃fd,cH K mg x st ps f fd/\ ∀(s:Fw) (us:Fh Fp),us.length=ps.length->Tn s fd #[us,[]] [018]:=#[_,#[kU (st:=st) l c k,F5 X G a,k,(kU (st:=st) l c k).binds hb],λs us hu=> .of_eq (hb _ _ _ _ _ _ us hu)]
theorem aD {h:Ha}{mg:FY->FA Fp}(X:K.In h) (G:h.Ns Jx mg) {x:FY}{st:Stmt}{ps:Fh FY}{f:Fq}{oc:Fp}{od an:FA Fq}{sl:JE (FA Fp)}{kV doc pm cd ct:Fp}
  (z:Kb K Jx x=FB (FB (.ref f))/\K.lookup f=FB #[oc,od, .func (Iy x x (dP st) (bf st) (af st) .none kV doc pm an cd ct),sl]/\LD K cd x=FS/\IU K (.ref f)=FS)
  (hb: ∀(kV doc pm:Fp) (an:FA Fq) (Hb ct:Fp) (us:Fh Fp),us.length=ps.length->HD (Iy x x (dP st) (bf st) (af st) .none kV doc pm an Hb ct) #[us,[]]=pure [018]):
  cH K mg x st ps f (Iy x x (dP st) (bf st) (af st) .none kV doc pm an cd ct):=#[kU (st:=st) z.2.1 z.2.2.1 z.2.2.2,F5 X G z.1,z.2.2.2,(kU (st:=st) z.2.1 z.2.2.1 z.2.2.2).binds hb]
theorem aH {x q:FY}{st:Stmt}{ps:Fh FY}{C f:Fq}{oc:Fp}{od an:FA Fq}{sl:JE (FA Fp)}{kV doc pm cd ct:Fp}
  (z:Ia K (.ref C) x=FB (FB (.ref f))/\Pl K (.ref f)=FS/\K.lookup f=FB #[oc,od, .func (Iy x q (dP st) (bf st) (af st) .none kV doc pm an cd ct),sl]/\LD K cd q=FS/\IU K (.ref f)=FS)
  (hb: ∀(kV doc pm:Fp) (an:FA Fq) (Hb ct:Fp) (us:Fh Fp),us.length=ps.length->HD (Iy x q (dP st) (bf st) (af st) .none kV doc pm an Hb ct) #[us,[]]=pure [018]):
  eI K C x q st ps f (Iy x q (dP st) (bf st) (af st) .none kV doc pm an cd ct):=#[kU (st:=st) z.2.2.1 z.2.2.2.1 z.2.2.2.2,#[z.1,z.2.1,z.2.2.2.2],(kU (st:=st) z.2.2.1 z.2.2.2.1 z.2.2.2.2).binds hb]
end
section
variable {a:Fq}
def cOf:Data->FA ClassData
 | .cls c=>FB c
 |_=>FM
theorem aav (h:cOf d=FB c):d= .cls c:=by
 cases d with
 |cls c=>cases h;rfl
 |_=>cases h
theorem six {A:Type}{l:JE A}{x:A}(h:l.toList.length=6):l.toList[4]?=FB x-> ∃a b c d f,l= [a,b,c,d,x,f].toArray:=by
 obtain⟨l⟩:=l;exact v6 (C:=λl=>l[4]?=FB x-> ∃a b c d f,(#[l]:JE A)= [a,b,c,d,x,f].toArray) h λa b c d e f z=>by cases z;exact#[a,b,c,d,f,Go]
noncomputable def aaw (K:Fm) (C:Fq) (u:Fh Fq):FA Fq:=(K.lookup C).bind λo=>(cOf o.data).bind λcd=>
 if o.cls= .type "type"/\cd.mro= .ref C::(u.map F9++cZ)/\cd.hasDict=FS/\cd.hasDel=Gc/\o.slots.toList.length=6/\o.slots.toList[4]?=FB (FB (.builtin "Exception.__new__")) then FB cd.ns else FM
theorem wI (q:aaw K C u=FB N) (X:K.In h):XO h C N (u.map F9++cZ):=by
 obtain⟨o,h1,q⟩:=II.mp q;obtain⟨cd,h2,q⟩:=II.mp q;split at q
 ·rename_i g
  obtain⟨g1,g2,g3,g4,g5,g6⟩:=g;cases q;obtain⟨k0,k1,k2,k3,k5,g5⟩:=six g5 g6;have h2:=aav h2;obtain⟨nm,bs,mro,ns,qn,hd,sn,sub,ab,col,DF⟩:=cd;obtain⟨cl,dd,da,sl⟩:=o;cases g1;cases g2;cases g3;cases g4;cases h2;cases g5;exact#[nm,qn,bs,sn,sub,ab,col,dd,k0,k1,k2,k3,k5,X _ _ h1]
 ·cases q
theorem gn {mg:FY->FA Fp}(_:K.In h0) (_:mg x=FB (.ref C)) (_:mg "Refusal"=FB (.ref R)) (l:aaw K C [R]=FB N)
  (IF:V5 K N=FS) (hi:Kb K N "__init__"=FB (FB (.ref fI))) (hq:(c7.map λn=>Kb K N n)=c7.map λ_=>FB FM) (lI:((K.lookup fI).map λo=>o.cls)=FB (.type "function")) (kp:IU K (.ref C)=FS)
  (lR:aaw K R []=FB NR) (afz:V5 K NR=FS) (hqR:(c7.map λn=>Kb K NR n)=c7.map λ_=>FB FM):dG K R C fI:=by
 obtain⟨oI,lI,cI⟩:=Gs.mp lI;refine#[λh X=>?_,kp];have ns:h.Ns N (h.nsMap N):= .of_isNs (TY X IF);have nR:h.Ns NR (h.nsMap NR):= .of_isNs (TY X afz);have all: ∀ {M:Fq},(c7.map λn=>Kb K M n)=(c7.map λ_=>FB FM)-> ∀n∈c7,Kb K M n=FB FM:=λe=>Fh.map_inj_left.mp e
 exact#[N,h.nsMap N,oI,NR,h.nsMap NR,wI l X,ns,DT X ns hi,λn hn=>Rl X IF (all hq n hn),X _ _ lI,cI,wI lR X,nR,λn hn=>Rl X afz (all hqR n hn)]
end
def ww (e:OC):FA (Int×FY×Int):=(xOf e.key).bind λx=>(iOf e.val).map λi=>(e.hash,x,i)
theorem CU (z:ww e=FB (h,x,i)): ∃t u,e.key= .str x t/\e.val= .int i u/\e.hash=h:=by
 obtain⟨x',h1,z⟩:=II.mp z;obtain⟨i',h2,z⟩:=Gs.mp z;cases z;obtain⟨t,h1⟩:=uT h1;obtain⟨u,h2⟩:=uR h2;exact#[t,u,h1,h2,Go]
section
variable {a:Fq}
theorem wv: ∀ {es:Fh OC}{L:Fh (FY×Int)},es.map ww=(L.map λp=>FB (hashStr w p.1,p.1,p.2))->
  ∃vs:Fh (be×Fp),KV (L.map λp=>((Io p.1:be),V.int p.2)) vs/\PySem.Pairs (aW P w) es vs/\(vs.map (·.1))=(L.map λp=>(Io p.1:be))/\ ∀e∈es,∃k,(aW P w).is k e.key=FS/\e.hash=(aW P w).hash k
 |[],[],_=>#[[], .nil, .nil,Go,λ_ z=>nomatch z]
 |[],_::_,h=>by cases h
 |_::_,[],h=>by cases h
 |e::es,p::L,h=>by
  rw[FX,FX] at h;obtain⟨h1,h2⟩:=JL h;obtain⟨vs,k1,k2,k3,k4⟩:=wv h2;obtain⟨t,u,e1,e2,e3⟩:=CU h1;have is:(aW P w).is (Io p.1) e.key=FS:=by rw[e1];show Pc p.1 (.str p.1 t)=FS;simp [Pc]
  refine#[(Io p.1, .int p.2 u)::vs, .cons #[Go,#[u,Go]] k1, .cons is e2 k2,by rw[FX,FX,k3],λy hy=>?_];rcases FF.mp hy with rfl|hy
  ·exact#[Io p.1,is,e3]
  ·exact k4 y hy
theorem aax {p:FY×Int}{L:Fh (FY×Int)}(h:(S9 K a).map ww=((p::L).map λp=>FB (hashStr w p.1,p.1,p.2))) (nd:((p::L).map (·.1)).Nodup) (len:(p::L).length<=Gk) (no:(a == IQ)=Gc):
  DH P w K a ((p::L).map λp=>((Io p.1:be),V.int p.2)):=by
 obtain⟨vs,k1,k2,k3,k4⟩:=wv (P:=P) h;cases he:S9 K a with
 |nil=>rw[he] at h;cases h
 |cons e r=>
  obtain⟨o,es,ep,lk,ex,od,el⟩:=xz he;rw[he,<-el] at k2;rw[he] at k4;refine#[#[vs,λhp hK=>#[o,es,ep,hK a o lk,ex,od,λy hy=>k4 y (by rw[<-el];exact TU.mpr hy),k2,?_],k1],by rw[FE];exact len,no];rw[k3,FX];rw[show(λp:FY×Int=>(Io p.1:be))=(λx=>Io x) ∘ (λp:FY×Int=>p.1) from rfl];rw[show(Io p.1:be)::L.map ((λx=>(Io x:be)) ∘ λp=>p.1)=((p::L).map (·.1)).map (λx=>(Io x:be)) by rw[FX,FX,JT]];exact Fh.Pairwise.map (λx=>(Io x:be)) (λ_ _ h z=>h (JM z)) nd
theorem wT: ∀ {qs:Fh Fq}{rows:Fh (Fh FY)},(qs.map λq=>(MP K q).bind ot)=rows.map FB->Paired (λq xs=>pc K q xs) qs (rows.map λr=>r.map V.str)
 |[],[],_=> .nil
 |[],_::_,h=>by cases h
 |_::_,[],h=>by cases h
 |q::qs,r::rows,h=>by
  rw[FX,FX] at h;obtain⟨h1,h2⟩:=JL h;exact .cons (uf h1) (wT h2)
theorem aay {qs:Fh Fq}{rows:Fh (Fh FY)}(h:(MP K a).bind vZ=FB qs) (h2:(qs.map λq=>(MP K q).bind ot)=rows.map FB):Ac K a (rows.map λr=>r.map V.str):=by
 cases e:MP K a with
 |none=>rw[e] at h;cases h
 |some vs=>rw[e] at h;exact#[qs,qA e (rS h),wT h2]
theorem D3 {mg:FY->FA Fp}{a:bi}(_:aU K mg a) (e:(S9 K a.Ho).map ww=(([("min",2),("max",2),("abs",1)]:Fh (FY×Int)).map λp=>FB (hashStr w p.1,p.1,p.2))) (no:(a.Ho == IQ)=Gc):DH P w K a.Ho dy:=aax (p:=("min",2)) (L:=[("max",2),("abs",1)]) e [00] [01] no
theorem E4 {mg:FY->FA Fp}{a:bi}(_:aU K mg a) (e:(((MP K a.Iu).bind vZ).map λqs=>qs.map λq=>(MP K q).bind ot)=FB (([["||"],["&&"],["==","!=","<=",">=","<",">"],["+","-"],["*","/","/rest"]]:Fh (Fh FY)).map FB)):Ac K a.Iu dj:=by
 obtain⟨qs,e1,e2⟩:=Gs.mp e;exact aay e1 e2
end
theorem afA (_:aU K mg a) (c:By K a.Hn "__init__" a.f_p) (x0:dG K a.Hn a.HW a.f_4) (x1:dG K a.Hn a.JI a.f_O) (x2:dG K a.Hn a.Lk a.f_P) (x3:dG K a.Hn a.KN a.ZG) (x4:dG K a.Hn a.KO a.ZH) (x5:dG K a.Hn a.JJ a.ZI) (x6:dG K a.Hn a.LX a.ZJ) (x7:dG K a.Hn a.L9 a.ZF):XN K a:=#[#[#[x0,c],x1,x2,x3,x4,x5,x6],x7]
def yu (K:Fm):Fh Fq->Prop
 |[]=>True
 |C::l=>yj K C/\yu K l
theorem ux {C:Fq} : ∀ {l:Fh Fq},yu K l->C∈l->yj K C
 |D::l,h,m=>by
  rcases FF.mp m with z|z
  ·rw[z];exact h.1
  ·exact ux h.2 z
theorem Bz:yu K []:=trivial
theorem bU (h:yj K C) (t:yu K l):yu K (C::l):=#[h,t]
theorem aaz {a:bi}(t:yu K (zQ a)) (kit:((zQ a).map λC=>(zQ a).map λD=>HA K (.ref C) (.ref D))=(Jb 15).map λi=>(Jb 15).map λj=>FB (decide (i=j))):ms K a:=#[λC h=>ux t h,kit]
end OS
set_option hygiene false in
local macro_rules
|`(command|#synth [$n,*])=>do
 let t:=λc:Lean.Name=>do
  let i:=Lean.mkIdent (.str `PySem.W.Fast s!"tw{c.hash}")
  `(theorem $i:ident:True:=trivial)
 let f:=λ(k:String) (i:Nat)=>t (.str `OS.hd s!"{k}_{i}")
 let a<-(Array.range 1623).mapM (f "o")
 let b<-n.getElems.mapM λx=>match x with|`($k:ident*$i:num)=>f k.getId.toString i.getNat|x=>t x.getId
 return Lean.mkNullNode ((a++b).map (·.raw))
#synth [heap*1623,tree*1622,tree*1592,tree*1515,tree*1429,tree*1263,tree*1348,heap*1,tree*1133,tree*1096,tree*1035,tree*1009,tree*943,tree*885,tree*862,tree*783,tree*718,view*1,tree*674,PySem.Challenge.pw_ordersheets_s09_desks,tree*624,tree*602,tree*580,tree*558,tree*536,tree*514,tree*492,tree*470,tree*447,tree*400,tree*377,tree*354,tree*331,tree*308,tree*285,tree*262,tree*239,tree*216,tree*193,sts*1352,sts*784,tree*170,sts*944,sts*1516,sts*1430,sts*1097,tree*147,sts*1136,tree*124,tree*101,sts*886,sts*401,sts*1593,sts*719,tree*78,sts*625,sts*1039,sts*1010,tree*55,sts*675,sts*378,sts*286,sts*240,tree*32,sts*493,sts*355,sts*863,sts*148,sts*194,sts*10,sts*217,sts*332,sts*125,sts*102,sts*448,sts*263,sts*56,sts*79,sts*309,sts*171,sts*603,sts*515,sts*471,sts*559,sts*537,sts*581,sts*33,heap*7,tree*8,env*2]
section
open PySem PySem.W PyProof.Rows
set_option hygiene false
local macro_rules
|`(tactic|o_headS ($_ $k $a $e))=>`(tactic|o_headS ((OS.hook $k $a $e):PySem.W.Hook))
local macro_rules
|`(?hc)=>`(OS.ap Z ?hcc)
|`([0x0])=>`((by kernel_rfl))
|`([0x1])=>`(#[_,F5 KX G (by exact rfl)])
|`([0x3])=>`(OS.noAttr (by kernel_rfl))
|`([0x4])=>`(#[by kernel_rfl,by kernel_rfl,by kernel_rfl,by kernel_rfl])
|`([0x5])=>`(#[by exact rfl,by exact rfl,by kernel_rfl,by kernel_rfl])
|`([0x6])=>`(#[by exact rfl,by kernel_rfl,by exact rfl,by kernel_rfl,by kernel_rfl])
|`([0x2])=>`(#[by kernel_rfl,by kernel_rfl,by kernel_rfl,by kernel_rfl,by kernel_rfl])
def OS.Zt:Prop:= ∀ {P:Gh}{w:GR}{K:Fm}{mg:FY->FA Fp}{base:Ha}{a:OS.bi}(_:OS.aU K mg a) (_:OS.XN K a) (_:OS.z6 P w K a.Ke OS.dR) (_:OS.DH P w K a.Ho OS.dy) (_:OS.Ac K a.Iu OS.dj) (_:OS.ms K a) (_:OS.OdK K a),L2.bV P w K mg base L2.ye 180 a.f_a a.Wa ["zones","quarters","low","high","text"] (OS.kt K)
theorem OS.noAttr {K:Fm}{C:Fq}{f:FY}(h:Ia K (.ref C) f=FB FM):L2.au K C f:=h
theorem OS.ap {P:Prop}(z:OS.Zt) (h:OS.Zt->P):P:=h z
set_option maxRecDepth 100000 in
set_option maxHeartbeats 0 in
theorem OS.hd (Z:OS.Zt):PySem.Challenge.rw_ordersheets_s09_desks.Holds:=by
 have W:=OS.abY
 w_on;k_headS;(case hw=>exact#[[.int 0, .int 0, .int 0, .int 0, .list []],by decide+kernel,by decide+kernel])
 k_fillS
 intro Z;refine L2.vS (r:=PySem.Challenge.rw_ordersheets_s09_desks) (k:=180) (CX:=L2.ye) (ps:=["zones","quarters","low","high","text"]) (sp:=OS.kt) [00] rfl rfl #[Go,by decide,by decide] (λw h Y=>OS.VI Y) ?F ?S (λ_ _ _ _ z=>z)
 case F=>
  intro w mg fa h Y KX G hmg;obtain⟨Wa,d_a,akL⟩:=OS.Ej (x:="desks") (st:=OS.s_a) (ps:=["zones","quarters","low","high","text"]) KX G [08] [08] [08] [08] (λ_ _ _ _ _ _ us hl=>OS.u5 hl λ_ _ _ _ _=>[0x0]);have T:OS.aU _ mg ⟨_,_,_,_,_,_,_,_,_,_,_,_,_,_,_,_,_,_,_,_,_,_,_,_,_,_,_,_,_,_,_,_,_,_,_,_,_,_,_,_,_,_,_,_,_,_,_,_,_,_,_,_,_,_,_,_,_,_,_,_,_,_,_,_,_,_,_,_,_,_,_,_,_,_,_,_,_,_,_,_,_,_,_,_,_,_,_,_,_,_,_,_,_,_,_,_,_,_,_,_,_,_,_,_,_,_,_,_,_,_,_,_,_,_,_,_,_,_,_,_,_,_,_,_,_,_,_,_,_,_,_,_,_,_,_,_,_,_,_,_,_,_,_,_,_,_,_,_,_,_,_,_,_,_,_,_,_,_,_,_,_,_,_,_,_,_,_,_,_,_,_,_,_,_,_,_,_,_,_,_,_,_,_,_,_,_,_,_,_,_,_,_,_,_,_,_,_,_,_,_,_,_,_,_,_,_,_,_,_,_,_,_,_,_,_,_,_,_,_,_,_,_,_,_,_,_,_,_,_,_,_,_,_,_,_,_,_,_,_,_,_,_,_,_,_,_,_,_,_,_,_,_,_,_,_,_,_,_,_,_,_,_,_,_,_,_,_,_,_,_,_,_,_,_,_,_,_,_,_,_,_,_,_,_,_,_,_,_,_,_,_,_,_,_,_,_,_,_,_,_,_,_,_,_,_,_,_,_,_,_,_,Wa⟩:=#[[006],[006],[006],[006],[006],[006],[006],[006],[006],[006],[006],[006],[006],[006],[006],[006],[006],[006],[006],[006],[006],[006],[006],[006],[006],[006],[006],[006],[006],[006],[006],[006],[006],[020],[020],(OS.aH [0x6] [004]),(OS.aH [0x6] [004]),(OS.aH [0x6] (λ_ _ _ _ _ _ us hl=>OS.u4 hl λ_ _ _ _=>[0x0])),(OS.aH [0x6] (λ_ _ _ _ _ _ us hl=>OS.u4 hl λ_ _ _ _=>[0x0])),(OS.aH [0x6] (λ_ _ _ _ _ _ us hl=>OS.u5 hl λ_ _ _ _ _=>[0x0])),(OS.aH [0x6] [004]),(OS.aH [0x6] (λ_ _ _ _ _ _ us hl=>OS.u5 hl λ_ _ _ _ _=>[0x0])),(OS.aH [0x6] (λ_ _ _ _ _ _ us hl=>OS.u4 hl λ_ _ _ _=>[0x0])),(OS.aH [0x6] (λ_ _ _ _ _ _ us hl=>OS.u7 hl λ_ _ _ _ _ _ _=>[0x0])),(OS.aH [0x6] [004]),(OS.aH [0x6] (λ_ _ _ _ _ _ us hl=>OS.u8 hl λ_ _ _ _ _ _ _ _=>[0x0])),(OS.aH [0x6] [004]),(OS.aH [0x6] (λ_ _ _ _ _ _ us hl=>OS.u4 hl λ_ _ _ _=>[0x0])),(OS.aH [0x6] [004]),(OS.aH [0x6] (λ_ _ _ _ _ _ us hl=>OS.u8 hl λ_ _ _ _ _ _ _ _=>[0x0])),(OS.aH [0x6] (λ_ _ _ _ _ _ us hl=>OS.u8 hl λ_ _ _ _ _ _ _ _=>[0x0])),[009],[09],[09],[009],[020],[019],(OS.aH [0x6] (λ_ _ _ _ _ _ us hl=>OS.u4 hl λ_ _ _ _=>[0x0])),[019],[019],[019],[019],[019],[019],[09],[014],[014],[09],[09],[09],[009],[020],[019],[019],(OS.aH [0x6] [004]),[020],[020],[020],[020],[014],[014],[014],[014],[014],[014],[014],[009],[014],[014],[014],(OS.aH [0x6] (λ_ _ _ _ _ _ us hl=>OS.u5 hl λ_ _ _ _ _=>[0x0])),[020],[09],[09],[09],[09],[09],[09],[09],[014],[09],[09],[09],[09],[09],[014],(OS.aH [0x6] (λ_ _ _ _ _ _ us hl=>OS.u5 hl λ_ _ _ _ _=>[0x0])),[009],[009],[09],[09],[09],[09],[014],[009],[09],[009],[020],[019],[020],[020],[019],[019],[019],[019],[019],[020],[020],[019],[019],[020],[020],[020],[09],[09],[09],[014],[09],[09],[09],[09],[09],[09],[009],[009],[009],[009],[009],[09],[09],[009],[09],[09],[009],[09],[09],[09],[009],[09],[09],[009],[009],[009],[009],[009],[009],(OS.aD KX G [0x5] (λ_ _ _ _ _ _ us hl=>OS.u4 hl λ_ _ _ _=>[0x0])),[009],(OS.aD KX G [0x5] (λ_ _ _ _ _ _ us hl=>OS.u5 hl λ_ _ _ _ _=>[0x0])),d_a,[0x4],[0x4],[0x3],[0x4],[0x4],[0x3],[0x4],[0x4],[0x3],[0x3],[0x4],[0x4],[0x3],[0x3],[0x4],[0x4],[0x3],[0x3],[0x3],[0x4],[0x4],[0x3],[0x3],[0x3],[0x4],[0x4],[0x3],[0x3],[0x3],[0x3],[0x4],[0x4],[0x3],[0x3],[0x4],[0x4],[0x3],[0x3],[0x3],[0x3],[0x4],[0x4],[0x3],[0x3],[0x3],[0x4],[0x4],[0x3],[0x3],[0x3],[0x3],[0x3],[0x3],[0x4],[0x4],[0x3],[0x3],[0x4],[0x4],[0x3],[0x3],[0x3],[0x3],[0x3],[0x3],[0x3],[0x4],[0x4],[0x3],[0x3],[0x4],[0x4],[0x3],[0x3],[0x3],[0x4],[0x4],[0x3],[0x3],[0x4],[0x4],[0x3],[0x3],[0x3],[0x3],[0x3],[0x3],[0x3],[0x4],[0x4],[0x3],[0x3],[0x3],[0x3],[0x3],[0x3],[0x3],[0x4],[0x4],[0x3],[0x3],[0x4],[0x4],[0x3],[0x3],[0x3],[0x3],[0x3],[0x4],[0x4],[0x3],[0x3],[0x3],[0x3],[0x4],[0x4],[0x3],[0x3],[0x3],[0x3],[0x3],[0x4],[0x4],[0x3],[0x3],[0x3],[0x3],[0x4],[0x4],[0x3],[0x3],[0x3],[0x3],[0x3],[0x3],[0x1],[0x1],[0x1],[0x1],[0x1],[0x1],[0x1],[0x1],[0x1],[0x1],[0x1],[0x1],[0x1],[0x1],[0x1],[0x1],[0x1],[0x1],[0x1],[0x1],[006],[006],[0x1],[0x1],[0x1],[0x1],[0x1],[0x1],[0x1],[0x1],[006],[006],[0x1],[006],[0x1],[0x1],[0x1],[0x1],[0x1],[0x1],[0x1],(OS.Cb (l:=[9,10,13,32]) [0x0]),(OS.uf (l:=["const","fun","desk","let","for","in","if","then","else","sell","buy","zone","quarter","price","to","amount","block","under","group","sum"]) [0x0]),(HG KX G [0x0]),(HG KX G [0x0]),(HG KX G [0x0]),(HG KX G [0x0]),(HG KX G [0x0]),(HG KX G [0x0]),(HG KX G [0x0]),(HG KX G [0x0]),(HG KX G [0x0]),(HG KX G [0x0]),(HG KX G [0x0]),(HG KX G [0x0])]
  have kS:=OS.EA T (P:=PySem.Challenge.rw_ordersheets_s09_desks.prog) (w:=w) [0x0] rfl
  have kF:=OS.D3 T (P:=PySem.Challenge.rw_ordersheets_s09_desks.prog) (w:=w) [0x0] rfl
  have KT:=OS.E4 T [0x0]
  have XC:=OS.afA T [0x2] (OS.gn KX T.Q0 T.Ib [08] [0x0] [0x0] [0x0] [0x0] [0x0] [08] [0x0] [0x0]) (OS.gn KX T.Nz T.Ib [08] [0x0] [0x0] [0x0] [0x0] [0x0] [08] [0x0] [0x0]) (OS.gn KX T.Qu T.Ib [08] [0x0] [0x0] [0x0] [0x0] [0x0] [08] [0x0] [0x0]) (OS.gn KX T.OO T.Ib [08] [0x0] [0x0] [0x0] [0x0] [0x0] [08] [0x0] [0x0]) (OS.gn KX T.OP T.Ib [08] [0x0] [0x0] [0x0] [0x0] [0x0] [08] [0x0] [0x0]) (OS.gn KX T.NA T.Ib [08] [0x0] [0x0] [0x0] [0x0] [0x0] [08] [0x0] [0x0]) (OS.gn KX T.Qv T.Ib [08] [0x0] [0x0] [0x0] [0x0] [0x0] [08] [0x0] [0x0]) (OS.gn KX T.Pn T.Ib [08] [0x0] [0x0] [0x0] [0x0] [0x0] [08] [0x0] [0x0]);cases hmg.symm.trans d_a.c.m;exact#[Wa,akL,λbase _ _=>Z T XC kS kF KT (OS.aaz (OS.bU #[T.P7,[0x0],[0x0],[0x0],[0x0]] (OS.bU #[T.RW,[0x0],[0x0],[0x0],[0x0]] (OS.bU #[T.QR,[0x0],[0x0],[0x0],[0x0]] (OS.bU #[T.Pu,[0x0],[0x0],[0x0],[0x0]] (OS.bU #[T.ND,[0x0],[0x0],[0x0],[0x0]] (OS.bU #[T.P8,[0x0],[0x0],[0x0],[0x0]] (OS.bU #[T.P9,[0x0],[0x0],[0x0],[0x0]] (OS.bU #[T.RY,[0x0],[0x0],[0x0],[0x0]] (OS.bU #[T.Qa,[0x0],[0x0],[0x0],[0x0]] (OS.bU #[T.SW,[0x0],[0x0],[0x0],[0x0]] (OS.bU #[T.MC,[0x0],[0x0],[0x0],[0x0]] (OS.bU #[T.K6,[0x0],[0x0],[0x0],[0x0]] (OS.bU #[T.Q2,[0x0],[0x0],[0x0],[0x0]] (OS.bU #[T.Q3,[0x0],[0x0],[0x0],[0x0]] (OS.bU #[T.RZ,[0x0],[0x0],[0x0],[0x0]] OS.Bz))))))))))))))) [0x0]) #[#[T.LG,[0x0],[0x0],[0x0],[0x0]],#[T.K7,[0x0],[0x0],[0x0],[0x0]],[0x0],[0x0]]]
 case S=>
  intro K H xs a hO hwi amO hx;cases hx with
  |cons h1 hx=>
  cases hx with
  |cons h2 hx=>
  cases hx with
  |cons h3 hx=>
  cases hx with
  |cons h4 hx=>
  cases hx with
  |cons h5 hx=>
  cases hx;cases h1;cases h2;cases h3;cases h4;cases h5 with
  |lst hs ha=>
   have e:=L2.xE a.2.2.2.2.1 _ ha;subst e
   let I:=Codec.inInt (-1000000000000000000) 1000000000000000000
   have q:(I a.1&&(I a.2.1&&(I a.2.2.1&&(I a.2.2.2.1&&((Codec.inLen 0 4000 a.2.2.2.2.1&&a.2.2.2.2.1.all I)&&FS)))))=FS:=hwi;simp only[G7] at q;exact#[_,_,_,_,_,a.2.2.2.2.1,Go,hs,(Codec.inNat_iff.mp q.2.2.2.2.1.1).2,λH' p hp=> .lst (L2.cw.of hp) (L2.wX _)]
end

namespace L2
open PySem PySem.Spec PyProof.Rows
theorem zM (i:Int) (t:Tok):jq (.inl i) (.int i t)=FS:=by simp [jq,Fp.isInt]
theorem yZ (x:FY) (t:Tok):jq (.inr x) (.str x t)=FS:=by simp [jq,Pc]
theorem ur (prog:Gh) (w:GR) (i:Int) (t:Tok):(aW prog w).is (.inl i) (.int i t)=FS:=zM i t
theorem um (prog:Gh) (w:GR) (x:FY) (t:Tok):(aW prog w).is (.inr x) (.str x t)=FS:=yZ x t
theorem a8.length {xs:Fh V}(r:a8 xs us):xs.length=us.length:=RC r
theorem a8.get: ∀ {xs:Fh V}{us:Fh Fp}{i:FH}{x:V},a8 xs us->xs[i]?=FB x-> ∃u,us[i]?=FB u/\br x u
 |_,_,_,_, .nil,e=>by simp at e
 |_,_,0,_, .cons r _,e=>by simp at e;subst e;exact#[_,Go,r]
 |_,_,i+1,x, .cons _ t,e=>by
  obtain⟨u,h1,h2⟩:=a8.get (i:=i) (x:=x) t (by simpa using e);exact#[u,by simpa using h1,h2]
theorem a8.append: ∀ {xs ys:Fh V}{us ws:Fh Fp},a8 xs us->a8 ys ws->a8 (xs++ys) (us++ws)
 |_,_,_,_, .nil,s=>s
 |_,_,_,_, .cons r t,s=> .cons r (a8.append t s)
theorem a8.take: ∀ {xs:Fh V}{us:Fh Fp}(n:FH),a8 xs us->a8 (xs.take n) (us.take n)
 |_,_,0,_=> .nil
 |_,_,_+1, .nil=> .nil
 |_,_,n+1, .cons r t=> .cons r (a8.take n t)
theorem a8.drop: ∀ {xs:Fh V}{us:Fh Fp}(n:FH),a8 xs us->a8 (xs.drop n) (us.drop n)
 |_,_,0,r=>r
 |_,_,_+1, .nil=> .nil
 |_,_,n+1, .cons _ t=>a8.drop n t
def aF (H:Hp) (a:Fq) (o:HO):Hp:=λb=>if b=a then FB o else H b
theorem ae {H:Hp}{a:Fq}{o:HO} :aF H a o a=FB o:=by unfold aF;rw[Fv rfl]
theorem ac {H:Hp}{a b:Fq}{o:HO}(h:b≠a):aF H a o b=H b:=by unfold aF;rw[Fs h]
theorem EF {H:Hp}{a:Fq}{o u:HO} :aF (aF H a o) a u=aF H a u:=by
 funext b;unfold aF;split<;>rfl
theorem qd {H:Hp}{a b:Fq}{o u:HO}(h:H a=FB o) (h':H b=FB u) (d:o≠u):a≠b:=by
 intro e;subst e;rw[h] at h';exact d (FL h')
theorem ai {H:Hp}{a b:Fq}{o:HO}(h:H a=FB o) (h':H b=FM):a≠b:=by
 intro e;subst e;rw[h] at h';cases h'
section
variable {P:Gh}{w:GR}{H H':Hp}{h h':Ha}{a:Fq}{o:HO}
theorem cy.lt (x:cy P w H h a o):a<h.objs.size:=by
 cases o with
 |lst xs=>obtain⟨_,_,_,_,e⟩:=x;exact F7 e
 |tup xs=>obtain⟨_,_,_,p⟩:=x;exact p.lt
 |dK aC=>obtain⟨_,_,_,_,o,_,_,e,_⟩:=x;exact F7 e
 |dT aC=>obtain⟨_,_,_,_,o,_,_,e,_⟩:=x;exact F7 e
 |set S n=>obtain⟨o,_,_,_,e,_⟩:=x;exact F7 e
 |ins C dx fs=>obtain⟨_,_,_,e,_⟩:=x;exact F7 e
 |own y=>obtain⟨_,e⟩:=x;exact F7 e
 |xd fs=>obtain⟨_,⟨_,_,_,e,_⟩,_⟩:=x;exact F7 e
 |rng lo hi=>obtain⟨_,_,_,e⟩:=x;exact F7 e
 |QY ob u=>obtain⟨e,_⟩:=x;exact F7 e
 |Zz ps=>exact F7 (show h.get? a=FB _ from x)
 |met f y=>exact F7 (show h.get? a=FB _ from x)
 |ext φ=>obtain⟨_,⟨_,e⟩,_⟩:=x;exact F7 e
theorem Paired.Nq {α β:Type}{F G:α->β->Prop} : ∀ {l₁:Fh α}{l₂:Fh β},Paired F l₁ l₂->(∀a b,F a b->G a b)->Paired G l₁ l₂
 |_,_, .nil,_=> .nil
 |_,_, .cons r t,f=> .cons (f _ _ r) (Paired.Nq t f)
theorem cy.Sh (x:cy P w H h a o) (k: ∀b u,(b=a\/H b=FB (.own a))->h.get? b=FB u->h'.get? b=FB u)
  (ho: ∀b,H b=FB (.own a)->H' b=FB (.own a)) (ht: ∀b xs,H b=FB (.tup xs)->H' b=FB (.tup xs)):cy P w H' h' a o:=by
 induction o with
 |lst xs=>obtain⟨z,HR,n,r,e⟩:=x;exact#[z,HR,n,r,k _ _ (.inl rfl) e]
 |tup xs=>obtain⟨z,HR,r,ob,e,c⟩:=x;exact#[z,HR,r,ob,k _ _ (.inl rfl) e,c]
 |dK aC=>obtain⟨z,y,vs,r,ob,es,ep,e,c⟩:=x;exact#[z,y,vs,r,ob,es,ep,k _ _ (.inl rfl) e,c]
 |dT aC=>
  obtain⟨z,y,xs,r,ob,es,ep,e,c⟩:=x;exact#[z,y,xs,Paired.Nq r λp q z=>#[z.1,ht _ _ z.2.1,z.2.2],ob,es,ep,k _ _ (.inl rfl) e,c]
 |set S n=>obtain⟨ob,es,ep,t,e,c⟩:=x;exact#[ob,es,ep,t,k _ _ (.inl rfl) e,c]
 |ins C dx fs=>
  obtain⟨d,z,ne,e,mA,⟨od,es,ep,e2,c⟩,r⟩:=x;exact#[ho _ d,z,ne,k _ _ (.inl rfl) e,mA,#[od,es,ep,k _ _ (.inr d) e2,c],r]
 |own y=>obtain⟨ob,e⟩:=x;exact#[ob,k _ _ (.inl rfl) e]
 |xd fs=>obtain⟨mA,⟨od,es,ep,e,c⟩,r⟩:=x;exact#[mA,#[od,es,ep,k _ _ (.inl rfl) e,c],r]
 |rng lo hi=>obtain⟨t,u,v,e⟩:=x;exact#[t,u,v,k _ _ (.inl rfl) e]
 |QY ob u ih=>obtain⟨e,q⟩:=x;exact#[k _ _ (.inl rfl) e,ih q]
 |Zz ps=>
  have e:h.get? a=FB { cls:= .none,data:= .fields ps } :=x
  show h'.get? a=FB { cls:= .none,data:= .fields ps }
  exact k a _ (.inl rfl) e
 |met f y=>
  have e:h.get? a=FB (Pg (.ref f) (.ref y)):=x
  show h'.get? a=FB (Pg (.ref f) (.ref y))
  exact k a _ (.inl rfl) e
 |ext φ=>obtain⟨p,⟨o,e⟩,st⟩:=x;exact#[st _ _ p λo q=>k _ _ (.inl rfl) q,#[o,k _ _ (.inl rfl) e],st]
theorem ij.lt (x:ij P w H h) (e:H a=FB o):a<h.objs.size:=(x a o e).lt
theorem ij.fresh (x:ij P w H h) (e:h.objs.size<=a):H a=FM:=by
 cases q:H a with
 |none=>rfl
 |some u=>exact FP (Ge (x.lt q) e) (Ii _)
theorem ij.kept (x:ij P w H h) (k: ∀b u,h.get? b=FB u->h'.get? b=FB u):ij P w H h':=λa o e=>
 (x a o e).Sh (λb u _ q=>k b u q) [05] λ_ _ q=>q
theorem ij.laid (x:ij P w H h) (k: ∀b u,h.get? b=FB u->h'.get? b=FB u) (hp:h.objs.size<=a) (new:cy P w (aF H a o) h' a o):ij P w (aF H a o) h':=λb u e=>by
 have hn:=x.fresh hp;by_cases hb:b=a
 ·subst hb;rw[ae] at e;cases e;exact new
 ·rw[ac hb] at e
  exact(x b u e).Sh (λc v _ q=>k c v q) (λc q=>by rw[ac (ai q hn)];exact q) λc xs q=>by rw[ac (ai q hn)];exact q
end
def eU:FA HO->Prop
 |some (.lst _)=>True
 |some (.dK _)=>True
 |some (.dT _)=>True
 |some (.set _ _)=>True
 |some (.ins _ _ _)=>True
 |some (.ext _)=>True
 |_=>False
section
variable {P:Gh}{w:GR}{H:Hp}{h h':Ha}{x e:Fq}{o':HO}
theorem ij.write (ok:ij P w H h) (mu:eU (H x)) (he:e=x\/H e=FB (.own x)) (k: ∀b u,b≠e->h.get? b=FB u->h'.get? b=FB u) (heo: ∃u,h'.get? e=FB u)
  (new:cy P w (aF H x o') h' x o'):ij P w (aF H x o') h':=λb u q=>by
 have afB: ∀c y,H c=FB (.own y)->c≠x:=λc y r z=>by subst z;rw[r] at mu;exact mu
 have akM: ∀c xs,H c=FB (.tup xs)->c≠x:=λc xs r z=>by subst z;rw[r] at mu;exact mu
 by_cases hb:b=x
 ·subst hb;rw[ae] at q;cases q;exact new
 ·rw[ac hb] at q
  by_cases hbe:b=e
  ·have q':H b=FB (.own x):=by
    rcases he with z|z
    ·exact FP (hbe.trans z) hb
    ·rw[hbe];exact z
   rw[q] at q';cases q';obtain⟨v,hv⟩:=heo;exact#[v,by rw[hbe];exact hv]
  ·refine(ok b u q).Sh (λc v hc r=>k c v ?_ r) (λc r=>by rw[ac (afB c b r)];exact r) λc xs r=>by rw[ac (akM c xs r)];exact r
   rcases hc with rfl|hc
   ·exact hbe
   ·rintro rfl
    rcases he with z|z
    ·exact afB c b hc z
    ·rw[hc] at z;cases z;exact hb rfl
end
section
variable {fs fs' ex ex':Fh Fq}{H H1 H2:Hp}{h h1 h2 h':Ha}{a x e:Fq}{o:HO}
theorem Un.any (u:Un fs ex H H1 h h1) {b:Fq}(q:h.get? b=FB ob) (n:H b=FM) (hx:b∉ex): ∃sl,h1.get? b=FB { ob with slots:=sl } :=by
 by_cases hb:b∈fs
 ·exact u.slot b ob q n hb hx
 ·exact#[ob.slots,u.keep b ob q n hb hx]
theorem Un.kept (k: ∀b u,h.get? b=FB u->h'.get? b=FB u):Un fs ex H H h h':=
 #[λb ob q _ _ _=>k b ob q,λb ob q _ _ _=>#[ob.slots,k b ob q],λ_ _ _ n _=>n,λb ob q _=>#[ob,k b ob q],λ_ _ q=>q,λ_ _ _ q=>q,λ_ ps q=>#[[].toArray,by rw[q];simp]]
theorem Un.refl:Un fs ex H H h h:=Un.kept λ_ _ q=>q
theorem Un.laid (k: ∀b u,h.get? b=FB u->h'.get? b=FB u) (hp:h.objs.size<=a) (hn:H a=FM):Un fs ex H (aF H a o) h h' where
 keep:=λb u q _ _ _=>k b u q
 slot:=λb u q _ _ _=>#[u.slots,k b u q]
 free:=λb u q n _=>by rw[ac (Hi (Ge (F7 q) hp))];exact n
 there:=λb u q _=>#[u,k b u q]
 Rp:=λb xs q=>by rw[ac (ai q hn)];exact q
 QZ:=λb u xs q=>by rw[ac (ai q hn)];exact q
 Rq:=λb ps q=>#[[].toArray,by rw[ac (ai q hn),q];simp]
theorem Un.write (mu:eU (H x)) (he:e=x\/H e=FB (.own x)) (k: ∀b u,b≠e->h.get? b=FB u->h'.get? b=FB u) (heo: ∃u,h'.get? e=FB u):Un fs ex H (aF H x o) h h':=by
 have hx: ∀b,H b=FM->b≠x:=λb n z=>by subst z;rw[n] at mu;exact mu
 have hb: ∀b,H b=FM->b≠e:=λb n z=>by
  subst z;rcases he with r|r
  ·exact hx b n r
  ·rw[n] at r;cases r
 have hm: ∀b u,H b=FB u-> ¬eU (FB u)->b≠x:=λb u q nm z=>by subst z;rw[q] at mu;exact nm mu
 refine#[λb u q n _ _=>k b u (hb b n) q,λb u q n _ _=>#[u.slots,k b u (hb b n) q],λb u q n _=>by rw[ac (hx b n)];exact n,λb u q _=>?_,
  λb xs q=>by rw[ac (hm b _ q λz=>z)];exact q,λb u xs q=>by rw[ac (hm b _ q λz=>z)];exact q,λb ps q=>#[[].toArray,by rw[ac (hm b _ q λz=>z),q];simp]]
 by_cases hbe:b=e
 ·subst hbe;exact heo
 ·exact#[u,k b u hbe q]
end
structure Cx where
 prog:Gh
 w:GR
 K:Fm
 mg:FY->FA Fp
 base:Ha
 A:Hc
 N:Fh FY
 P6:Fw
 H_0:Hp
 env:Env
 outer:Fh Env
 stack:Fh Env
 ex:Fh Fq
 fn:FY->GA
 calm:GA
 pn:Fh (Fq×Jh)
 xe:Fp->Fw->Prop
abbrev Cx.fs (X:Cx):Fh Fq:=rQ X.outer
def oZ (sc:Scope) (x:FY):Prop:=sc.names.lookup x=FB .local\/sc.names.lookup x=FB .cell\/sc.names.lookup x=FB .free
def Loc (sc:Scope) (x:FY):Prop:=sc.names.lookup x=FB .local\/sc.names.lookup x=FB .cell
def Look (env:Env) (h:Ha) (m:FY->FA Fp) (x:FY) (u:Fp):Prop:=
 (env.kindOf x=FB .local/\m x=FB u)\/((env.kindOf x=FB .cell\/env.kindOf x=FB .free)/\ ∃c,env.cells.lookup x=FB c/\h.IsCell c (FB u))
structure Cx.Ok (X:Cx):Prop where
 mod:Mod X.K X.mg X.base
 kind:X.env.scope.kind= .function
 glob:X.env.globals=Jx
 blt:X.env.builtins=Zi
 above:X.P6.heap.objs.size<=X.env.locals
 inj: ∀x y c,X.env.cells.lookup x=FB c->X.env.cells.lookup y=FB c->x=y
 has: ∀x,(X.env.kindOf x=FB .cell\/X.env.kindOf x=FB .free)-> ∃c,X.env.cells.lookup x=FB c
 Ym: ∀x c,X.fn x=FS->X.env.cells.lookup x=FB c->X.P6.heap.objs.size<=c
 hd:X.calm=FS->X.A.handled=FM
 frames:X.A.frames=FB X.stack
 Yn:X.stack=X.outer\/(X.stack=X.env::X.outer/\X.env.frame=FB X.env.locals)
 exf: ∀b∈X.ex,b≠X.env.locals/\ ∀x c,X.env.cells.lookup x=FB c->c≠b
 bs: ∀b o,X.base.get? b=FB o->X.P6.heap.get? b=FB o/\X.H_0 b=FM
 Ve:X.base.objs.size<=X.P6.heap.objs.size
 Ta: ∀b o,X.base.get? b=FB o->b∉X.ex
 Tb: ∀b∈X.ex,b∉X.fs
 funs:X.P6.heap.FunFrames X.base X.outer
 WQ: ∀b∈X.fs,X.H_0 b=FM
structure aE (X:Cx) (pins:Fh (Fq×Jh)) (σ:Fh (FA V)) (H:Hp) (s:Fw):Prop where
 ok:X.Ok
 os:s.os=X.P6.os
 bare:Qp s.gens
 base:Un X.fs X.ex X.H_0 H X.P6.heap s.heap
 loc: ∃m,s.heap.Ns X.env.locals m/\ ∀(i:FH) (x:FY) (v:V),X.N[i]?=FB x->σ[i]?=FB (FB v)->oZ X.env.scope x-> ∃u,br v u/\Look X.env s.heap m x u
 cell: ∀x c,X.env.cells.lookup x=FB c-> ∃v,s.heap.IsCell c v
 free:H X.env.locals=FM
 Mz: ∀x c,X.env.cells.lookup x=FB c->H c=FM
 pin: ∀p∈X.pn++pins,s.heap.get? p.1=FB p.2/\H p.1=FM/\p.1≠X.env.locals/\p.1∉X.fs/\ ∀v,p.2.data≠ .cell v
 IF:ij X.prog X.w H s.heap
 len:σ.length=X.N.length
section
variable {X:Cx}{pins:Fh (Fq×Jh)}{σ:Fh (FA V)}{H H':Hp}{s:Fw}{h':Ha}
theorem Cx.Ok.akN (ok:X.Ok) {b:Fq}{o:Jh}(e:X.base.get? b=FB o):b∉X.fs:=λhb=>by
 have:=(ok.funs.mem hb).1;rw[e] at this;cases this
theorem aE.bs (I:aE X pins σ H s): ∀b o,X.base.get? b=FB o->s.heap.get? b=FB o/\H b=FM:=λb o e=>
 #[I.base.keep b o (I.ok.bs b o e).1 (I.ok.bs b o e).2 (I.ok.akN e) (I.ok.Ta b o e),I.base.free b o (I.ok.bs b o e).1 (I.ok.bs b o e).2 (I.ok.Ta b o e)]
theorem aE.bk (I:aE X pins σ H s): ∀b o,X.base.get? b=FB o->s.heap.get? b=FB o:=λb o e=>(I.bs b o e).1
theorem aE.mod (I:aE X pins σ H s):Mod X.K X.mg X.base:=I.ok.mod
theorem aE.NI (I:aE X pins σ H s):X.K.In s.heap:=I.ok.mod.VI.keeps I.bk
theorem aE.fr (I:aE X pins σ H s): ∃m,Fr X.base X.env.locals s.heap m:=
 let ⟨m,hn,_⟩:=I.loc
 #[m,hn,I.bk,FV I.ok.Ve I.ok.above]
theorem aE.lt (I:aE X pins σ H s):X.env.locals<s.heap.objs.size:=let ⟨_,hn,_⟩:=I.loc;hn.lt
theorem aE.sz (I:aE X pins σ H s):X.P6.heap.objs.size<=s.heap.objs.size:=FV I.ok.above (K3 I.lt)
theorem aE.akO (I:aE X pins σ H s) {a:Fq}(h:s.heap.objs.size<=a):a∉X.fs:=λhb=>by
 obtain⟨_,o,ho,_⟩:=I.ok.funs.mem hb;exact FP (Ge (F7 ho) (FV I.sz h)) (Ii _)
theorem aE.Yo (I:aE X pins σ H s): ∀x c,X.env.cells.lookup x=FB c->c≠X.env.locals:=λx c e z=>by
 obtain⟨v,o,ho,hd⟩:=I.cell x c e;obtain⟨m,⟨o',es,ep,RI,XF,_⟩,_⟩:=I.loc;rw[z,RI] at ho;cases ho;rw[XF] at hd;cases hd
theorem aE.funs (I:aE X pins σ H s):s.heap.FunFrames X.base X.outer:=by
 have all: ∀(l:Fh Env),(∀b∈rQ l,b∈X.fs)->X.P6.heap.FunFrames X.base l->s.heap.FunFrames X.base l:=by
  intro l
  induction l with
  |nil=>intro _ _;trivial
  |cons env r ih=>
   intro hs hl;obtain⟨hk,⟨L,o,hf,hn,ho,hd⟩,hr⟩:=hl;have hL:L∈X.fs:=hs L (by unfold rQ;rw[K9,hf];exact Fy);obtain⟨sl,e⟩:=I.base.slot L o ho (I.ok.WQ L hL) hL λz=>I.ok.Tb L z hL;exact#[hk,#[L,_,hf,hn,e,hd],ih (λb hb=>hs b (by unfold rQ;rw[K9,hf];exact Fx _ hb)) hr]
 exact all X.outer (λ_ hb=>hb) I.ok.funs
theorem aE.stack (I:aE X pins σ H s):s.heap.FunFrames X.base X.stack:=by
 rcases I.ok.Yn with e|⟨e,hf⟩
 ·rw[e];exact I.funs
 ·rw[e]
  obtain⟨m,hn,_⟩:=I.loc;refine .cons (by rw[I.ok.kind];decide) hf hn ?_ I.funs;exact Ha.get?_none_of_le (FV I.ok.Ve I.ok.above)
theorem aE.Si (I:aE X pins σ H s): ∀b∈rQ X.stack,b∈X.env.locals::X.fs:=λb hb=>by
 rcases I.ok.Yn with e|⟨e,hf⟩
 ·rw[e] at hb;exact Fx _ hb
 ·rw[e] at hb
  unfold rQ at hb;rw[K9,hf] at hb;exact hb
theorem aE.QS (I:aE X pins σ H s): ∀b∈rQ X.stack,H b=FM:=λb hb=>by
 rcases FF.mp (I.Si b hb) with e|hb
 ·rw[e];exact I.free
 ·obtain⟨_,o,ho,_⟩:=I.ok.funs.mem hb
  exact I.base.free b o ho (I.ok.WQ b hb) λz=>I.ok.Tb b z hb
theorem aE.step {g':JE Rm}{t':FH}{d':Drawn}{ch:Fh Fq}(I:aE X pins σ H s)
  (Ud: ∀b∈ch,(b∈X.ex\/X.P6.heap.objs.size<=b)/\b≠X.env.locals/\(∀x c,X.env.cells.lookup x=FB c->c≠b)/\ ∀p∈X.pn++pins,p.1≠b)
  (keep: ∀b o,b≠X.env.locals->b∉X.fs->b∉ch->s.heap.get? b=FB o->H b=FM->h'.get? b=FB o)
  (slot: ∀b o,b≠X.env.locals->b∈X.fs->b∉ch->s.heap.get? b=FB o->H b=FM-> ∃sl,h'.get? b=FB { o with slots:=sl }) (free: ∀b o,b∉ch->s.heap.get? b=FB o->H b=FM->H' b=FM)
  (there: ∀b o,b∉ch->s.heap.get? b=FB o-> ∃o',h'.get? b=FB o')
  (Rp: ∀b xs,H b=FB (.tup xs)->H' b=FB (.tup xs)) (QZ: ∀b o u,H b=FB (.QY o u)->H' b=FB (.QY o u)) (Rq: ∀b ps,H b=FB (.Zz ps)-> ∃more,H' b=FB (.Zz (ps++more)))
  (ns: ∀m,s.heap.Ns X.env.locals m->h'.Ns X.env.locals m) (IF:ij X.prog X.w H' h') (hg:Qp g'):
  aE X pins σ H' { s with heap:=h',gens:=g',drawn:=d',toks:=t' } :=by
 have neL: ∀b o,X.P6.heap.get? b=FB o->b≠X.env.locals:=λb o e=>Hi (Ge (F7 e) I.ok.above)
 have neC: ∀b o,X.P6.heap.get? b=FB o->b∉X.ex->b∉ch:=λb o e hx hb=>by
  rcases(Ud b hb).1 with z|z
  ·exact hx z
  ·exact FP (Ge (F7 e) z) (Ii _)
 have cellK: ∀x c,X.env.cells.lookup x=FB c-> ∀v,s.heap.IsCell c v->h'.IsCell c v:=λx c e v ⟨o,ho,hd⟩=>by
  have nch:c∉ch:=λz=>(Ud c z).2.2.1 x c e rfl
  by_cases hc:c∈X.fs
  ·obtain⟨sl,q⟩:=slot c o (I.Yo x c e) hc nch ho (I.Mz x c e)
   exact#[_,q,hd]
  ·exact#[o,keep c o (I.Yo x c e) hc nch ho (I.Mz x c e),hd]
 refine#[I.ok,I.os,hg,#[λb o e n hb hx=>?_,λb o e n hb hx=>?_,λb o e n hx=>?_,λb o e hx=>?_,λb xs e=>Rp b xs (I.base.Rp b xs e),λb o xs e=>QZ b o xs (I.base.QZ b o xs e),λb ps e=>?_],?_,λx c e=>?_,?_,λx c e=>?_,λp hp=>?_,IF,I.len]
 ·exact keep b o (neL b o e) hb (neC b o e hx) (I.base.keep b o e n hb hx) (I.base.free b o e n hx)
 ·obtain⟨sl,e1⟩:=I.base.slot b o e n hb hx
  obtain⟨sl',e2⟩:=slot b _ (neL b o e) hb (neC b o e hx) e1 (I.base.free b o e n hx);exact#[sl',e2]
 ·obtain⟨o',e1⟩:=I.base.there b o e hx
  exact free b o' (neC b o e hx) e1 (I.base.free b o e n hx)
 ·obtain⟨o',e1⟩:=I.base.there b o e hx
  exact there b o' (neC b o e hx) e1
 ·obtain⟨m1,e1⟩:=I.base.Rq b ps e
  obtain⟨m2,e2⟩:=Rq b _ e1;exact#[m1++m2,by rw[e2,JE.append_assoc]]
 ·obtain⟨m,hn,hl⟩:=I.loc
  refine#[m,ns m hn,λi x v e1 e2 e3=>?_];obtain⟨u,r,l⟩:=hl i x v e1 e2 e3;refine#[u,r,?_];rcases l with l|⟨k,c,e,z⟩
  ·exact .inl l
  ·exact .inr #[k,c,e,cellK x c e _ z]
 ·obtain⟨v,z⟩:=I.cell x c e
  exact#[v,cellK x c e v z]
 ·obtain⟨m,⟨o,_,_,ho,_⟩,_⟩:=I.loc
  exact free _ o (λz=>(Ud _ z).2.1 rfl) ho I.free
 ·obtain⟨v,o,ho,hd⟩:=I.cell x c e
  exact free c o (λz=>(Ud c z).2.2.1 x c e rfl) ho (I.Mz x c e)
 ·obtain⟨e,n,ne,nf,d⟩:=I.pin p hp
  have nch:p.1∉ch:=λz=>(Ud p.1 z).2.2.2 p hp rfl
  exact#[keep p.1 p.2 ne nf nch e n,free p.1 p.2 nch e n,ne,nf,d]
theorem aE.un {t':FH}(I:aE X pins σ H s) (u:Un X.fs [] H H' s.heap h') (IF:ij X.prog X.w H' h'):aE X pins σ H' { s with heap:=h',toks:=t' } :=by
 obtain⟨m,⟨o,es,ep,ho,r⟩,_⟩:=id I.loc;obtain⟨sl,hL⟩:=u.any ho I.free (by simp);exact I.step (g':=s.gens) (d':=s.drawn) (ch:=[]) (λ_ z=>nomatch z) (λb o _ hb _ e n=>u.keep b o e n hb (by simp)) (λb o _ hb _ e n=>u.slot b o e n hb (by simp)) (λb o _ e n=>u.free b o e n (by simp)) (λb o _ e=>u.there b o e (by simp)) u.Rp u.QZ u.Rq (λm' hm=>by
  obtain⟨o',es',ep',RI,r'⟩:=hm;rw[ho] at RI;cases RI;exact#[_,es',ep',hL,r']) IF I.bare
theorem aE.call {g':JE Rm}{t':FH}{d':Drawn}{ch:Fh Fq}(I:aE X pins σ H s) (u:Un (rQ X.stack) ch H H' s.heap h') (IF:ij X.prog X.w H' h') (hg:Qp g')
  (Ud: ∀b∈ch,(b∈X.ex\/X.P6.heap.objs.size<=b)/\b≠X.env.locals/\(∀x c,X.env.cells.lookup x=FB c->c≠b)/\ ∀p∈X.pn++pins,p.1≠b):
  aE X pins σ H' { s with heap:=h',gens:=g',drawn:=d',toks:=t' } :=by
 obtain⟨m,⟨o,es,ep,ho,r⟩,_⟩:=id I.loc;obtain⟨sl,hL⟩:=u.any ho I.free λz=>(Ud _ z).2.1 rfl;exact I.step (ch:=ch) Ud (λb o hL hb hc e n=>u.keep b o e n (λz=>(FF.mp (I.Si b z)).elim hL hb) hc) (λb o _ _ hc e n=>u.any e n hc) (λb o hc e n=>u.free b o e n hc) (λb o hc e=>u.there b o e hc) u.Rp u.QZ u.Rq (λm' hm=>by
  obtain⟨o',es',ep',RI,r'⟩:=hm;rw[ho] at RI;cases RI;exact#[_,es',ep',hL,r']) IF hg
theorem aE.turned {t':FH}{it:Fq}(I:aE X pins σ H s) (k: ∀b o,b≠it->s.heap.get? b=FB o->h'.get? b=FB o) (hn:H it=FM) (hL:it≠X.env.locals)
  (h1:it∈X.ex\/X.P6.heap.objs.size<=it) (h2: ∀x c,X.env.cells.lookup x=FB c->c≠it) (h3: ∀p∈X.pn++pins,p.1≠it):aE X pins σ H { s with heap:=h',toks:=t' } :=by
 have nit: ∀b u,H b=FB u->b≠it:=λb u e z=>by rw[z,hn] at e;cases e
 refine I.step (g':=s.gens) (d':=s.drawn) (ch:=[it]) (λb hb=>?_) (λb o _ _ hc e _=>k b o (λz=>hc (by simp [z])) e) (λb o _ _ hc e _=>#[o.slots,k b o (λz=>hc (by simp [z])) e]) (λ_ _ _ _ n=>n)
  (λb o hc e=>#[o,k b o (λz=>hc (by simp [z])) e]) (λ_ _ e=>e) (λ_ _ _ e=>e) (λb ps e=>#[[].toArray,by rw[e];simp]) (λm hm=>?_) (λb u e=>?_) I.bare
 ·have e:b=it:=by simpa using hb
  subst e;exact#[h1,hL,h2,h3]
 ·obtain⟨o,es,ep,ho,r⟩:=hm
  exact#[o,es,ep,k _ o (IV hL) ho,r]
 ·refine(I.IF b u e).Sh (λc v hc q=>k c v ?_ q) [05] λ_ _ q=>q
  rcases hc with z|z
  ·rw[z];exact nit b u e
  ·exact nit c _ z
theorem aE.tok (I:aE X pins σ H s) (t:FH):aE X pins σ H { s with toks:=t } :=I.un (h':=s.heap) (t':=t) Un.refl I.IF
theorem aE.kept (I:aE X pins σ H s) (k: ∀b u,s.heap.get? b=FB u->h'.get? b=FB u):aE X pins σ H { s with heap:=h',toks:=t' } :=I.un (Un.kept k) (I.IF.kept k)
theorem aE.laid {a:Fq}{o:HO}(I:aE X pins σ H s) (k: ∀b u,s.heap.get? b=FB u->h'.get? b=FB u) (hp:s.heap.objs.size<=a) (new:cy X.prog X.w (aF H a o) h' a o):
  aE X pins σ (aF H a o) { s with heap:=h',toks:=t' } :=I.un (Un.laid k hp (I.IF.fresh hp)) (I.IF.laid k hp new)
theorem aE.write {x e:Fq}{o:HO}(I:aE X pins σ H s) (mu:eU (H x)) (he:e=x\/H e=FB (.own x)) (k: ∀b u,b≠e->s.heap.get? b=FB u->h'.get? b=FB u) (heo: ∃u,h'.get? e=FB u)
  (new:cy X.prog X.w (aF H x o) h' x o):aE X pins σ (aF H x o) { s with heap:=h',toks:=t' } :=I.un (Un.write mu he k heo) (I.IF.write mu he k heo new)
theorem aE.weak (I:aE X pins σ H s) (hl:σ'.length=σ.length) (w: ∀(i:FH) v,σ'[i]?=FB (FB v)->σ[i]?=FB (FB v)):aE X pins σ' H s:=
 #[I.ok,I.os,I.bare,I.base,let ⟨m,hn,hl'⟩:=I.loc;#[m,hn,λi x v e1 e2 e3=>hl' i x v e1 (w i v e2) e3],I.cell,I.free,I.Mz,I.pin,I.IF,hl.trans I.len]
theorem aE.UM (I:aE X pins σ H s) (h: ∀p∈UO,s.heap.get? p.1=FB p.2/\H p.1=FM/\p.1≠X.env.locals/\p.1∉X.fs/\ ∀v,p.2.data≠ .cell v):aE X UO σ H s:=
 #[I.ok,I.os,I.bare,I.base,I.loc,I.cell,I.free,I.Mz,λp hp=>(F8.mp hp).elim (λz=>I.pin p (Mp _ z)) (h p),I.IF,I.len]
theorem oU {N:Fh FY}(hN:N.Nodup) {i j:FH}{x:FY}(a:N[i]?=FB x) (b:N[j]?=FB x):i=j:=by
 obtain⟨h1,e1⟩:=Gq.mp a;obtain⟨h2,e2⟩:=Gq.mp b;exact(Fh.getElem_inj hN).mp (e1.trans e2.symm)
theorem pY {M:Model}{A:Hc}{E:Fp->Fw->Prop}{i:FH}{x:FY}{v:V}{u:Fp}{Q:Nj->Fw->Prop}(I:aE X pins σ H s) (hN:X.N.Nodup) (hi:X.N[i]?=FB x) (hx:Loc X.env.scope x) (r:br v u)
  (h: ∀s',aE X pins (σ.set i (FB v)) H s'->(∃a,MT a s.heap s'.heap/\(a=X.env.locals\/X.env.cells.lookup x=FB a))->Q () s') (hf:X.fn x=FS\/X.env.scope.names.lookup x=FB .local:=by first|exact .inl rfl|exact .inr rfl|assumption):F4 M A (storeName X.env x u) Q E s:=by
 obtain⟨m,hn,hl⟩:=id I.loc;have aaA:(X.env.scope.kind == .class||(X.env.scope.kind == .module&&X.env.locals !=X.env.globals))=Gc:=by rw[I.ok.kind];rfl
 have hiσ:i<σ.length:=by rw[I.len];exact(Gq.mp hi).1
 have Yo:=I.Yo
 have tracked: ∀ {a:Fq}{h':Ha},(∃o,s.heap.get? a=FB o/\H a=FM)->MT a s.heap h'->ij X.prog X.w H h':=λ{a h'} ha hs b ob e=>by
  obtain⟨_,_,RJ⟩:=ha;refine(I.IF b ob e).Sh (λc w' hc q=>(hs.2 c ?_).trans q) [05] λ_ _ q=>q;rintro rfl;rcases hc with rfl|hc
  ·rw[RJ] at e;cases e
  ·rw[RJ] at hc;cases hc
 rcases hx with hk|hk
 ·refine wpAny_storeName_local hk hn (λh' Yp hs=>?_) aaA
  obtain⟨oL,_,_,hoL,_⟩:=id hn;refine h _ #[I.ok,I.os,I.bare,#[λb o e n hb hx=>?_,λb o e n hb hx=>?_,I.base.free,λb o e hx=>?_,I.base.Rp,I.base.QZ,I.base.Rq],#[_,Yp,λj y v' e1 e2 e3=>?_],λy c e=>?_,I.free,I.Mz,λp hp=>?_,tracked #[oL,hoL,I.free] hs,by simpa using I.len] #[_,hs, .inl rfl]
  ·exact(hs.2 b (Hi (Ge (F7 e) I.ok.above))).trans (I.base.keep b o e n hb hx)
  ·obtain⟨sl,e1⟩:=I.base.slot b o e n hb hx
   exact#[sl,(hs.2 b (Hi (Ge (F7 e) I.ok.above))).trans e1]
  ·obtain⟨o',e1⟩:=I.base.there b o e hx
   exact#[o',(hs.2 b (Hi (Ge (F7 e) I.ok.above))).trans e1]
  ·by_cases hj:j=i
   ·subst hj
    rw[hi] at e1;cases e1;rw[N7 hiσ] at e2;cases e2;exact#[u,r, .inl #[hk,by simp]]
   ·rw[OI (IV hj)] at e2
    obtain⟨u',r',q⟩:=hl j y v' e1 e2 e3;refine#[u',r',?_];rcases q with⟨k,e⟩|⟨k,c,e,z⟩
    ·refine .inl #[k,?_]
     have:y≠x:=λe=>hj (oU hN e1 (e▸hi))
     simp [this,e]
    ·exact .inr #[k,c,e,z.sameBut hs (Yo y c e)]
  ·obtain⟨w',z⟩:=I.cell y c e
   exact#[w',z.sameBut hs (Yo y c e)]
  ·obtain⟨e,n,ne,nf,d⟩:=I.pin p hp
   exact#[(hs.2 p.1 ne).trans e,n,ne,nf,d]
 ·have UP:X.fn x=FS:=by
   rcases hf with z|z
   ·exact z
   ·rw[z] at hk;cases hk
  obtain⟨c,hc⟩:=I.ok.has x (.inl hk);obtain⟨w',z⟩:=I.cell x c hc;refine wpAny_storeName_cell I.ok.kind hk hc z (λh' WX hs=>?_);obtain⟨oc,hoc,akP⟩:=id z;refine h { s with heap:=h' } #[I.ok,I.os,I.bare,#[λb o e n hb hx=>?_,λb o e n hb hx=>?_,I.base.free,λb o e hx=>?_,I.base.Rp,I.base.QZ,I.base.Rq],#[m,hn.sameBut hs (IV (Yo x c hc)),λj y v' e1 e2 e3=>?_],λy c' e=>?_,I.free,I.Mz,λp hp=>?_,tracked #[oc,hoc,I.Mz x c hc] hs,by simpa using I.len] #[c,hs, .inr hc]
  ·exact(hs.2 b (Hi (Ge (F7 e) (I.ok.Ym x c UP hc)))).trans (I.base.keep b o e n hb hx)
  ·obtain⟨sl,e1⟩:=I.base.slot b o e n hb hx
   exact#[sl,(hs.2 b (Hi (Ge (F7 e) (I.ok.Ym x c UP hc)))).trans e1]
  ·obtain⟨o',e1⟩:=I.base.there b o e hx
   exact#[o',(hs.2 b (Hi (Ge (F7 e) (I.ok.Ym x c UP hc)))).trans e1]
  ·by_cases hj:j=i
   ·subst hj
    rw[hi] at e1;cases e1;rw[N7 hiσ] at e2;cases e2;exact#[u,r, .inr #[.inl hk,c,hc,WX]]
   ·rw[OI (IV hj)] at e2
    obtain⟨u',r',q⟩:=hl j y v' e1 e2 e3;refine#[u',r',?_];rcases q with q|⟨k,c',e,z'⟩
    ·exact .inl q
    ·refine .inr #[k,c',e,z'.sameBut hs ?_]
     rintro rfl;exact hj (oU hN e1 (I.ok.inj _ _ _ e hc▸hi))
  ·by_cases hcc:c'=c
   ·subst hcc;exact#[_,WX]
   ·obtain⟨w2,z2⟩:=I.cell y c' e
    exact#[w2,z2.sameBut hs hcc]
  ·obtain⟨e,n,ne,nf,d⟩:=I.pin p hp
   refine#[(hs.2 p.1 ?_).trans e,n,ne,nf,d];intro q;rw[q,hoc] at e;have q':oc=p.2:=FL e;exact d w' (by rw[<-q'];exact akP)
theorem kK {A:Hc}{E:Fp->Fw->Prop}{i:FH}{x:FY}{v:V}{u:Fp}{Q:Nj->Fw->Prop}(I:aE X pins σ H s) (hN:X.N.Nodup) (hi:X.N[i]?=FB x) (hx:Loc X.env.scope x) (r:br v u)
  (h: ∀s',aE X pins (σ.set i (FB v)) H s'->Q () s') (hf:X.fn x=FS\/X.env.scope.names.lookup x=FB .local:=by first|exact .inl rfl|exact .inr rfl|assumption):F4 M A (storeName X.env x u) Q E s:=
 pY I hN hi hx r (λs' I' _=>h s' I') hf
theorem aE.Wu {s':Fw}(I:aE X pins σ H s) (ho:s'.os=s.os) (u:Un (rQ X.stack) ch H H' s.heap s'.heap) (IF:ij X.prog X.w H' s'.heap) (hg:Qp s'.gens)
  (Ud: ∀b∈ch,(b∈X.ex\/X.P6.heap.objs.size<=b)/\b≠X.env.locals/\(∀x c,X.env.cells.lookup x=FB c->c≠b)/\ ∀p∈X.pn++pins,p.1≠b):aE X pins σ H' s':=by
 obtain⟨h',g',d',t',o'⟩:=s';have e:o'=s.os:=ho;subst e;exact I.call (g':=g') (t':=t') (d':=d') u IF hg Ud
end
abbrev St:=Fh (FA V)
abbrev TE:=St->Hp->VK->Prop
abbrev TT:=St->Hp->(GA->Hp->Prop)->Prop
abbrev TA:=St->Hp->(Fh V->Hp->Prop)->Prop
structure d9 where
 nx:St->Hp->Prop
 rt:VK
 bk:St->Hp->Prop:=λ_ _=>False
 ct:St->Hp->Prop:=λ_ _=>False
abbrev TS:=d9->St->Hp->Prop
inductive EP (X:Cx) (pins:Fh (Fq×Jh)) (σ:St) (Q:VK) (u:Fp) (s':Fw):Prop
 |mk (v:V) (H':Hp) (_:aE X pins σ H' s') (_:br v u) (_:Q v H'):EP X pins σ Q u s'
def TP (X:Cx) (pins:Fh (Fq×Jh)) (σ:St) (Q:GA->Hp->Prop) (b:GA) (s':Fw):Prop:= ∃H',aE X pins σ H' s'/\Q b H'
inductive AP (X:Cx) (pins:Fh (Fq×Jh)) (σ:St) (Q:Fh V->Hp->Prop) (us:Fh Fp) (s':Fw):Prop
 |mk (vs:Fh V) (H':Hp) (_:aE X pins σ H' s') (_:a8 vs us) (_:Q vs H'):AP X pins σ Q us s'
def SP (X:Cx) (pins:Fh (Fq×Jh)) (D:d9) (f:Flow) (s':Fw):Prop:=
 match f with
 | .next=> ∃σ' H',aE X pins σ' H' s'/\D.nx σ' H'
 | .brk=> ∃σ' H',aE X pins σ' H' s'/\D.bk σ' H'
 | .cont=> ∃σ' H',aE X pins σ' H' s'/\D.ct σ' H'
 | .ret u=> ∃v σ' H',aE X pins σ' H' s'/\br v u/\D.rt v H'
def PE (X:Cx) (e:HM) (t:TE):Prop:=
 ∀(pins:Fh (Fq×Jh)) (s:Fw) (σ:St) (H:Hp) (Q:VK),aE X pins σ H s->t σ H Q->F4 (model X.prog X.w) X.A (eval e X.env) (EP X pins σ Q) X.xe s
def PT (X:Cx) (e:HM) (t:TT):Prop:=
 ∀(pins:Fh (Fq×Jh)) (s:Fw) (σ:St) (H:Hp) (Q:GA->Hp->Prop),aE X pins σ H s->t σ H Q->F4 (model X.prog X.w) X.A (isTrue e X.env (eval e X.env)) (TP X pins σ Q) X.xe s
def PW (X:Cx) (e:HM) (t:TT):Prop:=
 ∀(gU:Sem Fp) (pins:Fh (Fq×Jh)) (s:Fw) (σ:St) (H:Hp) (Q:GA->Hp->Prop),aE X pins σ H s->t σ H Q->F4 (model X.prog X.w) X.A (isTrue e X.env gU) (TP X pins σ Q) X.xe s
theorem PW.pt {X:Cx}{e:HM}{t:TT}(h:PW X e t):PT X e t:=h _
def PA (X:Cx) (es:Fh HM) (t:TA):Prop:=
 ∀(pos:Pos) (pins:Fh (Fq×Jh)) (s:Fw) (σ:St) (H:Hp) (Q:Fh V->Hp->Prop),aE X pins σ H s->t σ H Q->F4 (model X.prog X.w) X.A (spliced (Jf pos (FU es X.env))) (AP X pins σ Q) X.xe s
def PS (X:Cx) (st:Stmt) (t:TS):Prop:=
 ∀(pins:Fh (Fq×Jh)) (s:Fw) (σ:St) (H:Hp) (D:d9),aE X pins σ H s->t D σ H->F4 (model X.prog X.w) X.A (exec st X.env) (SP X pins D) X.xe s
def uz (X:Cx) (st:Fh Stmt) (t:TS):Prop:=
 ∀(pins:Fh (Fq×Jh)) (s:Fw) (σ:St) (H:Hp) (D:d9),aE X pins σ H s->t D σ H->F4 (model X.prog X.w) X.A (execs st X.env) (SP X pins D) X.xe s
inductive Bd (X:Cx) (st:Fh Stmt) (D:d9) (σ:St) (H:Hp):Prop
 |mk (t:TS) (_:uz X st t) (_:t D σ H):Bd X st D σ H
theorem b9 {α:Type}{t:Sem α}{Q Q':α->Fw->Prop}{A:Hc}{E:Fp->Fw->Prop}{s:Fw}(h:F4 M A t Q E s) (hQ: ∀a s,Q a s->Q' a s):F4 M A t Q' E s:=IS h hQ λ_ _ x=>x
section
variable {X:Cx}
theorem bin {a b:HM}{ta tb:TE}(ha:PE X a ta) (hb:PE X b tb) {pins:Fh (Fq×Jh)}{s:Fw}{σ:St}{H:Hp}{R:V->V->Hp->Prop}(I:aE X pins σ H s) (h:ta σ H λx H1=>tb σ H1 λy H2=>R x y H2)
  {α:Type}{Q:α->Fw->Prop}{f:Fp->Fp->Sem α}
  (hf: ∀v u s2 x y H2,aE X pins σ H2 s2->br x v->br y u->R x y H2->F4 (model X.prog X.w) X.A (f v u) Q X.xe s2):
  F4 (model X.prog X.w) X.A (eval a X.env) (λv s₁=>F4 (model X.prog X.w) X.A (eval b X.env) (λu s₂=>F4 (model X.prog X.w) X.A (f v u) Q X.xe s₂) X.xe s₁) X.xe s:=by
 refine b9 (ha pins s σ H _ I h) λv s1 ⟨x,H1,I1,r1,q1⟩=>?_;refine b9 (hb pins s1 σ H1 _ I1 q1) λu s2 ⟨y,H2,I2,r2,q2⟩=>?_;exact hf v u s2 x y H2 I2 r1 r2 q2
def ir:FH->St->Hp->VK->Prop
 |0,some v::_,H,Q=>Q v H
 |i+1,_::σ,H,Q=>ir i σ H Q
 |_,_,_,_=>False
theorem A4 {H:Hp}{Q:VK} : ∀ {i:FH}{σ:St},ir i σ H Q-> ∃v,σ[i]?=FB (FB v)/\Q v H
 |0,some v::_,h=>#[v,Go,h]
 |i+1,_::σ,h=>A4 (i:=i) (σ:=σ) h
theorem oE {H:Hp}{Q:VK}{v:V}(q:Q v H): ∀ {i:FH}{σ:St},σ[i]?=FB (FB v)->ir i σ H Q
 |0,some _::_,e=>FL (FL e)▸q
 |i+1,_::σ,e=>oE q (i:=i) (σ:=σ) e
def tC (v:V):TE:=λ_ H Q=>Q v H
theorem dX {i:FH}{x:FY}{pos:Pos}(hN:X.N[i]?=FB x) (hv:oZ X.env.scope x) (hd:(x == [003])=Gc:=by decide) (SN:(x == ("__classdict__":FY))=Gc:=by decide):PE X (.Name x pos) (ir i):=by
 rw[01];obtain⟨v,e,h⟩:=A4 h;obtain⟨m,hn,hl⟩:=I.loc;obtain⟨u,r,l⟩:=hl i x v hN e hv;have eN:EP X pins σ Q u s:=#[v,H,I,r,h];rcases l with⟨hk,hm⟩|⟨hk,c,hc,UQ⟩
 ·exact Zj (W3 I.ok.kind hk hn hm eN) hd
 ·rcases hk with hk|hk
  ·exact Zj (XY I.ok.kind hk hc UQ eN) hd
  ·exact Zj (wpAny_loadName_free I.ok.kind hk hc UQ eN SN) hd
theorem ak {i j pos} :PE X (.Constant (.int i) j pos) (tC (.int i)):=λ_ _ _ H _ I h=>wpAny_Constant_int #[.int i,H,I.tok _,#[_,Go],h]
theorem tM {b j pos} :PE X (.Constant (.bool b) j pos) (tC (.bl b)):=λ_ _ _ H _ I h=>Constant_bool #[.bl b,H,I,Go,h]
theorem aaB {j pos} :PE X (.Constant .none j pos) (tC .IX):=λ_ _ _ H _ I h=>Constant_none #[.IX,H,I,Go,h]
theorem dJ {x j pos} :PE X (.Constant (.str x) j pos) (tC (.str x)):=λ_ _ _ H _ I h=>Calls.Constant_str #[.str x,H,I.tok _,#[_,Go],h]
def Gl (X:Cx) (x:FY):Prop:=X.env.kindOf x=FB .globalImplicit
theorem gc {E:Fp->Fw->Prop}{pins:Fh (Fq×Jh)}{s:Fw}{σ:St}{H:Hp}{x:FY}{u:Fp}{pos:Pos}{Q:Fp->Fw->Prop}(I:aE X pins σ H s) (hg:Gl X x) (hm:X.mg x=FB u) (h:Q u s)
  (hd:(x == [003])=Gc:=by decide):F4 (model X.prog X.w) X.A (eval (.Name x pos) X.env) Q E s:=
 Rk I.ok.kind hg (Calls.loadGlobal_global (by rw[I.ok.glob];exact I.mod.glob.keeps I.bk) hm h) hd
theorem kT {E:Fp->Fw->Prop}{pins:Fh (Fq×Jh)}{s:Fw}{σ:St}{H:Hp}{x:FY}{u:Fp}{pos:Pos}{Q:Fp->Fw->Prop}(I:aE X pins σ H s) (hg:Gl X x) (hm:X.mg x=FM) (hv:Lo x=FB u) (h:Q u s)
  (hn:x≠"__name__":=by decide) (hd:(x == [003])=Gc:=by decide):F4 (model X.prog X.w) X.A (eval (.Name x pos) X.env) Q E s:=by
 obtain⟨mb,h1,h2⟩:=I.mod.blt;exact Rk I.ok.kind hg (Calls.loadGlobal_builtin (by rw[I.ok.glob];exact I.mod.glob.keeps I.bk) hm (by rw[I.ok.blt];exact h1.keeps I.bk) ((h2 x hn).trans hv) h) hd
theorem rh {x:FY}{v:V}{u:Fp}{pos:Pos}(hg:Gl X x) (hm:X.mg x=FB u) (r:br v u) (hd:(x == [003])=Gc:=by decide):PE X (.Name x pos) (tC v):=
 λ_ _ _ H _ I h=>gc I hg hm #[v,H,I,r,h] hd
variable {a b:HM}{ta tb:TE}{pos:Pos}
def PC (X:Cx) (op:CmpOp) (a b:HM) (t:TE):Prop:=
 ∀(pins:Fh (Fq×Jh)) (s:Fw) (σ:St) (H:Hp) (Q:VK),aE X pins σ H s->t σ H Q->
  F4 (model X.prog X.w) X.A (eval a X.env) (λv s₁=>F4 (model X.prog X.w) X.A (eval b X.env) (λu s₂=>F4 (model X.prog X.w) X.A (IJ op v u) (EP X pins σ Q) X.xe s₂) X.xe s₁) X.xe s
theorem A8 (b:HM) (h:op≠ .In) (h2:op≠ .NotIn):behindInMarks op b=Gc:=by
 have e1:(op == CmpOp.In)=Gc:=by cases op<;>first|rfl|exact FP rfl h
 have e2:(op == CmpOp.NotIn)=Gc:=by cases op<;>first|rfl|exact FP rfl h2
 cases b<;>simp [behindInMarks,e1,e2]
def afC (ta:TE):TE:=λσ H Q=>ta σ H λx H1=>Q (.bl (!decide (x= .IX))) H1
theorem br.Wv {x:V}{v:Fp}(r:br x v):(v == Ih)=decide (x= .IX):=by
 cases x with
 |IX=>cases r;rfl
 |bl _=>cases r;rfl
 |int _=>obtain⟨t,rfl⟩:=r;rfl
 |str _=>obtain⟨t,rfl⟩:=r;rfl
 |SM _=>obtain⟨t,rfl⟩:=r;rfl
 |Yb _=>obtain⟨t,rfl⟩:=r;rfl
 |ref _=>cases r;rfl
 |ty _=>cases r;rfl
theorem EE {j NK} (ha:PE X a ta):PC X .IsNot a (.Constant .none j NK) (afC ta):=by
 rw[01];refine b9 (ha pins s σ H _ I h) λv s1 ⟨x,H1,I1,r1,q1⟩=>?_;exact Constant_none (isnot_none_gen #[.bl _,H1,I1,by rw[r1.Wv];rfl,q1])
inductive vI (R:GA->Hp->Prop) (x:V) (H1:Hp):Prop
 |mk (c:GA) (_:x= .bl c) (_:R c H1):vI R x H1
def tB (t:TE):TT:=λσ H Q=>t σ H (vI Q)
theorem fD {t:TE}(h:PC X op a b t) (h1:behindInMarks op b=Gc:=by first|exact A8 _ [01] [01]|rfl):PT X (.Compare a [op] [b] pos) (tB t):=by
 intro pins s σ H Q I hw;refine WC (b9 (h pins s σ H _ I hw) λv s1 h1=>b9 h1 λu s2 h2=>b9 h2 λc s3 ⟨x,H1,I1,r1,q1⟩=>?_) h1;obtain⟨d,rfl,q⟩:=q1;cases r1;exact Je #[H1,I1,q]
theorem cT {e:HM}{t:TE}(h:PE X e t) (he: ∀gU,isTrue e X.env gU=(do let v<-gU;standAt e.pos;holding [v] (truthy v)):=by intro _;rfl):PT X e (tB t):=by
 intro pins s σ H Q I hw;refine isTrue_plain (b9 (h pins s σ H _ I hw) λv s1 ⟨x,H1,I1,r1,q1⟩=>?_) (he _);obtain⟨d,rfl,q⟩:=q1;cases r1;exact Je #[H1,I1,q]
variable {tA tB':TT}{rest:Fh HM}
def akQ (t u:TT):TT:=λσ H Q=>t σ H λc H1=>if c=FS then u σ H1 Q else Q Gc H1
def tOr (t u:TT):TT:=λσ H Q=>t σ H λc H1=>if c=FS then Q FS H1 else u σ H1 Q
def akR (t:TT):TT:=λσ H Q=>t σ H λc H1=>Q (!c) H1
theorem ml (ha:PT X a tA):PW X (.BoolOp .And [a] pos) tA:=by
 intro wh pins s σ H Q I h;refine isTrue_and (b9 (ha pins s σ H Q I h) λc s1 e=>?_);cases c with
 |true=>exact isTrue_and_nil e
 |false=>exact e
theorem rD (ha:PT X a tA):PW X (.BoolOp .Or [a] pos) tA:=by
 intro wh pins s σ H Q I h;refine isTrue_or (b9 (ha pins s σ H Q I h) λc s1 e=>?_);cases c with
 |false=>exact isTrue_or_nil e
 |true=>exact e
theorem rO (ha:PT X a tA) (hb:PW X (.BoolOp .And (b::rest) pos) tB'):PW X (.BoolOp .And (a::b::rest) pos) (akQ tA tB'):=by
 intro wh pins s σ H Q I h;refine isTrue_and (b9 (ha pins s σ H _ I h) λc s1 ⟨H1,I1,q1⟩=>?_);cases c with
 |true=>exact hb wh pins s1 σ H1 Q I1 q1
 |false=>exact#[H1,I1,q1]
theorem xm (ha:PT X a tA) (hb:PW X (.BoolOp .Or (b::rest) pos) tB'):PW X (.BoolOp .Or (a::b::rest) pos) (tOr tA tB'):=by
 intro wh pins s σ H Q I h;refine isTrue_or (b9 (ha pins s σ H _ I h) λc s1 ⟨H1,I1,q1⟩=>?_);cases c with
 |true=>exact#[H1,I1,q1]
 |false=>exact hb wh pins s1 σ H1 Q I1 q1
theorem kR (ha:PT X a tA):PT X (.UnaryOp .Not a pos) (akR tA):=by
 rw[01];exact isTrue_not (ha pins s σ H (λc H1=>Q (!c) H1) I h)
def afD (ta tb:TE):TE:=λσ H Q=>ta σ H (vI (λc H1=>if c=FS then tb σ H1 Q else Q (.bl Gc) H1))
def akS (ta tb:TE):TE:=λσ H Q=>ta σ H (vI (λc H1=>if c=FS then Q (.bl FS) H1 else tb σ H1 Q))
theorem jI {op} {t:TE}(h:PE X a t):PE X (.BoolOp op [a] pos) t:=λpins s σ H Q I hw=>BoolOp_one (h pins s σ H Q I hw)
theorem oR (ha:PE X a ta) (hb:PE X (.BoolOp .And (b::rest) pos) tb):PE X (.BoolOp .And (a::b::rest) pos) (afD ta tb):=by
 rw[01];refine BoolOp_and (b9 (ha pins s σ H _ I h) λv s1 ⟨x,H1,I1,r1,q1⟩=>?_);obtain⟨c,rfl,q1⟩:=q1;cases r1;refine Je ?_;cases c with
 |true=>exact hb pins s1 σ H1 Q I1 q1
 |false=>exact#[.bl Gc,H1,I1,Go,q1]
theorem AE (ha:PE X a ta) (hb:PE X (.BoolOp .Or (b::rest) pos) tb):PE X (.BoolOp .Or (a::b::rest) pos) (akS ta tb):=by
 rw[01];refine BoolOp_or (b9 (ha pins s σ H _ I h) λv s1 ⟨x,H1,I1,r1,q1⟩=>?_);obtain⟨c,rfl,q1⟩:=q1;cases r1;refine Je ?_;cases c with
 |false=>exact hb pins s1 σ H1 Q I1 q1
 |true=>exact#[.bl FS,H1,I1,Go,q1]
def tIf (t:TT) (ta tb:TE):TE:=λσ H Q=>t σ H λc H1=>if c=FS then ta σ H1 Q else tb σ H1 Q
theorem dD {c:HM}(hc:PT X c tA) (ha:PE X a ta) (hb:PE X b tb):PE X (.IfExp c a b pos) (tIf tA ta tb):=by
 rw[01];refine wpAny_IfExp (b9 (hc pins s σ H _ I h) λd s1 ⟨H1,I1,q1⟩=>?_);cases d with
 |true=>exact ha pins s1 σ H1 Q I1 q1
 |false=>exact hb pins s1 σ H1 Q I1 q1
end
def akT:Fp->FA V
 | .none=>FB .IX
 | .bool b=>FB (.bl b)
 | .int i _=>FB (.int i)
 | .str x _=>FB (.str x)
 | .bytes b _=>FB (.SM b)
 | .float b _=>FB (.Yb b)
 | .ref a=>FB (.ref a)
 | .type n=>FB (.ty n)
 |_=>FM
theorem br.abs {x:V}{u:Fp}(r:br x u):akT u=FB x:=by
 cases x with
 |IX=>cases r;rfl
 |bl _=>cases r;rfl
 |int _=>obtain⟨t,rfl⟩:=r;rfl
 |str _=>obtain⟨t,rfl⟩:=r;rfl
 |SM _=>obtain⟨t,rfl⟩:=r;rfl
 |Yb _=>obtain⟨t,rfl⟩:=r;rfl
 |ref _=>cases r;rfl
 |ty _=>cases r;rfl
theorem br.inj {x y:V}{u:Fp}(r:br x u) (q:br y u):x=y:=FL (r.abs.symm.trans q.abs)
theorem a8.inj: ∀ {xs ys:Fh V}{us:Fh Fp},a8 xs us->a8 ys us->xs=ys
 |_,_,_, .nil, .nil=>rfl
 |_,_,_, .cons r t, .cons r' t'=>by rw[r.inj r',a8.inj t t']
section
variable {X:Cx}{pins:Fh (Fq×Jh)}{σ:St}{H:Hp}{s:Fw}{a:Fq}{xs ys:Fh V}
theorem rc.of {K:Fm}(h:H a=FB (.tup xs)):rc K H a xs:= .inl (.inl h)
theorem aE.list (I:aE X pins σ H s) (h:cw X.K H a xs): ∃HR:Fh Fp,a8 xs HR/\PlainL s.heap a HR.toArray/\xs.length<=Gk:=by
 rcases h with h|⟨o,HR,n,hk,hc,hd,hs,hz,r⟩
 ·obtain⟨z,HR,n,r,e⟩:=h.ok I.IF
  exact#[HR,r,#[_,n,e,Go,Go,Go],z]
 ·refine#[HR.toList,r,#[o,n,I.NI a o hk,hc,hd,by simpa using hs],?_]
  have e:=r.length;simp only[Uu] at e;lia
theorem aE.tuple (I:aE X pins σ H s) (h:rc X.K H a xs): ∃HR:Fh Fp,a8 xs HR/\IsTup s.heap a HR.toArray/\xs.length<=Gk:=by
 rcases h with h|⟨o,HR,n,hk,hc,hs,hz,r⟩
 ·obtain⟨z,HR,r,p⟩:=h.ok I.IF
  exact#[HR,r,p,z]
 ·refine#[HR.toList,r,#[o,I.NI a o hk,hc,n,by simpa using hs],?_]
  have e:=r.length;simp only[Uu] at e;lia
theorem aE.Ww (I:aE X pins σ H s) (h:cw X.K H a xs) (h':cw X.K H a ys):xs=ys:=by
 obtain⟨HR,r,⟨o,n,e,_,_,d⟩,_⟩:=I.list h;obtain⟨its',r',⟨o',n',e',_,_,d'⟩,_⟩:=I.list h';rw[e] at e';cases e';rw[d] at d';injection d' with d1 _;have:HR=its':=by simpa using Gx SK d1
 subst this;exact r.inj r'
end
abbrev Cx.RA (X:Cx) (E:Fp->Fw->Prop):Cx:= { X with xe:=E }
abbrev Cx.nox (X:Cx):Cx:=X.RA λ_ _=>False
theorem Cx.Ok.RA {X:Cx}(ok:X.Ok) (E:Fp->Fw->Prop):(X.RA E).Ok:=
 #[ok.mod,ok.kind,ok.glob,ok.blt,ok.above,ok.inj,ok.has,ok.Ym,ok.hd,ok.frames,ok.Yn,ok.exf,ok.bs,ok.Ve,ok.Ta,ok.Tb,ok.funs,ok.WQ]
theorem Cx.Ok.Ou {X:Cx}{E:Fp->Fw->Prop}(ok:(X.RA E).Ok):X.Ok:=
 #[ok.mod,ok.kind,ok.glob,ok.blt,ok.above,ok.inj,ok.has,ok.Ym,ok.hd,ok.frames,ok.Yn,ok.exf,ok.bs,ok.Ve,ok.Ta,ok.Tb,ok.funs,ok.WQ]
section
variable {X:Cx}{pins:Fh (Fq×Jh)}{σ:St}{H:Hp}{s:Fw}{E:Fp->Fw->Prop}
theorem aE.RA (I:aE X pins σ H s) (E:Fp->Fw->Prop):aE (X.RA E) pins σ H s:=#[I.ok.RA E,I.os,I.bare,I.base,I.loc,I.cell,I.free,I.Mz,I.pin,I.IF,I.len]
theorem aE.Ou (I:aE (X.RA E) pins σ H s):aE X pins σ H s:=#[I.ok.Ou,I.os,I.bare,I.base,I.loc,I.cell,I.free,I.Mz,I.pin,I.IF,I.len]
theorem SP.Ou {f:Flow}{s':Fw}(h:SP (X.RA E) pins D f s'):SP X pins D f s':=by
 cases f with
 |next=>obtain⟨σ',H',I,q⟩:=h;exact#[σ',H',I.Ou,q]
 |brk=>obtain⟨σ',H',I,q⟩:=h;exact#[σ',H',I.Ou,q]
 |cont=>obtain⟨σ',H',I,q⟩:=h;exact#[σ',H',I.Ou,q]
 |ret u=>obtain⟨v,σ',H',I,r,q⟩:=h;exact#[v,σ',H',I.Ou,r,q]
theorem uz.nox {st:Fh Stmt}{t:TS}(h:uz X.nox st t):uz X st t:=λpins s σ H D I hw=>
 IS (h pins s σ H D (I.RA _) hw) (λ_ _ q=>q.Ou) λ_ _ z=>IZ z
end
section
variable {X:Cx}{st:Stmt}{rest:Fh Stmt}{t u:TS}{e:HM}{te:TE}{pos:Pos}
def afE:TS:=λD σ H=>D.nx σ H
def akU (t u:TS):TS:=λD σ H=>t { D with nx:=u D } σ H
theorem bw:uz X [] afE:=λ_ _ σ H _ I h=>Nf #[σ,H,I,h]
theorem ao (h1:PS X st t) (h2:uz X rest u):uz X (st::rest) (akU t u):=by
 rw[04];refine wpAny_execs_cons (b9 (h1 pins s σ H { D with nx:=u D } I h) λf s1 q=>?_);cases f with
 |next=>
  obtain⟨σ',H',I',q⟩:=q;exact h2 pins s1 σ' H' D I' q
 |ret v=>exact q
 |brk=>exact q
 |cont=>exact q
theorem ah (h1:PS X st t):uz X [st] t:=by
 rw[04];refine wpAny_execs_cons (b9 (h1 pins s σ H D I h) λf s1 q=>?_);cases f with
 |next=>exact Nf q
 |ret v=>exact q
 |brk=>exact q
 |cont=>exact q
def aaC:TS:=λD σ H=>D.bk σ H
theorem Af:PS X (.Break pos) aaC:=λ_ _ σ H _ I h=>wpAny_Break #[σ,H,I,h]
theorem aE.quiet {pins:Fh (Fq×Jh)}{σ:St}{H:Hp}{s:Fw}(I:aE X pins σ H s):interactive X.env=Gc:=by simp [interactive,I.ok.kind]
def afF (te:TE):TS:=λD σ H=>te σ H λ_ H1=>D.nx σ H1
theorem bj (he:PE X e te) (hs:Kp e FM pos.line X.env=pure Gc:=by rfl):PS X (.Expr e pos) (afF te):=by
 rw[04];exact wpAny_Expr_any (b9 (he pins s σ H _ I h) λv s1 ⟨x,H1,I1,r1,q1⟩=>#[σ,H1,I1,q1]) I.quiet hs
def afG (te:TE):TS:=λD σ H=>te σ H D.rt
theorem aJ (he:PE X e te):PS X (.Return (FB e) pos) (afG te):=by
 rw[04];exact wpAny_Return_some (b9 (he pins s σ H _ I h) λv s1 ⟨x,H1,I1,r1,q1⟩=>#[x,σ,H1,I1,r1,q1])
def akV (c:TT) (t u:TS):TS:=λD σ H=>c σ H λb H1=>if b=FS then t D σ H1 else u D σ H1
theorem cv {c:HM}{a b:Fh Stmt}{tc:TT}(hc:PT X c tc) (ha:uz X a t) (hb:uz X b u):PS X (.If c a b pos) (akV tc t u):=by
 rw[04];refine wpAny_If (b9 (hc pins s σ H _ I h) λd s1 ⟨H1,I1,q1⟩=>?_);cases d with
 |true=>exact ha pins s1 σ H1 D I1 q1
 |false=>exact hb pins s1 σ H1 D I1 q1
end
abbrev TG:=V->St->Hp->(St->Hp->Prop)->Prop
def PG (X:Cx) (target:HM) (t:TG):Prop:=
 ∀(pins:Fh (Fq×Jh)) (s:Fw) (σ:St) (H:Hp) (v:V) (u:Fp) (Q:St->Hp->Prop),aE X pins σ H s->br v u->t v σ H Q->
  F4 (model X.prog X.w) X.A (assign target X.env u) (λ_ s'=> ∃σ' H',aE X pins σ' H' s'/\Q σ' H') X.xe s
abbrev TIp:=V->V->Hp->VK->Prop
def PIp (X:Cx) (op:Operator) (t:TIp):Prop:=
 ∀(pins:Fh (Fq×Jh)) (s:Fw) (σ:St) (H:Hp) (x y:V) (v u:Fp) (Q:VK),aE X pins σ H s->br x v->br y u->t x y H Q->
  F4 (model X.prog X.w) X.A (inplaceOp op v u) (EP X pins σ Q) X.xe s
section
variable {X:Cx}{pos:Pos}
def xL (i:FH):TG:=λv σ H Q=>Q (σ.set i (FB v)) H
theorem fF {i:FH}{x:FY}(hN:X.N.Nodup) (hi:X.N[i]?=FB x) (hx:Loc X.env.scope x) (hf:X.fn x=FS\/X.env.scope.names.lookup x=FB .local:=by first|exact .inl rfl|exact .inr rfl|assumption):PG X (.Name x pos) (xL i):=by
 intro pins s σ H v u Q I r h;exact wpAny_assign_Name (kK I hN hi hx r (λs' I'=>#[_,H,I',h]) hf)
def afH (te:TE) (g:TG):TS:=λD σ H=>te σ H λx H1=>g x σ H1 D.nx
theorem cr {i:FH}{x:FY}{e:HM}{te:TE}{NK:Pos}(hN:X.N.Nodup) (hi:X.N[i]?=FB x) (hx:Loc X.env.scope x) (he:PE X e te) (hs:Kp e (FB (.Name x NK)) pos.line X.env=pure Gc:=by rfl) (hf:X.fn x=FS\/X.env.scope.names.lookup x=FB .local:=by first|exact .inl rfl|exact .inr rfl|assumption):
  PS X (.Assign [.Name x NK] e pos) (afH te (xL i)):=by
 rw[04];refine wpAny_Assign_Name (b9 (he pins s σ H _ I h) λv s1 ⟨y,H1,I1,r1,q1⟩=>?_) hs;exact kK I1 hN hi hx r1 (λs2 I2=>#[_,H1,I2,q1]) hf
def akW (i:FH) (te:TE) (ti:TIp):TS:=λD σ H=> ∃x,σ[i]?=FB (FB x)/\te σ H λy H1=>ti x y H1 λz H2=>D.nx (σ.set i (FB z)) H2
theorem kZ {i:FH}{x:FY}{e:HM}{te:TE}{NK:Pos}(hN:X.N.Nodup) (hi:X.N[i]?=FB x) (hx:Loc X.env.scope x) (he:PE X e te) (ho:PIp X op ti) (hf:X.fn x=FS\/X.env.scope.names.lookup x=FB .local:=by first|exact .inl rfl|exact .inr rfl|assumption):
  PS X (.AugAssign (.Name x NK) op e pos) (akW i te ti):=by
 rw[04];obtain⟨v,e1,h⟩:=h;obtain⟨m,hn,hl⟩:=I.loc;have vis:oZ X.env.scope x:=by rcases hx with k|k;exact .inl k;exact .inr (.inl k)
 obtain⟨u,r,l⟩:=hl i x v hi e1 vis;refine wpAny_AugAssign_Name ?_;have go:F4 (model X.prog X.w) X.A (eval e X.env) (λw s₂=>F4 (model X.prog X.w) X.A (inplaceOp op u w) (λr s₃=>F4 (model X.prog X.w) X.A (storeName X.env x r) (λ_=>SP X pins D .next) X.xe s₃) X.xe s₂) X.xe s:=by
  refine b9 (he pins s σ H _ I h) λw s1 ⟨y,H1,I1,r1,q1⟩=>?_;refine b9 (ho pins s1 σ H1 v y u w _ I1 r r1 q1) λz s2 ⟨zv,H2,I2,r2,q2⟩=>?_;exact kK I2 hN hi hx r2 (λs3 I3=>#[_,H2,I3,q2]) hf
 rcases l with⟨hk,hm⟩|⟨hk,c,hc,UQ⟩
 ·exact W3 I.ok.kind hk hn hm go
 ·rcases hk with hk|hk
  ·exact XY I.ok.kind hk hc UQ go
  ·rcases hx with k|k
   ·have:X.env.scope.names.lookup x=FB .free:=hk
    rw[k] at this;cases this
   ·have:X.env.scope.names.lookup x=FB .free:=hk
    rw[k] at this;cases this
def ipI (f:Int->Int->Int):TIp:=λx y H Q=> ∃i j,x= .int i/\y= .int j/\Q (.int (f i j)) H
theorem lj:PIp X .Add (ipI λi j=>i+j):=by
 intro pins s σ H x y v u Q I r1 r2 h;obtain⟨i,j,e1,e2,q⟩:=h;subst e1;subst e2;obtain⟨t,rfl⟩:=r1;obtain⟨t',rfl⟩:=r2;exact iadd_int #[.int _,H,I.tok _,#[_,Go],q]
end
section
variable {X:Cx}{pos:Pos}
def aaD (c:TT) (tb:TS):TS:=λD σ H=> ∃W:FH->St->Hp->Prop,(∃m,W m σ H)/\ ∀m σ H,W m σ H->
 c σ H λb H1=>if b=FS then∃N:St->Hp->Prop,(∀σ' H',N σ' H'-> ∃m',m'<m/\W m' σ' H')/\tb { D with nx:=N,ct:=N,bk:=D.nx } σ H1 else D.nx σ H1
theorem iL {c:HM}{tc:TT}{tb:TS}(hp:Ql (model X.prog X.w) X.A X.env X.xe) (hc:PT X c tc) (hb:uz X body tb):PS X (.While c body [] pos) (aaD tc tb):=by
 rw[04];obtain⟨W,⟨m0,w0⟩,turn⟩:=h;refine wpAny_While (codeAny_whileLoop (λn s'=> ∃σ' H',aE X pins σ' H' s'/\W n σ' H') ?_ m0 #[σ,H,I,w0]);rintro n s1 ⟨σ1,H1,I1,w1⟩;refine KJ hp (b9 (hc pins s1 σ1 H1 _ I1 (turn n σ1 H1 w1)) λb s2 ⟨H2,I2,q2⟩=>?_);cases b with
 |true=>
  obtain⟨N,hN,q2⟩:=q2;rw[Fv rfl];refine KJ hp (b9 (hb pins s2 σ1 H2 _ I2 q2) λf s3 q3=>?_);cases f with
  |next=>
   obtain⟨σ3,H3,I3,n3⟩:=q3;obtain⟨m',hm,w3⟩:=hN σ3 H3 n3;exact#[m',hm,σ3,H3,I3,w3]
  |cont=>
   obtain⟨σ3,H3,I3,n3⟩:=q3;obtain⟨m',hm,w3⟩:=hN σ3 H3 n3;exact#[m',hm,σ3,H3,I3,w3]
  |brk=>exact q3
  |ret v=>exact q3
 |false=>
  rw[Fs Fl];exact Nf #[σ1,H2,I2,q2]
end
structure It where
 go:FH->Hp->Prop
 yld:FH->Hp->V->Hp->Prop
 stop:FH->Hp->Prop
def ph (X:Cx) (pins:Fh (Fq×Jh)) (H:Hp) (b:Fq):Prop:=
 H b=FM/\b≠X.env.locals/\b∉X.fs/\(b∈X.ex\/X.P6.heap.objs.size<=b)/\(∀x c,X.env.cells.lookup x=FB c->c≠b)/\ ∀p∈X.pn++pins,p.1≠b
theorem aE.aaE {X:Cx}{pins:Fh (Fq×Jh)}{σ:St}{H H':Hp}{s:Fw}{b:Fq}(I:aE X pins σ H s) (hb:s.heap.objs.size<=b) (hn:H' b=FM):ph X pins H' b:=by
 refine#[hn,LU (Ge I.lt hb),I.akO hb, .inr (FV I.sz hb),λx c e z=>?_,λp hp z=>?_]
 ·obtain⟨v,q⟩:=I.cell x c e
  exact FP (Ge q.lt (by rw[z];exact hb)) (Ii _)
 ·exact FP (Ge (F7 (I.pin p hp).1) (by rw[z];exact hb)) (Ii _)
structure Turn (P:Gh) (w:GR) (K:Fm) (tg:HM) (J:It) (fp:Fh Fq) (it:Fq) (tn:FH->Ha->Prop):Prop where
 mem:it∈fp
 obj: ∀i h,tn i h-> ∀b∈fp,∃o,h.get? b=FB o/\ ∀v,o.data≠ .cell v
 keep: ∀i h h',tn i h->(∀b∈fp,∀o,h.get? b=FB o->h'.get? b=FB o)->tn i h'
 item: ∀(X:Cx),X.prog=P->X.w=w->X.K=K->X.calm=FS-> ∀(i:FH) (pins:Fh (Fq×Jh)) (s:Fw) (σ:St) (H:Hp) (E:Fp->Fw->Prop),aE X pins σ H s->(∀b∈fp,ph X pins H b)->tn i s.heap->J.go i H->
  F4 (model P w) X.A (RR (.ref it)) (λr s1=> ∃u,r=FB u/\
   F4 (model P w) X.A (O7 tg (.ref it) u) (λ_ s2=> ∃x H',aE X pins σ H' s2/\br x u/\J.yld i H x H'/\tn (i+1) s2.heap/\ ∀b∈fp,H' b=FM) E s1) E s
 done: ∀(X:Cx),X.prog=P->X.w=w->X.K=K->X.calm=FS-> ∀(i:FH) (pins:Fh (Fq×Jh)) (s:Fw) (σ:St) (H:Hp) (E:Fp->Fw->Prop),aE X pins σ H s->(∀b∈fp,ph X pins H b)->tn i s.heap->J.stop i H->
  F4 (model P w) X.A (RR (.ref it)) (λr s1=>r=FM/\aE X pins σ H s1) E s
 self: ∀(A:Hc) (i:FH) (s:Fw) (Q:Fp->Fw->Prop) (E:Fp->Fw->Prop),tn i s.heap->Q (.ref it) s->F4 (model P w) A (pyIter (.ref it)) Q E s
abbrev TI:=St->Hp->(It->Hp->Prop)->Prop
def PIE (X:Cx) (pins:Fh (Fq×Jh)) (σ:St) (tg:HM) (R:It->Hp->Prop) (itv:Fp) (s2:Fw):Prop:=
 ∃(it:Fq) (fp:Fh Fq) (tn:FH->Ha->Prop) (J:It) (H':Hp),itv= .ref it/\aE X pins σ H' s2/\Turn X.prog X.w X.K tg J fp it tn/\tn 0 s2.heap/\(∀b∈fp,ph X pins H' b)/\R J H'
def PI (X:Cx) (tg Ma:HM) (wi:TI):Prop:=
 ∀(pins:Fh (Fq×Jh)) (s:Fw) (σ:St) (H:Hp) (R:It->Hp->Prop),aE X pins σ H s->wi σ H R->
  F4 (model X.prog X.w) X.A (eval Ma X.env) (λv s1=>F4 (model X.prog X.w) X.A (pyIter v) (PIE X pins σ tg R) X.xe s1) X.xe s
theorem Yq {A:Hc}{E:Fp->Fw->Prop}{s:Fw}{tg:HM}{it:Fq}{u:Fp}{o:Jh}{Q:Nj->Fw->Prop}(ho:s.heap.get? it=FB o) (hc:o.cls= .type n) (hd:o.data= .fields vs)
  (hn:["enumerate","zip","dict_itemiterator","dict_reverseitemiterator","odict_iterator","itertools.zip_longest","itertools.pairwise"].contains n=Gc) (hQ:Q () s):F4 M A (O7 tg (.ref it) u) Q E s:=by
 unfold O7;cases tg<;>first
  |exact Gb hQ
  | (cases u<;>first
    |exact Gb hQ
    | (refine FI (wpAny_load ho ?_)
       rw[hc,hd];show F4 M A (if(["enumerate","zip","dict_itemiterator","dict_reverseitemiterator","odict_iterator","itertools.zip_longest","itertools.pairwise"].contains n&&vs[0]? == FB (Ob _))=FS then _ else _) Q E s
       rw[Fs (by intro h;rw[hn,Js] at h;cases h)];exact Gb hQ))
def Yr (K:Fm) (a:Fq):It:=
 #[λi H=> ∃xs x,cw K H a xs/\xs[i]?=FB x,λi H x H'=>H'=H/\ ∀xs,cw K H a xs->xs[i]?=FB x,λi H=> ∃xs,cw K H a xs/\xs.length<=i]
def Itr (lo:Int) (n:FH):It:=#[λi _=>i<n,λi H x H'=>H'=H/\x= .int (lo+i),λi _=>n<=i]
theorem zr {P:Gh}{w:GR}{K:Fm}{tg:HM}(a it:Fq):Turn P w K tg (Yr K a) [it] it (λi h=>h.IsListIter it a i) where
 mem:=by simp
 obj:=λi h st b hb=>by
  have e:b=it:=by simpa using hb
  subst e;obtain⟨o,e,c,d⟩:=st;exact#[o,e,λv z=>by rw[d] at z;cases z]
 keep:=λi h h' st k=>st.at λo e=>k it (by simp) o e
 item:=by
  intro X hP hw hK hc i pins s σ H E I hf st hg;subst hP hw hK;obtain⟨xs,x,hq,hx⟩:=hg;obtain⟨HR,rv,p,hz⟩:=I.list hq;obtain⟨u,hu,ru⟩:=rv.get hx;obtain⟨f0,f1,f2,f3,f4,f5⟩:=hf it (by simp);refine wpAny_pyNext_list_item st p.isList (x:=u) (by simpa using hu) λh' st' sb=>?_;have I1:aE X pins σ H { s with heap:=h' } :=I.turned (t':=s.toks) (λb o hb e=>(sb.2 b hb).trans e) f0 f1 f3 f4 f5
  obtain⟨o,e,c,d⟩:=id st';exact#[u,Go,Yq (s:= { s with heap:=h' }) e c d [01] #[x,H,I1,ru,#[Go,λys hy=>by rw[I.Ww hy hq];exact hx],st',λb hb=>(hf b hb).1]]
 done:=by
  intro X hP hw hK hc i pins s σ H E I hf st hg;subst hP hw hK;obtain⟨xs,hq,hx⟩:=hg;obtain⟨HR,rv,p,hz⟩:=I.list hq;obtain⟨f0,f1,f2,f3,f4,f5⟩:=hf it (by simp);have hl:=rv.length;exact wpAny_pyNext_list_end (I.ok.hd hc) st p.isList (by simp;lia) λh' eb=>#[Go,I.turned (t':=s.toks) (λb o hb e=>eb b o hb e) f0 f1 f3 f4 f5]
 self:=λ_ _ _ _ _ st h=>wpAny_pyIter_listiter st h
theorem vx {P:Gh}{w:GR}{K:Fm}{tg:HM}(it:Fq) (lo:Int) (n:FH):Turn P w K tg (Itr lo n) [it] it (λi h=>IsRangeIter h it (lo+(i:FH)*1) ((n:Int)-(i:FH)) 1) where
 mem:=by simp
 obj:=λi h st b hb=>by
  have e:b=it:=by simpa using hb
  subst e;exact#[_,st,λv z=>by
   have z':Data.fields _=Data.cell v:=z;cases z']
 keep:=λi h h' st k=>k it (by simp) _ st
 item:=by
  intro X hP hw hK hc i pins s σ H E I hf st hg;subst hP hw hK;obtain⟨f0,f1,f2,f3,f4,f5⟩:=hf it (by simp);have W:=Walks.range (prog:=X.prog) (w:=X.w) (I.ok.hd hc) it lo 1 n;refine W.item i s _ _ hg st λv h' tk hv st' kk=>?_;obtain⟨t,rfl⟩:=hv;have I1:aE X pins σ H { s with heap:=h',toks:=tk } :=I.turned (λb o hb e=>kk b o (by simpa using hb) e) f0 f1 f3 f4 f5
  refine#[_,Go,Yq (s:= { s with heap:=h',toks:=tk }) (n:="range_iterator") st' rfl rfl [01] #[.int (lo+i),H,I1,#[t,?_],#[Go,Go],st',λb hb=>(hf b hb).1]];rw[Int.mul_one]
 done:=by
  intro X hP hw hK hc i pins s σ H E I hf st hg;subst hP hw hK;obtain⟨f0,f1,f2,f3,f4,f5⟩:=hf it (by simp);exact wpAny_pyNext_range_end (I.ok.hd hc) st (by have:n<=i:=hg;lia) λh' eb=>#[Go,I.turned (t':=s.toks) (λb o hb e=>eb b o hb e) f0 f1 f3 f4 f5]
 self:=λ_ _ _ _ _ st h=>wpAny_pyIter_rangeiter st h
section
variable {X:Cx}{tg:HM}
inductive Ys (K:Fm) (R:It->Hp->Prop) (x:V) (H1:Hp):Prop
 |mk (a:Fq) (_:x= .ref a) (_:(∃xs,cw K H1 a xs)) (_:R (Yr K a) H1):Ys K R x H1
def afI (K:Fm) (tl:TE):TI:=λσ H R=>tl σ H (Ys K R)
theorem ib {l:HM}{tl:TE}(hl:PE X l tl):PI X tg l (afI X.K tl):=by
 intro pins s σ H R I h;refine b9 (hl pins s σ H _ I h) λv s1 ⟨x,H1,I1,r1,q1⟩=>?_;obtain⟨a,e,⟨xs,hq⟩,q⟩:=q1;subst e;cases r1;obtain⟨HR,rv,p,hz⟩:=I1.list hq;refine wpAny_pyIter_list p.isList ?_;refine#[s1.heap.objs.size,[s1.heap.objs.size],_,_,H1,Go,I1.kept (t':=s1.toks) λb o e=>FJ _ e,zr a _,#[_,Hk _ rfl,Go,Go],λb hb=>?_,q];have e:b=s1.heap.objs.size:=by simpa using hb
 subst e;exact I1.aaE (FN _) (I1.IF.fresh (FN _))
theorem Ah {pins:Fh (Fq×Jh)}{σ:St}{H:Hp}{s:Fw}{R:It->Hp->Prop}{E:Fp->Fw->Prop}{lo hi:Int}{t u v:Tok}{tk:FH}(I:aE X pins σ H s) (h1: -(2 ^ 62)<=lo) (h2:lo<2 ^ 62) (h3: -(2 ^ 62)<=hi) (h4:hi<2 ^ 62)
  (q:R (Itr lo (hi-lo).toNat) H):F4 (model X.prog X.w) X.A (pyIter (.ref s.heap.objs.size)) (PIE X pins σ tg R) E { s with heap:=s.heap.push { cls:= .type "range",data:= .fields [.int lo t, .int hi u, .int 1 v].toArray },toks:=tk } :=by
 refine wpAny_pyIter_range (IsRange.new ..) (small_one h1 h2 h3 h4) ?_;have I1:aE X pins σ H { s with heap:=s.heap.push { cls:= .type "range",data:= .fields [.int lo t, .int hi u, .int 1 v].toArray },toks:=tk } :=I.kept λb o e=>FJ _ e
 refine#[(s.heap.push { cls:= .type "range",data:= .fields [.int lo t, .int hi u, .int 1 v].toArray }).objs.size,[(s.heap.push { cls:= .type "range",data:= .fields [.int lo t, .int hi u, .int 1 v].toArray }).objs.size],_,_,H,Go,
  I1.kept (t':=tk) λb o e=>FJ _ e,vx _ lo (hi-lo).toNat,?_,λb hb=>?_,q]
 ·have e1:lo+((0:FH):Int)*1=lo:=by simp
  have e2:(((hi-lo).toNat:FH):Int)-((0:FH):Int)=Builtin.Range.rangeSize lo hi 1:=by rw[rangeSize_one];split<;>lia
  show IsRangeIter _ _ (lo+((0:FH):Int)*1) ((((hi-lo).toNat:FH):Int)-((0:FH):Int)) 1
  rw[e1,e2];exact Hk _ rfl
 ·have e:b=(s.heap.push { cls:= .type "range",data:= .fields [.int lo t, .int hi u, .int 1 v].toArray }).objs.size:=by simpa using hb
  subst e;exact I1.aaE (FN _) (I1.IF.fresh (FN _))
def afJ (ta:TA):TI:=λσ H R=>ta σ H λvs H1=> ∃j:Int,vs=[.int j]/\ -(2 ^ 62)<=j/\j<2 ^ 62/\R (Itr 0 j.toNat) H1
theorem pL {a:HM}{ta:TA}{p pos:Pos}(hg:Gl X "range") (hm:X.mg "range"=FM) (ha:PA X [a] ta) (hs:FU [a] X.env=[(Gc,eval a X.env)]:=by rfl):PI X tg (.Call (.Name "range" p) [a] [] pos) (afJ ta):=by
 intro pins s σ H R I h;refine Call_ (kT I hg hm boot_range (J9 (b9 (ha pos pins s σ H _ I h) λus s1 ⟨vs,H1,I1,r1,q1⟩=>?_) hs rfl));obtain⟨j,e,q1,q2,q⟩:=q1;subst e;cases r1 with
 |cons r rr=>
  cases rr;obtain⟨t,rfl⟩:=r;exact call_range_1 (Ah I1 (by lia) (by lia) q1 q2 (by simpa using q))
def akX (wi:TI) (g:TG) (tb:TS):TS:=λD σ H=>wi σ H λJ H1=> ∃W:FH->FH->St->Hp->Prop,(∃m,W 0 m σ H1)/\ ∀i m σ H,W i m σ H->
 (J.stop i H/\D.nx σ H)\/(J.go i H/\ ∃N:St->Hp->Prop,(∀σ' H',N σ' H'-> ∃m',m'<m/\W (i+1) m' σ' H')/\ ∀x H',J.yld i H x H'->g x σ H' λσ2 H2=>tb { D with nx:=N,ct:=N,bk:=D.nx } σ2 H2)
def mU (fp:Fh Fq) (h:Ha):Fh (Fq×Jh):=fp.filterMap λb=>(h.get? b).map λo=>(b,o)
theorem jG {h:Ha}{b:Fq}{o:Jh}(hb:b∈fp) (e:h.get? b=FB o):(b,o)∈mU fp h:=Vu.mpr #[b,hb,by rw[e];rfl]
theorem yV {h:Ha}{p:Fq×Jh}(hp:p∈mU fp h):p.1∈fp/\h.get? p.1=FB p.2:=by
 obtain⟨b,hb,e⟩:=Vu.mp hp;cases q:h.get? b with
 |none=>rw[q] at e;cases e
 |some o=>
  rw[q] at e;have e':(b,o)=p:=FL e;subst e';exact#[hb,q]
theorem aE.pinned {pins:Fh (Fq×Jh)}{σ:St}{H:Hp}{s:Fw}(I:aE X pins σ H s) (hf: ∀b∈fp,ph X pins H b) (ho: ∀b∈fp,∃o,s.heap.get? b=FB o/\ ∀v,o.data≠ .cell v):aE X (pins++mU fp s.heap) σ H s:=
 I.UM λp hp=>(F8.mp hp).elim (λz=>I.pin p (Ht _ z)) λz=>by
  obtain⟨hb,e⟩:=yV z;obtain⟨f0,f1,f2,_⟩:=hf p.1 hb;obtain⟨o,e',d⟩:=ho p.1 hb;rw[e] at e';cases e';exact#[e,f0,f1,f2,d]
theorem aE.PN {pins pl:Fh (Fq×Jh)}{σ:St}{H:Hp}{s:Fw}(I:aE X (pins++pl) σ H s):aE X pins σ H s:=I.UM λp hp=>I.pin p (Ht _ (Mp _ hp))
theorem rn {g:TG}{tb:TS}{pos:Pos}(hp:Ql (model X.prog X.w) X.A X.env X.xe) (hc:X.calm=FS) (hi:PI X tg Ma wi) (hg:PG X tg g) (hb:uz X body tb)
  (hs: ∀x,KU Ma X.env x=pure x:=by intro _;rfl):PS X (.For tg Ma body [] pos) (akX wi g tb):=by
 rw[04];refine wpAny_For (b9 (hi pins s σ H _ I h) λv s1 h1=>b9 h1 λitv s2 h2=>?_) hs;obtain⟨it,fp,tn,J,H2,e,I2,T,st2,f2,W,⟨m0,w0⟩,turn⟩:=h2;subst e;have Ue: ∀ {H':Hp},(∀b∈fp,H' b=FM)-> ∀b∈fp,ph X pins H' b:=λhn b hb=>#[hn b hb,(f2 b hb).2]
 refine codeAny_forLoop_any (λn s'=> ∃i σ' H',aE X pins σ' H' s'/\tn i s'.heap/\(∀b∈fp,H' b=FM)/\W i n σ' H') ?_ m0 #[0,σ,H2,I2,st2,λb hb=>(f2 b hb).1,w0];rintro n s3 ⟨i,σ3,H3,I3,st3,fr3,w3⟩;rcases turn i n σ3 H3 w3 with⟨stop,qn⟩|⟨go,N,hN,step⟩
 ·refine KJ hp (b9 (T.done X rfl rfl rfl hc i pins s3 σ3 H3 X.xe I3 (Ue fr3) st3 stop) λr s4 ⟨hr,I4⟩=>?_)
  subst hr;exact Nf #[σ3,H3,I4,qn]
 ·refine KJ hp (b9 (T.item X rfl rfl rfl hc i pins s3 σ3 H3 X.xe I3 (Ue fr3) st3 go) λr s4 ⟨u,hr,h4⟩=>?_)
  subst hr;refine KJ hp (b9 h4 λ_ s5 ⟨x,H5,I5,r5,y5,st5,fr5⟩=>?_);have I5':=I5.pinned (Ue fr5) (T.obj _ _ st5);refine KJ hp (b9 (hg _ s5 σ3 H5 x u _ I5' r5 (step x H5 y5)) λ_ s6 ⟨σ6,H6,I6,q6⟩=>?_);refine KJ hp (b9 (hb _ s6 σ6 H6 _ I6 q6) λf s7 q7=>?_);have again: ∀ {σ7:St}{H7:Hp},aE X (pins++mU fp s5.heap) σ7 H7 s7->N σ7 H7-> ∃m,m<n/\ ∃i σ' H',aE X pins σ' H' s7/\tn i s7.heap/\(∀b∈fp,H' b=FM)/\W i m σ' H':=λ{σ7 H7} I7 n7=>by
   obtain⟨m',hm,w7⟩:=hN σ7 H7 n7;refine#[m',hm,i+1,σ7,H7,I7.PN,T.keep _ _ _ st5 λb hb o e=>(I7.pin (b,o) (Ht _ (Ht _ (jG hb e)))).1,λb hb=>?_,w7];obtain⟨o,e,d⟩:=T.obj _ _ st5 b hb;exact(I7.pin (b,o) (Ht _ (Ht _ (jG hb e)))).2.1
  cases f with
  |next=>obtain⟨σ7,H7,I7,n7⟩:=q7;exact again I7 n7
  |cont=>obtain⟨σ7,H7,I7,n7⟩:=q7;exact again I7 n7
  |brk=>obtain⟨σ7,H7,I7,q7⟩:=q7;exact#[σ7,H7,I7.PN,q7]
  |ret v=>obtain⟨x7,σ7,H7,I7,r7,q7⟩:=q7;exact#[x7,σ7,H7,I7.PN,r7,q7]
end
theorem tL {K:Fm}{a:Fq}{xs:Fh V}{g:TG}{tb:TS}{D:d9}{σ:St}{H:Hp}(Pv:FH->St->Hp->Prop) (h0:Pv 0 σ H) (hl: ∀i σ H,i<=xs.length->Pv i σ H->cw K H a xs)
  (hs: ∀i x σ H,xs[i]?=FB x->Pv i σ H->g x σ H λσ2 H2=>tb { D with nx:=Pv (i+1),ct:=Pv (i+1),bk:=D.nx } σ2 H2) (hd: ∀σ H,Pv xs.length σ H->D.nx σ H):
  ∃W:FH->FH->St->Hp->Prop,(∃m,W 0 m σ H)/\ ∀i m σ H,W i m σ H->
   ((Yr K a).stop i H/\D.nx σ H)\/((Yr K a).go i H/\ ∃N:St->Hp->Prop,(∀σ' H',N σ' H'-> ∃m',m'<m/\W (i+1) m' σ' H')/\ ∀x H',(Yr K a).yld i H x H'->g x σ H' λσ2 H2=>tb { D with nx:=N,ct:=N,bk:=D.nx } σ2 H2):=by
 refine#[λi m σ H=>m=xs.length-i/\i<=xs.length/\Pv i σ H,#[xs.length,by simp,F6 _,h0],?_];rintro i m σ H ⟨rfl,hi,p⟩;have q:=hl i σ H hi p;by_cases UR:i<xs.length
 ·refine .inr #[#[xs,xs[i],q,by simp [UR]],Pv (i+1),λσ' H' p'=>#[xs.length-(i+1),by lia,Go,UR,p'],λx H' y=>?_]
  obtain⟨e,y⟩:=y;subst e;exact hs i x σ _ (y xs q) p
 ·have e:i=xs.length:=by lia
  subst e;exact .inl #[#[xs,q,FN _],hd σ H p]
theorem qv {lo:Int}{n:FH}{g:TG}{tb:TS}{D:d9}{σ:St}{H:Hp}(Pv:FH->St->Hp->Prop) (h0:Pv 0 σ H)
  (hs: ∀i σ H,i<n->Pv i σ H->g (.int (lo+i)) σ H λσ2 H2=>tb { D with nx:=Pv (i+1),ct:=Pv (i+1),bk:=D.nx } σ2 H2) (hd: ∀σ H,Pv n σ H->D.nx σ H):
  ∃W:FH->FH->St->Hp->Prop,(∃m,W 0 m σ H)/\ ∀i m σ H,W i m σ H->
   ((Itr lo n).stop i H/\D.nx σ H)\/((Itr lo n).go i H/\ ∃N:St->Hp->Prop,(∀σ' H',N σ' H'-> ∃m',m'<m/\W (i+1) m' σ' H')/\ ∀x H',(Itr lo n).yld i H x H'->g x σ H' λσ2 H2=>tb { D with nx:=N,ct:=N,bk:=D.nx } σ2 H2):=by
 refine#[λi m σ H=>m=n-i/\i<=n/\Pv i σ H,#[n,by simp,F6 _,h0],?_];rintro i m σ H ⟨rfl,hi,p⟩;by_cases UR:i<n
 ·refine .inr #[UR,Pv (i+1),λσ' H' p'=>#[n-(i+1),by lia,Go,UR,p'],λx H' y=>?_]
  obtain⟨e,y⟩:=y;subst e y;exact hs i σ _ UR p
 ·have e:i=n:=by lia
  subst e;exact .inl #[FN _,hd σ H p]
abbrev R2:=V->V->Hp->VK->Prop
def lH (X:Cx) (f:Fp->Fp->Sem Fp) (r:R2):Prop:=
 ∀(pins:Fh (Fq×Jh)) (s:Fw) (σ:St) (H:Hp) (x y:V) (v u:Fp) (Q:VK),aE X pins σ H s->br x v->br y u->r x y H Q->
  F4 (model X.prog X.w) X.A (f v u) (EP X pins σ Q) X.xe s
def UnR (X:Cx) (f:Fp->Sem Fp) (r:V->Hp->VK->Prop):Prop:=
 ∀(pins:Fh (Fq×Jh)) (s:Fw) (σ:St) (H:Hp) (x:V) (v:Fp) (Q:VK),aE X pins σ H s->br x v->r x H Q->
  F4 (model X.prog X.w) X.A (f v) (EP X pins σ Q) X.xe s
def gV (X:Cx) (f:Fp) (r:Fh V->Hp->VK->Prop):Prop:=
 ∀(pins:Fh (Fq×Jh)) (s:Fw) (σ:St) (H:Hp) (xs:Fh V) (us:Fh Fp) (Q:VK),aE X pins σ H s->a8 xs us->r xs H Q->
  F4 (model X.prog X.w) X.A (call f us) (EP X pins σ Q) X.xe s
def Yt (r:R2) (ta tb:TE):TE:=λσ H Q=>ta σ H λx H1=>tb σ H1 λy H2=>r x y H2 Q
def tUn (r:V->Hp->VK->Prop) (ta:TE):TE:=λσ H Q=>ta σ H λx H1=>r x H1 Q
inductive rI (C:Int->Int->Prop) (g:Int->Int->V) (x:V) (y:V) (H:Hp) (Q:VK):Prop
 |mk (i j:Int) (_:x= .int i) (_:y= .int j) (_:C i j) (_:Q (g i j) H):rI C g x y H Q
inductive zt (g:Int->Int->V) (x:V) (y:V) (H:Hp) (Q:VK):Prop
 |mk (i j:Int) (_:x= .int i) (_:y= .int j) (_:Q (g i j) H):zt g x y H Q
inductive rU (g:Int->V) (x:V) (H:Hp) (Q:VK):Prop
 |mk (i:Int) (_:x= .int i) (_:Q (g i) H):rU g x H Q
section
variable {X:Cx}{a b c:HM}{ta tb tc:TE}{pos:Pos}
theorem aaF (ha:PE X a ta) (hb:PE X b tb) {pins:Fh (Fq×Jh)}{s:Fw}{σ:St}{H:Hp}{R:V->V->Hp->Prop}(I:aE X pins σ H s)
  (h:ta σ H λx H1=>tb σ H1 λy H2=>R x y H2) {Q:Fp->Fw->Prop}{f:Fp->Fp->Sem Fp}
  (hf: ∀v u s2 x y H2,aE X pins σ H2 s2->br x v->br y u->R x y H2->F4 (model X.prog X.w) X.A (f v u) Q X.xe s2):
  F4 (model X.prog X.w) X.A (eval a X.env) (λv s₁=>F4 (model X.prog X.w) X.A (eval b X.env) (λu s₂=>F4 (model X.prog X.w) X.A (f v u) Q X.xe s₂) X.xe s₁) X.xe s:=by
 refine b9 (ha pins s σ H _ I h) λv s1 ⟨x,H1,I1,r1,q1⟩=>?_;refine b9 (hb pins s1 σ H1 _ I1 q1) λu s2 ⟨y,H2,I2,r2,q2⟩=>?_;exact hf v u s2 x y H2 I2 r1 r2 q2
theorem bW {r:R2}(ho:lH X (P2 op) r) (ha:PE X a ta) (hb:PE X b tb):PE X (.BinOp a op b pos) (Yt r ta tb):=by
 rw[01];exact wpAny_BinOp (aaF ha hb I h λv u s2 x y H2 I2 rx ry q=>ho pins s2 σ H2 x y v u Q I2 rx ry q)
theorem dO {r:V->Hp->VK->Prop}(ho:UnR X (unaryOp op) r) (ha:PE X a ta):PE X (.UnaryOp op a pos) (tUn r ta):=by
 rw[01];exact UnaryOp_ (b9 (ha pins s σ H _ I h) λv s1 ⟨x,H1,I1,r1,q1⟩=>ho pins s1 σ H1 x v Q I1 r1 q1)
theorem opI {f:Fp->Fp->Sem Fp}{C:Int->Int->Prop}{g:Int->Int->Int}
  (rule: ∀(i j:Int) (t u:Tok) (s:Fw) (Q:Fp->Fw->Prop) (E:Fp->Fw->Prop),C i j->Q (.int (g i j) s.toks) { s with toks:=s.toks+1 } ->F4 (model X.prog X.w) X.A (f (.int i t) (.int j u)) Q E s):
  lH X f (rI C λi j=> .int (g i j)):=by
 intro pins s σ H x y v u Q I rx ry h;obtain⟨i,j,rfl,rfl,hc,q⟩:=h;obtain⟨t,rfl⟩:=rx;obtain⟨t',rfl⟩:=ry;exact rule i j t t' s _ _ hc #[.int (g i j),H,I.tok _,#[_,Go],q]
theorem afK {f:Fp->Fp->Sem Fp}{g:Int->Int->Int}
  (rule: ∀(i j:Int) (t u:Tok) (s:Fw) (Q:Fp->Fw->Prop) (E:Fp->Fw->Prop),Q (.int (g i j) s.toks) { s with toks:=s.toks+1 } ->F4 (model X.prog X.w) X.A (f (.int i t) (.int j u)) Q E s):
  lH X f (zt λi j=> .int (g i j)):=by
 intro pins s σ H x y v u Q I rx ry h;obtain⟨i,j,rfl,rfl,q⟩:=h;obtain⟨t,rfl⟩:=rx;obtain⟨t',rfl⟩:=ry;exact rule i j t t' s _ _ #[.int (g i j),H,I.tok _,#[_,Go],q]
theorem EI {f:Fp->Fp->Sem Fp}{g:Int->Int->GA}
  (rule: ∀(i j:Int) (t u:Tok) (s:Fw) (Q:Fp->Fw->Prop) (E:Fp->Fw->Prop),Q (.bool (g i j)) s->F4 (model X.prog X.w) X.A (f (.int i t) (.int j u)) Q E s):
  lH X f (zt λi j=> .bl (g i j)):=by
 intro pins s σ H x y v u Q I rx ry h;obtain⟨i,j,rfl,rfl,q⟩:=h;obtain⟨t,rfl⟩:=rx;obtain⟨t',rfl⟩:=ry;exact rule i j t t' s _ _ #[.bl (g i j),H,I,Go,q]
def aaG (i j:Int):Prop:=(-(2 ^ 64)<i/\i<2 ^ 64)\/(-(2 ^ 64)<j/\j<2 ^ 64)
theorem aaG.ok {i j:Int}(h:aaG i j):IntMulOk i j:=by
 rcases h with⟨h1,h2⟩|⟨h1,h2⟩
 ·exact .of_left (intBits_le_64 h1 h2)
 ·exact .of_right (intBits_le_64 h1 h2)
theorem dN:lH X (P2 .Add) (zt λi j=> .int (i+j)):=afK λ_ _ _ _ _ _ _ q=>add_int q
theorem cS:lH X (P2 .Sub) (zt λi j=> .int (i-j)):=afK λ_ _ _ _ _ _ _ q=>sub_int q
theorem Bp:lH X (P2 .Mult) (rI aaG λi j=> .int (i*j)):=opI λ_ _ _ _ _ _ _ hc q=>mul_int q hc.ok
theorem DW:lH X (P2 .Mod) (rI (λ_ j=>j≠0) λi j=> .int (i.fmod j)):=opI λ_ _ _ _ _ _ _ hc q=>mod_int' hc q
theorem unI {f:Fp->Sem Fp}{g:Int->Int}
  (rule: ∀(i:Int) (t:Tok) (s:Fw) (Q:Fp->Fw->Prop) (E:Fp->Fw->Prop),Q (.int (g i) s.toks) { s with toks:=s.toks+1 } ->F4 (model X.prog X.w) X.A (f (.int i t)) Q E s):
  UnR X f (rU λi=> .int (g i)):=by
 intro pins s σ H x v Q I rx h;obtain⟨i,rfl,q⟩:=h;obtain⟨t,rfl⟩:=rx;exact rule i t s _ _ #[.int (g i),H,I.tok _,#[_,Go],q]
theorem cK:UnR X (unaryOp .USub) (rU λi=> .int (-i)):=unI λ_ _ _ _ _ q=>neg_int q
end
def aaH:V->V->GA
 | .IX, .IX=>FS| .IX, .int _=>FS| .int _, .IX=>FS| .IX, .bl _=>FS| .bl _, .IX=>FS| .IX, .str _=>FS| .str _, .IX=>FS
 | .int _, .int _=>FS| .bl _, .bl _=>FS| .str _, .str _=>FS| .SM _, .SM _=>FS
 | .int _, .str _=>FS| .str _, .int _=>FS| .bl _, .str _=>FS| .str _, .bl _=>FS
 |_,_=>Gc
inductive rEq (x:V) (y:V) (H:Hp) (Q:VK):Prop
 |mk (_:aaH x y=FS) (_:Q (.bl (decide (x=y))) H):rEq x y H Q
inductive rNe (x:V) (y:V) (H:Hp) (Q:VK):Prop
 |mk (_:aaH x y=FS) (_:Q (.bl (!decide (x=y))) H):rNe x y H Q
theorem xa {i j:Int} :decide (V.int i=V.int j)=(i == j):=by
 rw[Hq];simp
theorem Di {i j:GA} :decide (V.bl i=V.bl j)=(i == j):=by
 rw[Hq];simp
theorem xu {i j:FY} :decide (V.str i=V.str j)=(i == j):=by
 rw[Hq];simp
theorem xn {i j:JE Jm} :decide (V.SM i=V.SM j)=(i.toList == j.toList):=by
 rw[Hq];cases i;cases j;simp
section
variable {X:Cx}{a b c:HM}{ta tb tc:TE}{pos:Pos}
theorem bH {pins:Fh (Fq×Jh)}{σ:St}{H:Hp}{s:Fw}{Q:VK}{k k':GA}(I:aE X pins σ H s) (q:Q (.bl k) H) (e:k=k'):EP X pins σ Q (.bool k') s:=by
 subst e;exact#[.bl k,H,I,Go,q]
theorem bX:lH X (IJ .Eq) rEq:=by
 intro pins s σ H x y v u Q I rx ry h;obtain⟨hs,q⟩:=h;cases x with
 |IX=>
  cases rx;cases y with
  |IX=>cases ry;exact PySem.EqNone.eq_none_none (bH I q (by simp))
  |bl j=>cases ry;exact PySem.EqNone.eq_none_bool (bH I q (by simp))
  |int j=>obtain⟨t',rfl⟩:=ry;exact PySem.EqNone.eq_none_int (bH I q (by simp))
  |str j=>obtain⟨t',rfl⟩:=ry;exact PySem.EqNone.eq_none_str (bH I q (by simp))
  |_=>exact FP (show Gc=FS from hs) Fl
 |bl i=>
  cases rx;cases y with
  |IX=>cases ry;exact PySem.EqNone.eq_bool_none (bH I q (by simp))
  |bl j=>cases ry;exact eq_bool (bH I q Di)
  |str j=>obtain⟨t',rfl⟩:=ry;exact PySem.EqMixed.eq_bool_str (bH I q (by simp))
  |_=>exact FP (show Gc=FS from hs) Fl
 |int i=>
  obtain⟨t,rfl⟩:=rx;cases y with
  |IX=>cases ry;exact PySem.EqNone.eq_int_none (bH I q (by simp))
  |int j=>obtain⟨t',rfl⟩:=ry;exact eq_int (bH I q xa)
  |str j=>obtain⟨t',rfl⟩:=ry;exact PySem.EqMixed.eq_int_str (bH I q (by simp))
  |_=>exact FP (show Gc=FS from hs) Fl
 |str i=>
  obtain⟨t,rfl⟩:=rx;cases y with
  |IX=>cases ry;exact PySem.EqNone.eq_str_none (bH I q (by simp))
  |bl j=>cases ry;exact PySem.EqMixed.eq_str_bool (bH I q (by simp))
  |int j=>obtain⟨t',rfl⟩:=ry;exact PySem.EqMixed.eq_str_int (bH I q (by simp))
  |str j=>obtain⟨t',rfl⟩:=ry;exact eq_str (bH I q xu)
  |_=>exact FP (show Gc=FS from hs) Fl
 |SM i=>
  obtain⟨t,rfl⟩:=rx;cases y with
  |SM j=>obtain⟨t',rfl⟩:=ry;exact PySem.W.eq_bytes (bH I q xn)
  |_=>exact FP (show Gc=FS from hs) Fl
 |_=>cases y<;>exact FP (show Gc=FS from hs) Fl
theorem qc:lH X (IJ .NotEq) rNe:=by
 intro pins s σ H x y v u Q I rx ry h;obtain⟨hs,q⟩:=h;cases x with
 |IX=>
  cases rx;cases y with
  |IX=>cases ry;exact PySem.EqNone.ne_none_none (bH I q (by simp))
  |bl j=>cases ry;exact PySem.EqNone.ne_none_bool (bH I q (by simp))
  |int j=>obtain⟨t',rfl⟩:=ry;exact PySem.EqNone.ne_none_int (bH I q (by simp))
  |str j=>obtain⟨t',rfl⟩:=ry;exact PySem.EqNone.ne_none_str (bH I q (by simp))
  |_=>exact FP (show Gc=FS from hs) Fl
 |bl i=>
  cases rx;cases y with
  |IX=>cases ry;exact PySem.EqNone.ne_bool_none (bH I q (by simp))
  |bl j=>cases ry;exact ne_bool (bH I q (Gx not Di))
  |str j=>obtain⟨t',rfl⟩:=ry;exact PySem.EqMixed.ne_bool_str (bH I q (by simp))
  |_=>exact FP (show Gc=FS from hs) Fl
 |int i=>
  obtain⟨t,rfl⟩:=rx;cases y with
  |IX=>cases ry;exact PySem.EqNone.ne_int_none (bH I q (by simp))
  |int j=>obtain⟨t',rfl⟩:=ry;exact ne_int (bH I q (Gx not xa))
  |str j=>obtain⟨t',rfl⟩:=ry;exact PySem.EqMixed.ne_int_str (bH I q (by simp))
  |_=>exact FP (show Gc=FS from hs) Fl
 |str i=>
  obtain⟨t,rfl⟩:=rx;cases y with
  |IX=>cases ry;exact PySem.EqNone.ne_str_none (bH I q (by simp))
  |bl j=>cases ry;exact PySem.EqMixed.ne_str_bool (bH I q (by simp))
  |int j=>obtain⟨t',rfl⟩:=ry;exact PySem.EqMixed.ne_str_int (bH I q (by simp))
  |str j=>obtain⟨t',rfl⟩:=ry;exact ne_str (bH I q (Gx not xu))
  |_=>exact FP (show Gc=FS from hs) Fl
 |SM i=>
  obtain⟨t,rfl⟩:=rx;cases y with
  |SM j=>obtain⟨t',rfl⟩:=ry;exact PySem.W.ne_bytes (bH I q (Gx not xn))
  |_=>exact FP (show Gc=FS from hs) Fl
 |_=>cases y<;>exact FP (show Gc=FS from hs) Fl
theorem kG:lH X (IJ .Lt) (zt λi j=> .bl (decide (i<j))):=EI λ_ _ _ _ _ _ _ q=>lt_int q
theorem eP:lH X (IJ .LtE) (zt λi j=> .bl (decide (i<=j))):=EI λ_ _ _ _ _ _ _ q=>le_int q
theorem gk:lH X (IJ .Gt) (zt λi j=> .bl (decide (j<i))):=EI λ_ _ _ _ _ _ _ q=>gt_int q
theorem afL:lH X (IJ .GtE) (zt λi j=> .bl (decide (j<=i))):=EI λ_ _ _ _ _ _ _ q=>ge_int q
theorem aaI:lH X (IJ .Is) (λx y H Q=>y= .IX/\Q (.bl (decide (x= .IX))) H):=by
 intro pins s σ H x y v u Q I rx ry h;obtain⟨rfl,q⟩:=h;cases ry;refine is_none_gen (bH I q ?_);cases x<;>first
  | (cases rx;rfl)
  | (obtain⟨t,rfl⟩:=rx;rfl)
theorem Ey:lH X (IJ .IsNot) (λx y H Q=>y= .IX/\Q (.bl (!decide (x= .IX))) H):=by
 intro pins s σ H x y v u Q I rx ry h;obtain⟨rfl,q⟩:=h;cases ry;refine isnot_none_gen (bH I q ?_);cases x<;>first
  | (cases rx;rfl)
  | (obtain⟨t,rfl⟩:=rx;rfl)
theorem aK (b:HM) (h:op≠ .In:=by decide) (h2:op≠ .NotIn:=by decide):behindInMarks op b=Gc:=by
 have e1:(op == CmpOp.In)=Gc:=by cases op<;>first|rfl|exact FP rfl h
 have e2:(op == CmpOp.NotIn)=Gc:=by cases op<;>first|rfl|exact FP rfl h2
 cases b<;>simp [behindInMarks,e1,e2]
theorem cc {r:R2}(ho:lH X (IJ op) r) (ha:PE X a ta) (hb:PE X b tb) (hm:behindInMarks op b=Gc):PE X (.Compare a [op] [b] pos) (Yt r ta tb):=by
 rw[01];exact wpAny_Compare1 (aaF ha hb I h λv u s2 x y H2 I2 rx ry q=>ho pins s2 σ H2 x y v u Q I2 rx ry q) hm
def tZ (t:TE):TT:=λσ H Q=>t σ H (vI Q)
theorem aZ {r:R2}(ho:lH X (IJ op) r) (ha:PE X a ta) (hb:PE X b tb) (hm:behindInMarks op b=Gc):PT X (.Compare a [op] [b] pos) (tZ (Yt r ta tb)):=by
 rw[01];refine WC (b9 (ha pins s σ H _ I h) λv s1 ⟨x,H1,I1,r1,q1⟩=>b9 (hb pins s1 σ H1 _ I1 q1) λu s2 ⟨y,H2,I2,r2,q2⟩=>
  b9 (ho pins s2 σ H2 x y v u _ I2 r1 r2 q2) λc s3 ⟨z,H3,I3,r3,k,e,q3⟩=>?_) hm
 subst e;cases r3;exact Je #[H3,I3,q3]
def vY (r r':R2) (ta tb tc:TE):TE:=λσ H Q=>ta σ H λx H1=>tb σ H1 λy H2=>r x y H2 λz H3=> ∃k,z= .bl k/\
 (if k=FS then tc σ H3 λw' H4=>r' y w' H4 Q else Q (.bl Gc) H3)
theorem iX {r r':R2}(ho:lH X (IJ op) r) (RI:lH X (IJ op') r') (ha:PE X a ta) (hb:PE X b tb) (hc:PE X c tc)
  (hm:Vy [op,op'] [b,c]=Gc:=by with_unfolding_all rfl):PE X (.Compare a [op,op'] [b,c] pos) (vY r r' ta tb tc):=by
 rw[01];refine Compare_chain (b9 (ha pins s σ H _ I h) λv s1 ⟨x,H1,I1,r1,q1⟩=>chain_link (b9 (hb pins s1 σ H1 _ I1 q1) λu s2 ⟨y,H2,I2,r2,q2⟩=>
  b9 (ho pins s2 σ H2 x y v u _ I2 r1 r2 q2) λd s3 ⟨z,H3,I3,r3,k,e,q3⟩=>?_)) hm
 subst e;cases r3;refine Je ?_;cases k with
 |false=>exact ite_ff #[.bl Gc,H3,I3,Go,q3]
 |true=>exact ite_tt (chain_last (b9 (hc pins s3 σ H3 _ I3 q3) λw' s4 ⟨z',H4,I4,r4,q4⟩=>RI pins s4 σ H4 y z' u w' Q I4 r2 r4 q4))
theorem Df {r r':R2}(ho:lH X (IJ op) r) (RI:lH X (IJ op') r') (ha:PE X a ta) (hb:PE X b tb) (hc:PE X c tc)
  (hm:Vy [op,op'] [b,c]=Gc:=by with_unfolding_all rfl):PT X (.Compare a [op,op'] [b,c] pos) (tZ (vY r r' ta tb tc)):=by
 rw[01];refine isTrue_chain (b9 (ha pins s σ H _ I h) λv s1 ⟨x,H1,I1,r1,q1⟩=>test_link (b9 (hb pins s1 σ H1 _ I1 q1) λu s2 ⟨y,H2,I2,r2,q2⟩=>
  b9 (ho pins s2 σ H2 x y v u _ I2 r1 r2 q2) λd s3 ⟨z,H3,I3,r3,k,e,q3⟩=>?_)) hm
 subst e;cases r3;refine Je ?_;cases k with
 |false=>
  obtain⟨k',e',q'⟩:=q3;cases e';exact ite_ff #[H3,I3,q']
 |true=>
  refine ite_tt (test_last (b9 (hc pins s3 σ H3 _ I3 q3) λw' s4 ⟨z',H4,I4,r4,q4⟩=>b9 (RI pins s4 σ H4 y z' u w' _ I4 r2 r4 q4) λd' s5 ⟨z2,H5,I5,r5,k2,e2,q5⟩=>?_));subst e2;cases r5;exact Je #[H5,I5,q5]
theorem qS:(Gk:FH)<2 ^ 63:=by rw[Im];decide
theorem nP {x:V}(r:a8 [x] us): ∃u,us=[u]/\br x u:=by
 cases r with
 |cons r1 r2=>cases r2;exact#[_,Go,r1]
theorem vals2 {x y:V}(r:a8 [x,y] us): ∃u w',us=[u,w']/\br x u/\br y w':=by
 cases r with
 |cons r1 r2=>
  cases r2 with
  |cons r3 r4=>cases r4;exact#[_,_,Go,r1,r3]
theorem so:gV X (.builtin "abs") (λxs H Q=> ∃i,xs=[.int i]/\Q (.int (if i<0 then-i else i)) H):=by
 intro pins s σ H xs us Q I r h;obtain⟨i,rfl,q⟩:=h;obtain⟨u,rfl,t,rfl⟩:=nP r;exact call_abs_int λu tk=>#[.int (if i<0 then-i else i),H,I.tok _,#[_,Go],q]
end
structure uZ (h:Ha) (x dx C:Fq) (mA:FY->FA Fp):Prop where
 obj:h.get? x=FB (JH C dx)
 ns:h.Ns1 dx mA
 ne:dx≠x
theorem yS {h:Ha}{dx:Fq}{mA:FY->FA Fp}(n:h.Ns1 dx mA): ∃od,h.get? dx=FB od/\ ∀name,Oc name od=FB (mA name):=by
 obtain⟨o,es,ep,ho,hd,hk,_,hm⟩:=n;refine#[o,ho,λname=>?_];have e:=hm name;unfold nsFind findBy at e;rw[<-U8] at e;unfold Oc;rw[hd];dsimp only;split
 ·rename_i y q
  rw[q] at e;exact Gx FB e
 ·rename_i q
  rw[q] at e;have a:es.toList.any (·.refKey)=Gc:=by
   rw[VS];intro y hy;obtain⟨z,t,akY⟩:=hk y (TU.mp hy);simp [OC.refKey,akY]
  have a': ¬es.toList.any (·.refKey)=FS:=by rw[a];exact Fl
  rw[Fs a'];exact Gx FB e
theorem uZ.look {h:Ha}{x dx C:Fq}{mA:FY->FA Fp}(I:uZ h x dx C mA): ∃od,PySem.W.InstAt h x (JH C dx) C (FB od)/\ ∀name,Oc name od=FB (mA name):=
 let ⟨od,ho,hl⟩:=yS I.ns
 #[od,#[I.obj,Go,Go,ho],hl]
section
variable {prog:Gh}{w:GR}{A:Hc}{E:Fp->Fw->Prop}{s:Fw}{K:Fm}{x dx C f:Fq}{mA:FY->FA Fp}{name:FY}{v:Fp}
theorem E5 {Q:Fp->Fw->Prop}(X:K.In s.heap) (I:uZ s.heap x dx C mA) (hg:Nw K C name=FS) (hh:Ph K C=FS)
  (ha:Ia K (.ref C) name=FB FM) (hv:mA name=FB v) (hv':Vc v=FS) (h:Q v { s with toks:=s.toks+1 }):
  F4 (model prog w) A (Tq (.ref x) name expr) Q E s:=by
 obtain⟨od,J,hl⟩:=I.look;exact PySem.W.get_value X J (OA hg).1 (PySem.W.findObj_own hh ha rfl (by rw[hl,hv])) hv' h
theorem An {Q:Fp×Fh Fp->Fw->Prop}(X:K.In s.heap) (I:uZ s.heap x dx C mA) (hg:Nw K C name=FS)
  (hf:Ia K (.ref C) name=FB (FB (.ref f))) (ht:Pl K (.ref f)=FS) (hv:mA name=FM) (h:Q (.ref f,[.ref x]) s):
  F4 (model prog w) A (Lu (.ref x) name pl) Q E s:=by
 obtain⟨od,J,hl⟩:=I.look;exact PySem.W.method_fn X J (OA hg).1 (OA hg).2 hf (beq_iff_eq.mp ht) (by show(Oc name od).map (·.isSome)=FB Gc;rw[hl,hv];rfl) h
theorem Ea {ns:Fh FY}{Q:Nj->Fw->Prop}(X:K.In s.heap) (I:uZ s.heap x dx C mA)
  (hs:Ia K (.ref C) "__setattr__"=FB (FB (.builtin "object.__setattr__"))) (hp:Uw K C=FS) (ht:QJ K C name=FB FM) (hh:Ph K C=FS)
  (hw:N6 mA ns) (hsz:ns.length<=Gk)
  (h: ∀h',uZ h' x dx C (λy=>if y=name then FB v else mA y)->MT dx s.heap h'->Q () { s with heap:=h',toks:=s.toks+2 }):
  F4 (model prog w) A (Tr (.ref x) name v) Q E s:=by
 obtain⟨od,J,hl⟩:=I.look;refine PySem.W.set_plain X J hs (PySem.W.osa_open (s:= { s with toks:=s.toks+1 }) (r:=FM) X J hp ht λb=>?_);obtain⟨cd,hc,XF⟩:=PySem.W.any_some hh;have hx:s.heap.get? x=FB ⟨.ref C,FB dx, .plain, [].toArray⟩:=I.obj;refine FI (Gb (FI (FI (wpAny_loadPart hx (FI (PySem.W.Looks.here (s:= { s with toks:=s.toks+1 }) (PySem.W.looks_clsIn X hc) ?_))))));rw[XF];refine Gb (a:=FB dx) (FI (Gb (FI ?_)));refine VT (s:= { s with toks:=s.toks+1 }) I.ns λh' hn2 VL=>?_;obtain⟨oD,esD,epD,hoD,hdD,hcD⟩:=hn2.count (N6.cons name v hw);refine FI (RM hoD (by rw[hdD];exact RN (FV hcD (by rw[FG];lia))) ?_);exact Gb (h _ #[(VL.2 _ (IV I.ne)).trans I.obj,hn2,I.ne] VL)
theorem AD {R:Result->Fw->Prop}(X:K.In s.heap) (hm:VD K C=FS)
  (hi:Ia K (.ref C) "__init__"=FB (FB (.ref f))) (hf:V4 K (.ref f)=FB (.type "function"))
  (h:LO (model prog w) (A.under (.builtin "type.__call__" #[.ref C::vs,kw])) (.call (.ref f) #[.ref (s.heap.objs.size+1)::vs,kw]) (PySem.W.InitBack (s.heap.objs.size+1) R)
   { s with heap:=(s.heap.push IT).push (JH C s.heap.objs.size) }):
  LO (model prog w) A (.call (.ref C) #[vs,kw]) R s:=by
 obtain⟨hh,g,d,t,os⟩:=s;exact PySem.W.make_core (PySem.W.makes_of X hm) (PySem.W.looks_findIn X hi) (λself=>PySem.W.bind_fn X self hf) (.inl rfl) h
end
def Il (f:FY) (v:V):Fh (FY×V)->Fh (FY×V)
 |[]=>[(f,v)]
 | (g,x)::r=>if g=f then(g,v)::r else(g,x)::Il f v r
theorem iB (f g:FY) (v:V): ∀fs:Fh (FY×V),(Il f v fs).lookup g=if g=f then FB v else fs.lookup g
 |[]=>by
  show JC g [(f,v)]=_
  by_cases h:g=f
  ·have hb:(g == f)=FS:=beq_iff_eq.mpr h
   simp only[JC,hb,Fv h]
  ·have hb:(g == f)=Gc:=beq_eq_false_iff_ne.mpr h
   simp only[JC,hb,Fs h]
 | (k,x)::r=>by
  have ih:=iB f g v r;rw[show Il f v ((k,x)::r)=(if k=f then(k,v)::r else(k,x)::Il f v r) from rfl]
  by_cases hk:k=f
  ·rw[Fv hk]
   by_cases h:g=k
   ·have hb:(g == k)=FS:=beq_iff_eq.mpr h
    simp only[JC,hb,Fv (h.trans hk)]
   ·have hb:(g == k)=Gc:=beq_eq_false_iff_ne.mpr h
    simp only[JC,hb,Fs (λe:g=f=>h (e.trans hk.symm))]
  ·rw[Fs hk]
   by_cases h:g=k
   ·have hb:(g == k)=FS:=beq_iff_eq.mpr h
    simp only[JC,hb,Fs (λe:g=f=>hk (h.symm.trans e))]
   ·have hb:(g == k)=Gc:=beq_eq_false_iff_ne.mpr h
    simp only[JC,hb];exact ih
theorem gE (f:FY) (v:V): ∀fs:Fh (FY×V),f∈(Il f v fs).map (·.1)/\ ∀g,g∈fs.map (·.1)->g∈(Il f v fs).map (·.1)
 |[]=>#[by simp [Il],λg h=>by simp at h]
 | (k,x)::r=>by
  obtain⟨i1,i2⟩:=gE f v r;rw[show Il f v ((k,x)::r)=(if k=f then(k,v)::r else(k,x)::Il f v r) from rfl]
  by_cases hk:k=f
  ·rw[Fv hk]
   subst hk;exact#[by simp,λg h=>by simpa using h]
  ·rw[Fs hk]
   refine#[?_,λg h=>?_]
   ·rw[FX]
    exact Fx _ i1
   ·rw[FX] at h ⊢
    rcases FF.mp h with e|e
    ·exact FF.mpr (.inl e)
    ·exact Fx _ (i2 g e)
theorem cV (f:FY) (v:V): ∀fs:Fh (FY×V),(Il f v fs).length<=fs.length+1
 |[]=>by simp [Il]
 | (k,x)::r=>by
  have ih:=cV f v r;rw[show Il f v ((k,x)::r)=(if k=f then(k,v)::r else(k,x)::Il f v r) from rfl]
  by_cases hk:k=f
  ·rw[Fv hk,FG,FG];lia
  ·rw[Fs hk,FG,FG];lia
theorem fQ.some_of {v:V}{o:FA Fp}(r:fQ (FB v) o): ∃u,o=FB u/\br v u:=by
 cases o with
 |none=>exact(show False from r).elim
 |some u=>exact#[u,Go,r]
theorem fQ.none_of {o:FA Fp}(r:fQ FM o):o=FM:=by
 cases o with
 |none=>rfl
 |some u=>exact(show False from r).elim
theorem qp {v:V}{u:Fp}(r:br v u):Vc u=FS:=by
 cases v with
 |IX=>cases (show u=Ih from r);rfl
 |bl b=>cases (show u=MY b from r);rfl
 |int i=>obtain⟨t,e⟩:=(show∃t,u=Kv i t from r);cases e;rfl
 |str x=>obtain⟨t,e⟩:=(show∃t,u=OM x t from r);cases e;rfl
 |SM b=>obtain⟨t,e⟩:=(show∃t,u=Fp.bytes b t from r);cases e;rfl
 |Yb b=>obtain⟨t,e⟩:=(show∃t,u=T3 b t from r);cases e;rfl
 |ref a=>cases (show u=F9 a from r);rfl
 |ty n=>cases (show u=MZ n from r);rfl
section
variable {P:Gh}{w:GR}{H H':Hp}{h h':Ha}{a C dx:Fq}{fs fs':Fh (FY×V)}
theorem mC (IF:ij P w H h) (e:H a=FB (.ins C dx fs)): ∃mA,uZ h a dx C mA/\(∀f,fQ (fs.lookup f) (mA f))/\N6 mA (fs.map (·.1))/\fs.length<=1000/\H dx=FB (.own a):=by
 obtain⟨d,z,ne,ob,mA,n,r,q⟩:=(show cy P w H h a (.ins C dx fs) from IF a _ e);exact#[mA,#[ob,n,ne],r,q,z,d]
end
theorem gG.get {K:Fm}{C:Fq}(c:gG K C) (f:FY):Nw K C f=FS:=c.pg
theorem au.afM {K:Fm}{C:Fq}{f:FY}(n:au K C f):QJ K C f=FB FM:=by
 unfold QJ;rw[show Ia K (.ref C) f=FB FM from n]
 rfl
section
variable {X:Cx}{pins:Fh (Fq×Jh)}{σ:St}{H:Hp}{s:Fw}{a C dx:Fq}{fs:Fh (FY×V)}{f:FY}{v:V}{A:Hc}{E:Fp->Fw->Prop}
theorem mX {b:GA}{Q:Fp->Fw->Prop}(I:aE X pins σ H s) (e:H a=FB (.ins C dx fs)) (c:gG X.K C) (n:au X.K C f) (l:fs.lookup f=FB v)
  (h: ∀u s',aE X pins σ H s'->br v u->Q u s'):F4 (model X.prog X.w) A (Tq (.ref a) f b) Q E s:=by
 obtain⟨mA,O,r,_,_,_⟩:=mC I.IF e;obtain⟨u,hu,ru⟩:=fQ.some_of (v:=v) (o:=mA f) (by rw[<-l];exact r f);exact E5 I.NI O (c.get f) c.hd n hu (qp ru) (h u _ (I.tok _) ru)
theorem mY {m:FY}{g:Fq}{Q:Fp×Fh Fp->Fw->Prop}(I:aE X pins σ H s) (e:H a=FB (.ins C dx fs)) (c:gG X.K C) (k:Meth X.K C m g) (l:fs.lookup m=FM)
  (h:Q (.ref g,[.ref a]) s):F4 (model X.prog X.w) A (Lu (.ref a) m pl) Q E s:=by
 obtain⟨mA,O,r,_,_,_⟩:=mC I.IF e;have hn:mA m=FM:=fQ.none_of (by rw[<-l];exact r m);exact An I.NI O (c.get m) k.at_ k.fn hn h
theorem nz {y:V}{u:Fp}{Q:Nj->Fw->Prop}(I:aE X pins σ H s) (e:H a=FB (.ins C dx fs)) (c:gG X.K C) (n:au X.K C f) (hl:fs.length<1000) (ry:br y u)
  (h: ∀s',aE X pins σ (aF H a (.ins C dx (Il f y fs))) s'->Q () s'):F4 (model X.prog X.w) A (Tr (.ref a) f u) Q E s:=by
 obtain⟨mA,O,r,wi,_,ho⟩:=mC I.IF e;have hz:(fs.map (·.1)).length<=Gk:=by rw[FE,Im];lia
 refine Ea I.NI O c.sa c.po n.afM c.hd wi hz λh' O' sb=>h _ ?_;have hd: ∃o,h'.get? dx=FB o:=let ⟨o,_,_,e',_⟩:=O'.ns;#[o,e'];refine I.write (x:=a) (e:=dx) (by rw[e];exact Hs) (.inr ho) (λb q hb z=>(sb.2 b hb).trans z) hd ?_;refine#[by rw[ac O.ne];exact ho,?_,O.ne,O'.obj,_,O'.ns,λg=>?_,λg hg=>?_]
 ·have:=cV f y fs;lia
 ·show fQ ((Il f y fs).lookup g) (if g=f then FB u else mA g)
  rw[iB];by_cases q:g=f
  ·rw[Fv q,Fv q];exact ry
  ·rw[Fs q,Fs q];exact r g
 ·by_cases q:g=f
  ·rw[q];exact(gE f y fs).1
  ·refine(gE f y fs).2 g (wi g λz=>hg ?_)
   show(if g=f then FB u else mA g)=FM
   rw[Fs q];exact z
theorem aE.made (I:aE X pins σ H s):aE X pins σ (aF (aF H s.heap.objs.size (.own (s.heap.objs.size+1))) (s.heap.objs.size+1) (.ins C s.heap.objs.size []))
  { s with heap:=(s.heap.push IT).push (JH C s.heap.objs.size) } :=by
 have e1:(s.heap.push IT).get? s.heap.objs.size=FB IT:=Hk s.heap rfl
 have e2:((s.heap.push IT).push (JH C s.heap.objs.size)).get? (s.heap.objs.size+1)=FB (JH C s.heap.objs.size):=by
  have:=Hk (s.heap.push IT) (o:=JH C s.heap.objs.size) rfl
  rwa [HY] at this
 have e3:(s.heap.push IT).Ns s.heap.objs.size (λ_=>FM):=#[IT, [].toArray,_,e1,Go,(λe he=>FP he (by simp)),λ_=>rfl]
 have I1:=I.laid (a:=s.heap.objs.size) (o:= .own (s.heap.objs.size+1)) (h':=s.heap.push IT) (t':=s.toks) (λb u q=>FJ _ q) (FN _) #[_,e1]
 refine I1.laid (a:=s.heap.objs.size+1) (o:= .ins C s.heap.objs.size []) (t':=s.toks) (λb u q=>FJ _ q) (Kq (HY _ _)) ?_;have ne:s.heap.objs.size≠s.heap.objs.size+1:=Hi (HQ _);refine#[by rw[ac ne,ae],F6 _,ne,e2,λ_=>FM,(Pb e3).at λo q=>FJ _ q,λ_=>Hs,λy hy=>FP rfl hy]
theorem yc {prog:Gh}{w:GR}{env:Env}{e:HM}{f:FY}{pos:Pos}{s:Fw}{Q:Fp->Fw->Prop}(hb:IM e f env (eval e env)=eval e env)
  (h:F4 (model prog w) A (eval e env) (λo s₁=>F4 (model prog w) A (Tq o f FS) Q E s₁) E s):F4 (model prog w) A (eval (.Attribute e f pos) env) Q E s:=
 Attribute_any_ h (by rw[arm_eval_Attribute,hb])
end
inductive dE (K:Fm) (f:FY) (R:V->Hp->Prop) (x:V) (H1:Hp):Prop
 |mk (a C dx:Fq) (fs:Fh (FY×V)) (v:V) (_:x= .ref a) (_:H1 a=FB (.ins C dx fs)) (_:gG K C) (_:au K C f) (_:fs.lookup f=FB v) (_:R v H1):dE K f R x H1
def aaJ (K:Fm) (ta:TE) (f:FY):TE:=λσ H Q=>ta σ H (dE K f Q)
def akZ (K:Fm) (ta tv:TE) (f:FY):TS:=λD σ H=>tv σ H λy H1=>ta σ H1 λx H2=> ∃a C dx fs,x= .ref a/\H2 a=FB (.ins C dx fs)/\gG K C/\au K C f/\fs.length<1000/\
 D.nx σ (aF H2 a (.ins C dx (Il f y fs)))
def afN (X:Cx) (op:Operator) (rd:V->V->Hp->VK->Prop):Prop:=
 ∀(pins:Fh (Fq×Jh)) (s:Fw) (σ:St) (H:Hp) (x y:V) (u v:Fp) (Q:VK),aE X pins σ H s->br x u->br y v->rd x y H Q->F4 (model X.prog X.w) X.A (inplaceOp op u v) (EP X pins σ Q) X.xe s
def D0 (K:Fm) (ta tv:TE) (rd:V->V->Hp->VK->Prop) (f:FY):TS:=λD σ H=>ta σ H λx H1=> ∃a C dx fs v,x= .ref a/\H1 a=FB (.ins C dx fs)/\gG K C/\au K C f/\fs.lookup f=FB v/\
 tv σ H1 λy H2=>rd v y H2 λz H3=> ∃dx' fs',H3 a=FB (.ins C dx' fs')/\fs'.length<1000/\D.nx σ (aF H3 a (.ins C dx' (Il f z fs')))
section
variable {X:Cx}{o e Kx:HM}{f:FY}{pos NK afO:Pos}{ta tv:TE}
theorem aj (he:PE X e ta) (hb:IM e f X.env (eval e X.env)=eval e X.env):PE X (.Attribute e f pos) (aaJ X.K ta f):=by
 rw[01];refine yc hb (b9 (he pins s σ H _ I h) λu s1 ⟨x,H1,I1,rx,a,C,dx,fs,v,ex,ea,c,n,l,q⟩=>?_);subst ex;obtain rfl:u=F9 a:=rx;exact mX I1 ea c n l λu' s2 I2 ru=>#[v,H1,I2,ru,q]
theorem b4 (ha:PE X o ta) (hv:PE X Kx tv) (hs:Kp Kx (FB (.Attribute o f NK)) pos.line X.env=pure Gc):PS X (.Assign [.Attribute o f NK] Kx pos) (akZ X.K ta tv f):=by
 rw[04];refine MA (b9 (hv pins s σ H _ I h) λu s1 ⟨y,H1,I1,ry,q⟩=>b9 (ha pins s1 σ H1 _ I1 q) λov s2 ⟨x,H2,I2,rx,a,C,dx,fs,ex,ea,c,n,l,q2⟩=>?_) hs;subst ex;obtain rfl:ov=F9 a:=rx;exact nz I2 ea c n l ry λs3 I3=>#[σ,_,I3,q2]
theorem gR {rd:V->V->Hp->VK->Prop}(ha:PE X o ta) (hv:PE X Kx tv) (XG:afN X op rd):PS X (.AugAssign (.Attribute o f afO) op Kx pos) (D0 X.K ta tv rd f):=by
 rw[04];refine wpAny_AugAssign_AttributeAny (b9 (ha pins s σ H _ I h) λov s1 ⟨x,H1,I1,rx,a,C,dx,fs,v,ex,ea,c,n,l,q⟩=>?_);subst ex;obtain rfl:ov=F9 a:=rx;refine mX I1 ea c n l λu s2 I2 ru=>b9 (hv pins s2 σ H1 _ I2 q) λw3 s3 ⟨y,H2,I3,ry,q3⟩=>b9 (XG pins s3 σ H2 v y u w3 _ I3 ru ry q3) λw4 s4 ⟨z,H3,I4,rz,dx',fs',ea',l',q4⟩=>?_;exact nz I4 ea' c n l' rz λs5 I5=>#[σ,_,I5,q4]
def ak0:V->V->Hp->VK->Prop:=λx y H Q=> ∃i j,x= .int i/\y= .int j/\Q (.int (i+j)) H
theorem oh:afN X .Add ak0:=by
 rintro pins s σ H x y u v Q I rx ry ⟨i,j,rfl,rfl,q⟩;obtain⟨t,rfl⟩:=(show∃t,u=Kv i t from rx);obtain⟨t',rfl⟩:=(show∃t',v=Kv j t' from ry);exact PyProof.Rows.iadd_int #[.int (i+j),H,I.tok _,#[_,Go],q]
end
section
variable {X:Cx}{pins:Fh (Fq×Jh)}{σ:St}{H:Hp}{s:Fw}{A:Hc}{E:Fp->Fw->Prop}{Q:Fp->Fw->Prop}{c:Fp}{b:GA}
inductive i4 (K:Fm) (H:Hp):V->Fp->Prop where
 |IX:i4 K H .IX (.type "NoneType")
 |bl (x:GA):i4 K H (.bl x) (.type "bool")
 |int (i:Int):i4 K H (.int i) (.type "int")
 |str (x:FY):i4 K H (.str x) (.type "str")
 |Yb (x:UInt64):i4 K H (.Yb x) (.type "float")
 |lst {a:Fq}{xs:Fh V}(e:H a=FB (.lst xs)):i4 K H (.ref a) (.type "list")
 |QY {a:Fq}{o:Jh}{xs:Fh V}(e:H a=FB (.QY o (.lst xs))):i4 K H (.ref a) (.type "list")
 |tup {a:Fq}{xs:Fh V}(e:H a=FB (.tup xs)):i4 K H (.ref a) (.type "tuple")
 |dK {a:Fq}{aC:Fh (be×V)}(e:H a=FB (.dK aC)):i4 K H (.ref a) (.type "dict")
 |dT {a:Fq}{aC:Fh (Fh be×V)}(e:H a=FB (.dT aC)):i4 K H (.ref a) (.type "dict")
 |ins {a C dx:Fq}{fs:Fh (FY×V)}(e:H a=FB (.ins C dx fs)) (cl:gG K C) (ha:Ia K (.ref C) "__class__"=FB (FB (.builtin "object.__class__")))
   (hn:Pj K (.builtin "object.__class__") "__get__"=FB (FB (.builtin "getset_descriptor.__get__"))) (htk:VE K (.builtin "object.__class__")=FB FS)
   (hm:WO K C (.type "object")=FB FS):i4 K H (.ref a) (.ref C)
theorem zc {x:V}{u t:Fp}(I:aE X pins σ H s) (rx:br x u) (ty:i4 X.K H x t) (e:HA X.K t c=FB b) (h: ∀tk,Q (.bool b) { s with toks:=tk }):
  F4 (model X.prog X.w) A (call (.builtin "isinstance") [u,c]) Q E s:=by
 cases ty with
 |IX=>cases (show u=Ih from rx);exact Iw PySem.W.kitx_none I.NI Hs e (λz=>nomatch z) h
 |bl y=>cases (show u=MY y from rx);exact Iw PySem.W.kitx_bool I.NI Hs e (λz=>nomatch z) h
 |int i=>obtain⟨t,q⟩:=(show∃t,u=Kv i t from rx);cases q;exact Iw PySem.W.kitx_int I.NI Hs e (λz=>nomatch z) h
 |str y=>obtain⟨t,q⟩:=(show∃t,u=OM y t from rx);cases q;exact Iw PySem.W.kitx_str I.NI Hs e (λz=>nomatch z) h
 |Yb y=>obtain⟨t,q⟩:=(show∃t,u=T3 y t from rx);cases q;exact Iw PySem.W.kitx_float I.NI Hs e (λz=>nomatch z) h
 | @lst a xs ea=>
  cases (show u=F9 a from rx);obtain⟨_,_,n,_,h1⟩:=(show cy X.prog X.w H s.heap a (.lst xs) from I.IF a _ ea);exact Iw Ux I.NI #[_,h1,Go] e (λz=>nomatch z) h
 | @QY a ob xs ea=>
  cases (show u=F9 a from rx);obtain⟨_,_,_,n,_,h1⟩:=(show cy X.prog X.w H s.heap a (.QY ob (.lst xs)) from I.IF a _ ea);exact Iw Ux I.NI #[_,h1,Go] e (λz=>nomatch z) h
 | @tup a xs ea=>
  cases (show u=F9 a from rx);obtain⟨_,_,_,p⟩:=(show cy X.prog X.w H s.heap a (.tup xs) from I.IF a _ ea);obtain⟨o,h1,h2,_⟩:=p;exact Iw PySem.W.kitx_tuple I.NI #[o,h1,h2] e (λz=>nomatch z) h
 | @dK a aC ea=>
  cases (show u=F9 a from rx);obtain⟨_,_,vs,_,p⟩:=(show cy X.prog X.w H s.heap a (.dK aC) from I.IF a _ ea);obtain⟨o,es,ep,h1,h2,_⟩:=p;exact Iw Uy I.NI #[o,h1,h2.1] e (λz=>nomatch z) h
 | @dT a aC ea=>
  cases (show u=F9 a from rx);obtain⟨_,_,xs,_,o,es,ep,h1,h2,_⟩:=(show cy X.prog X.w H s.heap a (.dT aC) from I.IF a _ ea);exact Iw Uy I.NI #[o,h1,h2.1] e (λz=>nomatch z) h
 | @ins a C dx fs ea cl ha hn htk hm=>
  cases (show u=F9 a from rx);obtain⟨mA,O,_⟩:=mC I.IF ea;obtain⟨od,J,_⟩:=O.look;exact Iw (PySem.W.kitx_own (cl.get _) cl.hd ha hn htk hm) I.NI J e (λz=>nomatch z) h
end
theorem bZ.mono {j k:FH}{A:Hc}(r:bZ k A) (h:j<=k):bZ j A:=#[r.hd,by have:=r.dp;lia,by have:=r.un;lia]
theorem bZ.deeper {k:FH}{A:Hc}(r:bZ (k+1) A) (env:Env):bZ k (A.deeper env):=
 #[r.hd,by have:=r.dp;show A.depth+1+2*k+5<_;lia,by have:=r.un;show A.units+3+16*k+200<_;lia]
theorem vC {A:Hc}{C:Fq} :(A.under (.builtin "type.__call__" #[.ref C::us,kw])).depth=A.depth+1:=by
 first|rfl|simp [Sy,Code.weight,Code.isCreation,Code.isGuard,Code.isCaller,Code.frames,Ts,guardIds]
theorem vO {A:Hc}{C:Fq} :(A.under (.builtin "type.__call__" #[.ref C::us,kw])).units=A.units+1:=by
 first|rfl|simp [Sy,Code.cUnits,Code.frames,Ts]
theorem bZ.make {k:FH}{A:Hc}(r:bZ (k+1) A) (C:Fq) (us:Fh Fp) (kw:Fh (FY×Fp)):bZ k (A.under (.builtin "type.__call__" #[.ref C::us,kw])):=
 #[r.hd,by have:=r.dp;rw[vC];lia,by have:=r.un;rw[vO];lia]
theorem bZ.depth {k:FH}{A:Hc}(r:bZ k A):A.depth<recursionLimit:=by have:=r.dp;lia
theorem bZ.units {k:FH}{A:Hc}(r:bZ k A):A.units+64<P4:=by have:=r.un;lia
def yK:TA:=λ_ H Q=>Q [] H
def tw (ta:TE) (tr:TA):TA:=λσ H Q=>ta σ H λx H1=>tr σ H1 λxs H2=>Q (x::xs) H2
section
variable {X:Cx}{e:HM}{es:Fh HM}{te:TE}{t:TA}{pos:Pos}
theorem ag:PA X [] yK:=λ_ _ _ _ H Q I h=>LL #[[],H,I, .nil,h]
theorem aa (ha:PE X e te) (hr:PA X es t) (hs:FU (e::es) X.env=[001]::FU es X.env:=by rfl):PA X (e::es) (tw te t):=by
 intro pos pins s σ H Q I h;rw[hs];show F4 _ _ (spliced ([001]::Jf pos (FU es X.env))) _ _ s;refine Lq (b9 (ha pins s σ H _ I h) λu s1 ⟨x,H1,I1,r1,q1⟩=>?_);exact b9 (hr pos pins s1 σ H1 _ I1 q1) λus s2 ⟨xs,H2,I2,r2,q2⟩=>#[x::xs,H2,I2, .cons r1 r2,q2]
def ak1 (t:TA):TE:=λσ H Q=>t σ H λxs H1=>xs.length<=Gk/\ ∀p,H1 p=FM->Q (.ref p) (aF H1 p (.tup xs))
inductive Cs (Q:VK) (xs:Fh V) (H1:Hp):Prop
 |mk (_:xs.length<=Gk) (_: ∀p,H1 p=FM->Q (.ref p) (aF H1 p (.lst xs))):Cs Q xs H1
def ak2 (t:TA):TE:=λσ H Q=>t σ H (Cs Q)
theorem AW {x1} (h:PA X es t):PE X (.Tuple es x1 pos) (ak1 t):=by
 intro pins s σ H Q I hq;refine wpAny_Tuple_spliced (b9 (h pos pins s σ H _ I hq) λus s1 ⟨xs,H1,I1,r,z,q⟩=>#[by rw[<-r.length];exact z,?_]);have hf:H1 s1.heap.objs.size=FM:=I1.IF.fresh (FN _);refine#[.ref s1.heap.objs.size,aF H1 s1.heap.objs.size (.tup xs),I1.laid (t':=s1.toks) (λb u e=>FJ _ e) (FN _) ?_,Go,q _ hf];exact#[z,us,r,#[_,Hk _ rfl,Go,_,Go]]
theorem hZ (h:PA X es t):PE X (.List es pos) (ak2 t):=by
 intro pins s σ H Q I hq;refine wpAny_List_spliced (b9 (h pos pins s σ H _ I hq) λus s1 ⟨xs,H1,I1,r,z,q⟩=>#[by rw[<-r.length];exact z,?_]);have hf:H1 s1.heap.objs.size=FM:=I1.IF.fresh (FN _);refine#[.ref s1.heap.objs.size,aF H1 s1.heap.objs.size (.lst xs),I1.laid (t':=s1.toks) (λb u e=>FJ _ e) (FN _) ?_,Go,q _ hf];exact#[z,us,0,r,Hk _ rfl]
end
theorem bV.mono {P:Gh}{w:GR}{K:Fm}{mg:FY->FA Fp}{base:Ha}{CX:pV}{j k:FH}{f:Fq}{fd:Gz}{ps:Fh FY}{sp:Sp}(F:bV P w K mg base CX j f fd ps sp) (h:j<=k):
  bV P w K mg base CX k f fd ps sp:=#[F.len,λA outer s H args us vs Q E hr=>F.run A outer s H args us vs Q E (hr.mono h)]
theorem bV.imp {P:Gh}{w:GR}{K:Fm}{mg:FY->FA Fp}{base:Ha}{CX:pV}{k:FH}{f:Fq}{fd:Gz}{ps:Fh FY}{sp sp':Sp}(F:bV P w K mg base CX k f fd ps sp)
  (h: ∀vs H Q E,sp' vs H Q E->sp vs H Q E):bV P w K mg base CX k f fd ps sp':=
 #[λvs H Q E q=>F.len vs H Q E (h _ _ _ _ q),λA outer s H args us vs Q E hr he hb hv hs=>F.run A outer s H args us vs Q E hr he hb hv (h _ _ _ _ hs)]
theorem wm.make {P:Gh}{w:GR}{K:Fm}{mg:FY->FA Fp}{base:Ha}{A:Hc}{s:Fw}{H:Hp}(e:wm P w K mg base A outer s H) (C:Fq) (us:Fh Fp) (kw:Fh (FY×Fp)):
  wm P w K mg base (A.under (.builtin "type.__call__" #[.ref C::us,kw])) outer s H:=#[by first|exact e.frames|(simpa [Sy,Code.envs,Ts,pushEnvs] using e.frames),e.mod,e.bs,e.Ve,e.funs,e.WQ,e.IF,e.bare]
section
variable {X:Cx}{pins:Fh (Fq×Jh)}{σ:St}{H:Hp}{s s':Fw}
theorem aE.aaK (I:aE X pins σ H s):wm X.prog X.w X.K X.mg X.base X.A X.stack s H:=
 #[I.ok.frames,I.ok.mod,I.bs,FV I.ok.Ve I.sz,I.stack,I.QS,I.IF,I.bare]
theorem aE.after {Q:VK}{u:Fp}(I:aE X pins σ H s) (h:CE X.stack X.prog X.w H s Q u s'):EP X pins σ Q u s':=by
 obtain⟨v,H',os,bare,un,IF,r,q⟩:=h;obtain⟨hh,g,d,t,os'⟩:=s';obtain rfl:os'=s.os:=os;exact#[v,H',I.call (h':=hh) (g':=g) (d':=d) (t':=t) (ch:=[]) un IF bare (λb z=>FP z (by simp)),r,q]
end
def Aq (sp:Sp) (RE:Fh V) (E:XK) (t:TA):TE:=λσ H Q=>t σ H λvs H1=>sp (vs++RE) H1 Q E
inductive Dx (C:Fq) (m:FY) (R:V->Hp->Prop) (x:V) (H1:Hp):Prop
 |mk (a dx:Fq) (fs:Fh (FY×V)) (_:x= .ref a) (_:H1 a=FB (.ins C dx fs)) (_:fs.lookup m=FM) (_:R x H1):Dx C m R x H1
def Yu (C:Fq) (m:FY) (sp:Sp) (RE:Fh V) (E:XK) (ta:TE) (t:TA):TE:=λσ H Q=>ta σ H (Dx C m (λx H1=>t σ H1 λvs H2=>sp (x::(vs++RE)) H2 Q E))
def Ce (C:Fq) (sp:Sp) (RE:Fh V) (E:XK) (t:TA):TE:=λσ H Q=>t σ H λvs H1=> ∀x dx,H1 x=FM->H1 dx=FM->dx≠x->
 sp (.ref x::(vs++RE)) (aF (aF H1 dx (.own x)) x (.ins C dx [])) (λv H2=>v= .IX/\Q (.ref x) H2) E
def dn (CX:pV) (X:Cx) (E:XK):Prop:= ∀(pins:Fh (Fq×Jh)) (σ:St) (H:Hp) (s:Fw) (e:Fp) (s':Fw),aE X pins σ H s->CX X.stack H s E e s'->X.xe e s'
section
variable {X:Cx}{CX:pV}{k:FH}{f C:Fq}{fd:Gz}{ps:Fh FY}{sp:Sp}{RE:Fh V}{ds:Fh Fp}{E:XK}{x m:FY}{p pos Ly:Pos}{e o:HM}{es:Fh HM}{ta:TE}{t:TA}
theorem qN {pins:Fh (Fq×Jh)}{σ:St}{H:Hp}{s:Fw}{Q:VK}(F:bV X.prog X.w X.K X.mg X.base CX k f fd ps sp) (hr:bZ k X.A) (hb:gu X.K fd ps ds) (hd:a8 RE ds) (hx:dn CX X E)
  (I:aE X pins σ H s) (r:a8 vs us) (h:sp (vs++RE) H Q E):F4 (model X.prog X.w) X.A (call (.ref f) us) (EP X pins σ Q) X.xe s:=by
 have r2:a8 (vs++RE) (us++ds):=r.append hd
 have hl:(us++ds).length=ps.length:=by rw[<-r2.length];exact F.len _ _ _ _ h
 refine QW (Nt (F.run X.A X.stack s H #[us,[]] (us++ds) (vs++RE) Q E hr I.aaK (hb s us I.NI hl) r2 h) λr s' hq=>?_);cases r with
 |error e=>exact hx pins σ H s e s' I hq
 |ok fl=>
  cases fl with
  |ret u=>exact I.after hq
  |next=>exact IZ hq
  |brk=>exact IZ hq
  |cont=>exact IZ hq
theorem aI (F:bV X.prog X.w X.K X.mg X.base CX k f fd ps sp) (hr:bZ k X.A) (hg:Gl X x) (d:CD X.K X.mg x f fd ps) (hx:dn CX X E)
  (ha:PA X (e::es) t) (Sj:(x == [003])=Gc:=by decide) (he:FU (e::es) X.env=[001]::FU es X.env:=by rfl) (M3:(Jf pos (FU es X.env)).any (·.1)=Gc:=by rfl):
  PE X (.Call (.Name x p) (e::es) [] pos) (Aq sp [] E t):=by
 rw[01];refine JQ (gc I hg d.m ?_ Sj);refine Ld (h₀:=X.base) I.ok.mod.VI d.k (b9 (ha pos pins s σ H _ I h) λus s1 ⟨vs,H1,I1,r,q⟩=>#[I1.NI,?_]) he M3;exact qN F hr d.b .nil hx I1 r q
theorem cB (he:PE X o ta) (c:gG X.K C) (d:MD X.K C m f fd ps) (F:bV X.prog X.w X.K X.mg X.base CX k f fd ps sp) (hr:bZ k X.A) (hx:dn CX X E) (ha:PA X (e::es) t)
  (KH:FU (e::es) X.env=[001]::FU es X.env:=by rfl) (M3:(Jf pos (FU es X.env)).any (·.1)=Gc:=by rfl)
  (ht:eval (.Call (.Attribute o m Ly) (e::es) [] pos) X.env=(do
   let ov<-eval o X.env
   standAt Ly.atName
   let (f,first)<-holding [ov] (Lu ov m pl)
   NS pos f first (Jf pos (FU (e::es) X.env)) (Lf pos (Jy [] X.env))):=by rfl):
  PE X (.Call (.Attribute o m Ly) (e::es) [] pos) (Yu C m sp [] E ta t):=by
 rw[01];refine LM (pl:=pl) (b9 (he pins s σ H _ I h) λu s1 ⟨x,H1,I1,rx,a,dx,fs,ex,ea,l,q⟩=>?_) ht;subst ex;obtain rfl:u=F9 a:=rx;refine mY I1 ea c d.m l ?_;refine Ld (first:=[.ref a]) (h₀:=X.base) I.ok.mod.VI d.m.kp (b9 (ha pos pins s1 σ H1 _ I1 q) λus s2 ⟨vs,H2,I2,r,q2⟩=>#[I2.NI,?_]) KH M3
 exact qN (us:= .ref a::us) (vs:= .ref a::vs) F hr d.b .nil hx I2 (.cons rfl r) q2
theorem bS (he:PE X o ta) (c:gG X.K C) (d:MD X.K C m f fd ps) (F:bV X.prog X.w X.K X.mg X.base CX k f fd ps sp) (hr:bZ k X.A) (hx:dn CX X E)
  (ht:eval (.Call (.Attribute o m Ly) [] [] pos) X.env=(do
   let ov<-eval o X.env
   standAt Ly.atName
   let (f,first)<-holding [ov] (Lu ov m pl)
   NS pos f first (Jf pos (FU [] X.env)) (Lf pos (Jy [] X.env))):=by rfl):
  PE X (.Call (.Attribute o m Ly) [] [] pos) (Yu C m sp [] E ta yK):=by
 rw[01];refine LM (pl:=pl) (b9 (he pins s σ H _ I h) λu s1 ⟨x,H1,I1,rx,a,dx,fs,ex,ea,l,q⟩=>?_) ht;subst ex;obtain rfl:u=F9 a:=rx;refine mY I1 ea c d.m l ?_;exact OB (first:=[.ref a]) I1.NI d.m.kp (qN (us:=[.ref a]) (vs:=[.ref a]) F hr d.b .nil hx I1 (.cons rfl .nil) q)
theorem sx {pins:Fh (Fq×Jh)}{σ:St}{H:Hp}{s:Fw}{Q:VK}(M:Mk X.K C f) (F:bV X.prog X.w X.K X.mg X.base CX k f fd ps sp) (hr:bZ (k+1) X.A) (hb:gu X.K fd ps ds) (hd:a8 RE ds)
  (hx:dn CX X E) (I:aE X pins σ H s) (r:a8 vs us)
  (h: ∀x dx,H x=FM->H dx=FM->dx≠x->sp (.ref x::(vs++RE)) (aF (aF H dx (.own x)) x (.ins C dx [])) (λv H2=>v= .IX/\Q (.ref x) H2) E):
  F4 (model X.prog X.w) X.A (call (.ref C) us) (EP X pins σ Q) X.xe s:=by
 have hq:=h (s.heap.objs.size+1) s.heap.objs.size (I.IF.fresh (LI _)) (I.IF.fresh (FN _)) (Hi (HQ _))
 have I2:=aE.made (C:=C) I
 have r2:a8 (V.ref (s.heap.objs.size+1)::(vs++RE)) (F9 (s.heap.objs.size+1)::(us++ds)):= .cons rfl (r.append hd)
 have hl:(F9 (s.heap.objs.size+1)::us++ds).length=ps.length:=by
  have e:=r2.length;rw[F.len _ _ _ _ hq] at e;exact e.symm
 refine QW (AD (f:=f) I.NI M.makes M.init (beq_iff_eq.mp M.fn) (Nt (F.run _ X.stack _ _ #[F9 (s.heap.objs.size+1)::us,[]] (F9 (s.heap.objs.size+1)::(us++ds)) _ _ E (hr.make C us [])
  (I2.aaK.make C us []) (hb _ (F9 (s.heap.objs.size+1)::us) I2.NI hl) r2 hq) λr s' US=>?_))
 cases r with
 |error e=>exact hx pins σ _ _ e s' I2 US
 |ok fl=>
  cases fl with
  |ret u=>
   obtain⟨v,H',I3,rv,ev,q3⟩:=I2.after US;subst ev;exact#[rv,#[V.ref (s.heap.objs.size+1),H',I3,Go,q3]]
  |next=>exact IZ US
  |brk=>exact IZ US
  |cont=>exact IZ US
theorem g7 (M:Mk X.K C f) (F:bV X.prog X.w X.K X.mg X.base CX k f fd ps sp) (hr:bZ (k+1) X.A) (hg:Gl X x) (hm:X.mg x=FB (.ref C)) (hb:gu X.K fd ps ds) (hd:a8 RE ds) (hx:dn CX X E)
  (ha:PA X (e::es) t) (Sj:(x == [003])=Gc:=by decide) (he:FU (e::es) X.env=[001]::FU es X.env:=by rfl) (M3:(Jf pos (FU es X.env)).any (·.1)=Gc:=by rfl):
  PE X (.Call (.Name x p) (e::es) [] pos) (Ce C sp RE E t):=by
 rw[01];refine JQ (gc I hg hm ?_ Sj);refine Ld (h₀:=X.base) I.ok.mod.VI M.kp (b9 (ha pos pins s σ H _ I h) λus s1 ⟨vs,H1,I1,r,q⟩=>#[I1.NI,?_]) he M3;exact sx M F hr hb hd hx I1 r q
theorem Ba (M:Mk X.K C f) (F:bV X.prog X.w X.K X.mg X.base CX k f fd ps sp) (hr:bZ (k+1) X.A) (hg:Gl X x) (hm:X.mg x=FB (.ref C)) (hb:gu X.K fd ps ds) (hd:a8 RE ds) (hx:dn CX X E)
  (Sj:(x == [003])=Gc:=by decide):PE X (.Call (.Name x p) [] [] pos) (Ce C sp RE E yK):=by
 rw[01];refine JQ (gc I hg hm ?_ Sj);exact OB I.NI M.kp (sx (us:=[]) M F hr hb hd hx I .nil h)
end
structure ay (N P:Fh FY) (sc:Scope):Prop where
 kind:sc.kind= .function
 co:sc.isCoroutine=Gc
 gen:sc.isGenerator=Gc
 nd:N.Nodup
 pre:N.take P.length=P
 par: ∀x∈P,sc.names.lookup x=FB .local\/sc.names.lookup x=FB .cell
 aaL: ∀y∈sc.names,y.2≠ .free
theorem qi {kindOf:FY->FA J4}{x:FY} : ∀ {binds:Fh (FY×Fp)}{m:FY->FA Fp},(∀v,(x,v)∉binds)->VG kindOf binds m x=m x
 |[],_,_=>rfl
 | (n,v)::r,m,h=>by
  unfold VG;rw[qi λw hw=>h w (Fx _ hw)];split
  ·have:x≠n:=by rintro rfl;exact h v Fy
   simp [this]
  ·rfl
theorem pF {kindOf:FY->FA J4}{x:FY} : ∀ {binds:Fh (FY×Fp)}{m:FY->FA Fp},(∀v,(x,v)∉binds)->VH kindOf binds m x=m x
 |[],_,_=>rfl
 | (n,v)::r,m,h=>by
  unfold VH;rw[pF λw hw=>h w (Fx _ hw)];split
  ·rfl
  ·have:x≠n:=by rintro rfl;exact h v Fy
   simp [this]
theorem qw {kindOf:FY->FA J4}{x:FY}{v:Fp} : ∀ {P:Fh FY}{vs:Fh Fp}{i:FH}{m:FY->FA Fp},P.Nodup->P[i]?=FB x->vs[i]?=FB v->kindOf x=FB .local->
  VG kindOf (P.zip vs) m x=FB v
 |[],_,_,_,_,h,_,_=>by simp at h
 |_::_,[],_,_,_,_,h,_=>by simp at h
 |p::P,w::vs,0,m,nd,h1,h2,hk=>by
  simp at h1 h2;subst h1;subst h2;show VG kindOf ((p,w)::P.zip vs) m p=_;unfold VG;rw[qi λv hv=>(Gu.mp nd).1 (Lr hv).1,Fv hk];simp
 |p::P,w::vs,i+1,m,nd,h1,h2,hk=>by
  show VG kindOf ((p,w)::P.zip vs) m x=_
  unfold VG;exact qw (i:=i) (Gu.mp nd).2 (by simpa using h1) (by simpa using h2) hk
theorem pT {kindOf:FY->FA J4}{x:FY}{v:Fp} : ∀ {P:Fh FY}{vs:Fh Fp}{i:FH}{m:FY->FA Fp},P.Nodup->P[i]?=FB x->vs[i]?=FB v->kindOf x≠FB .local->
  VH kindOf (P.zip vs) m x=FB v
 |[],_,_,_,_,h,_,_=>by simp at h
 |_::_,[],_,_,_,_,h,_=>by simp at h
 |p::P,w::vs,0,m,nd,h1,h2,hk=>by
  simp at h1 h2;subst h1;subst h2;show VH kindOf ((p,w)::P.zip vs) m p=_;unfold VH;rw[pF λv hv=>(Gu.mp nd).1 (Lr hv).1,Fs hk];simp
 |p::P,w::vs,i+1,m,nd,h1,h2,hk=>by
  show VH kindOf ((p,w)::P.zip vs) m x=_
  unfold VH;exact pT (i:=i) (Gu.mp nd).2 (by simpa using h1) (by simpa using h2) hk
def start (N:Fh FY) (vs:Fh V):St:=vs.map FB++Jt (N.length-vs.length) FM
def fi (CX:pV) (P:Gh) (w:GR) (K:Fm) (mg:FY->FA Fp) (base:Ha) (N:Fh FY) (Hl:FY) (scope:Scope) (f:Fq) (cd:Fp) (A:Hc) (outer:Fh Env) (s:Fw) (H:Hp) (E:XK):Cx where
 prog:=P
 w:=w
 K:=K
 mg:=mg
 base:=base
 A:=A.deeper (JR Hl scope s.heap.objs.size f cd)
 N:=N
 P6:=s
 H_0:=H
 env:=JR Hl scope s.heap.objs.size f cd
 outer:=outer
 stack:=JR Hl scope s.heap.objs.size f cd::outer
 ex:=[]
 calm:=FS
 fn:=λ_=>FS
 pn:=[]
 xe:=λe s'=>F4 (model P w) (A.deeper (JR Hl scope s.heap.objs.size f cd)) (leaving (JR Hl scope s.heap.objs.size f cd) e) (λ_ s''=>CX outer H s E e s'') (λe' s''=>CX outer H s E e' s'') s'
theorem sF {sc:Scope}{n:FH}{x:FY}(h:sc.names.lookup x=FB .cell): ∃c,(Ir n sc.names []).lookup x=FB c:=by
 have q:=RO sc.names n [] (.inl h);exact K8.mp q
theorem yr {CX:pV}{P:Gh}{w:GR}{K:Fm}{mg:FY->FA Fp}{base:Ha}{N ps:Fh FY}{Hl:FY}{scope:Scope}{f:Fq}{cd:Fp}{A:Hc}{outer:Fh Env}{s s1:Fw}{H:Hp}{E:XK}{us:Fh Fp}{vs:Fh V}
  (S:ay N ps scope) (hd:A.handled=FM) (e0:wm P w K mg base A outer s H) (hl:vs.length=ps.length) (r:a8 vs us)
  (x:InCallC s s.heap.objs.size (VG (JR Hl scope s.heap.objs.size f cd).kindOf [018] λ_=>FM) (Ir (s.heap.objs.size+1) scope.names []) (VH (JR Hl scope s.heap.objs.size f cd).kindOf [018] λ_=>FM) s1):
  aE (fi CX P w K mg base N Hl scope f cd A outer s H E) [] (start N vs) H s1:=by
 have M3:ps.length<=N.length:=by have:=Gx OL S.pre;rw[QO] at this;lia
 obtain⟨h1,tk,rfl,hk⟩:=x.done;have noA: ∀b:Fq,b∉(fi CX P w K mg base N Hl scope f cd A outer s H E).ex:=λb z=>FP (show b∈([]:Fh Fq) from z) (by simp)
 refine#[#[e0.mod,S.kind,Go,Go,FN _,λy z c h1 h2=>?_,λy hy=>?_,λy c _ h=>?_,λ_=>hd,Hc.frames_deeper e0.frames, .inr #[Go,Go],λb z=>FP z (noA b),e0.bs,e0.Ve,λb _ _=>noA b,λb z=>FP z (noA b),e0.funs,e0.WQ],
  rfl,e0.bare,Un.kept hk,#[_,x.toInCall.ns,λi y v h1 h2 h3=>?_],λy c h=>#[_,x.cell y c h],e0.IF.fresh (FN _),λy c h=>?_,λp hp=>FP (show p∈([]:Fh (Fq×Jh)) from hp) (by simp),e0.IF.kept hk,?_]
 ·exact name_of_addr x.apart (G6 h1) (G6 h2)
 ·have hy:scope.names.lookup y=FB .cell\/scope.names.lookup y=FB .free:=hy
  rcases hy with hy|hy
  ·exact sF hy
  ·exact FP rfl (S.aaL _ (G6 hy))
 ·exact K3 (x.above y c (G6 h))
 ·have hi:i<vs.length:=by
   unfold start at h2;by_cases hi:i<vs.length
   ·exact hi
   ·rw[Fh.getElem?_append_right (by simpa using hi)] at h2
    rw[LC] at h2;split at h2<;>cases h2
  have ha:vs[i]?=FB v:=by
   unfold start at h2;rw[RK (by simpa using hi),GB] at h2;cases e:vs[i]? with
   |none=>rw[e] at h2;cases h2
   |some a=>rw[e] at h2;cases h2;rfl
  obtain⟨u,hu,rv⟩:=r.get ha;have hp:ps[i]?=FB y:=by
   rw[<-S.pre,Fh.getElem?_take_of_lt (by lia)];exact h1
  have ndP:ps.Nodup:=by rw[<-S.pre];exact S.nd.sublist (Fh.take_sublist _ _)
  refine#[u,rv,?_];rcases S.par y (Hg hp) with k|k
  ·exact .inl #[k,qw ndP hp hu k]
  ·obtain⟨c,e⟩:=sF (n:=s.heap.objs.size+1) k
   refine .inr #[.inl k,c,e,?_];have q:=x.cell y c e;rw[pT ndP hp hu (by show scope.names.lookup y≠_;rw[k];decide)] at q;exact q
 ·exact e0.IF.fresh (K3 (x.above y c (G6 h)))
 ·unfold start
  show _=N.length
  rw[FR,FE,Ox];lia
theorem Yv {CX:pV}{P:Gh}{w:GR}{K:Fm}{mg:FY->FA Fp}{base:Ha}{k:FH}{f:Fq}{name Hl:FY}{params:Arguments}{body:Fh Stmt}{scope:Scope}{dV kV doc pm Hb ct oc:Fp}{an od:FA Fq}
  {WR:JE (FA Fp)}{N ps:Fh FY}{sp:Sp}(lk:K.lookup f=FB #[oc,od, .func (Iy name Hl params body scope dV kV doc pm an Hb ct),WR]) (SN:LD K Hb Hl=FS) (S:ay N ps scope)
  (len: ∀vs H Q E,sp vs H Q E->vs.length=ps.length)
  (JO: ∀(A:Hc) (outer:Fh Env) (s:Fw) (H:Hp) (vs:Fh V) (Q:VK) (E:XK),bZ k (A.deeper (JR Hl scope s.heap.objs.size f Hb))->sp vs H Q E->
   Bd (fi CX P w K mg base N Hl scope f Hb A outer s H E) body { nx:=λ_ H'=>Q .IX H',rt:=Q } (start N vs) H):
  bV P w K mg base CX (k+1) f (Iy name Hl params body scope dV kV doc pm an Hb ct) ps sp:=by
 refine#[len,λA outer s H args us vs Q E hr e0 hb r T5=>?_];have hl:=len _ _ _ _ T5;have KX:K.In s.heap:=e0.mod.VI.keeps λb o e=>(e0.bs b o e).1
 have lim:s.heap.NoLimit:=e0.mod.nolimit.keeps λb o e=>(e0.bs b o e).1
 have afP: ∀y∈ps.zip us,scope.names.lookup y.1=FB .local\/(scope.names.lookup y.1=FB .cell/\((Ir (s.heap.objs.size+1) scope.names []).lookup y.1).isSome=FS):=λ⟨n,v⟩ hy=>by
  rcases S.par n (Lr hy).1 with q|q
  ·exact .inl q
  ·exact .inr #[q,RO _ _ _ (.inl q)]
 refine codeAny_call_function hr.depth (KX _ _ lk) rfl S.co S.gen rfl (PySem.W.codeRec_of KX SN) (hb _ _ _ _ ?_);refine wpAny_newFunctionEnv_cells S.kind afP λenv he s1 x=>?_;subst he;refine#[lim.keeps x.toInCall.keep,codeAny_func ?_];obtain⟨t,ht,hq⟩:=JO A outer s H vs Q E (hr.deeper _) T5;have I:aE (fi CX P w K mg base N Hl scope f Hb A outer s H E) [] (start N vs) H s1:=yr S hr.hd e0 hl r x;refine IS (ht [] s1 (start N vs) H _ I hq) (λfl s' hs=>?_) λe s' hs=>hs;have eN: ∀ {σ':St}{H':Hp}{v:V}{u:Fp},aE (fi CX P w K mg base N Hl scope f Hb A outer s H E) [] σ' H' s'->br v u->Q v H'->CE outer P w H s Q u s':=
  λ{σ' H' v u} J rv q=>#[v,H',J.os,J.bare,J.base,J.IF,rv,q]
 cases fl with
 |ret u=>
  obtain⟨v,σ',H',J,rv,q⟩:=hs;exact eN J rv q
 |next=>
  obtain⟨σ',H',J,q⟩:=hs;exact eN (v:=V.IX) (u:=Ih) J rfl q
 |brk=>
  obtain⟨_,_,_,q⟩:=hs;exact IZ q
 |cont=>
  obtain⟨_,_,_,q⟩:=hs;exact IZ q
section
variable {X:Cx}{x:FY}{p pos:Pos}{e:HM}{es:Fh HM}{t:TA}{id T:String}{r:Fh V->Hp->VK->Prop}
def tCB (r:Fh V->Hp->VK->Prop) (t:TA):TE:=λσ H Q=>t σ H λvs H1=>r vs H1 Q
theorem aY (hc:gV X (.builtin id) r) (hg:Gl X x) (hm:X.mg x=FM) (hv:Lo x=FB (.builtin id)) (ha:PA X (e::es) t) (hn:x≠"__name__":=by decide) (Sj:(x == [003])=Gc:=by decide)
  (he:FU (e::es) X.env=[001]::FU es X.env:=by rfl) (M3:(Jf pos (FU es X.env)).any (·.1)=Gc:=by rfl):PE X (.Call (.Name x p) (e::es) [] pos) (tCB r t):=by
 rw[01];refine JQ (kT I hg hm hv ?_ hn Sj);exact OH (b9 (ha pos pins s σ H _ I h) λus s1 ⟨vs,H1,I1,r1,q1⟩=>hc pins s1 σ H1 vs us Q I1 r1 q1) he M3
theorem i5 (hc:gV X (.type T) r) (hg:Gl X x) (hm:X.mg x=FM) (hv:Lo x=FB (.type T)) (ha:PA X (e::es) t) (hn:x≠"__name__":=by decide) (Sj:(x == [003])=Gc:=by decide)
  (he:FU (e::es) X.env=[001]::FU es X.env:=by rfl) (M3:(Jf pos (FU es X.env)).any (·.1)=Gc:=by rfl):PE X (.Call (.Name x p) (e::es) [] pos) (tCB r t):=by
 rw[01];refine JQ (kT I hg hm hv ?_ hn Sj);exact J9 (b9 (ha pos pins s σ H _ I h) λus s1 ⟨vs,H1,I1,r1,q1⟩=>hc pins s1 σ H1 vs us Q I1 r1 q1) he M3
end
end L2
namespace HT
open PySem PyProof.Rows
section
variable {prog:Gh}{w:GR}{A:Hc}{E:Fp->Fw->Prop}{s:Fw}
def TH (n d:FH):FA Int->FH
 |none=>d
 |some v=>if v<0 then(v+(n:Int)).toNat else min v.toNat n
theorem UT (n d k:FH):TH n d (FB (k:Int))=min k n:=by
 show(if(k:Int)<0 then((k:Int)+(n:Int)).toNat else min (k:Int).toNat n)=min k n
 rw[Fs (by lia),WD]
end
end HT
namespace L2
open PySem PySem.Spec PyProof.Rows
abbrev TO:=St->Hp->(FA Int->Hp->Prop)->Prop
def PO (X:Cx) (e:FA HM) (t:TO):Prop:=
 ∀(pins:Fh (Fq×Jh)) (s:Fw) (σ:St) (H:Hp) (Q:FA Int->Hp->Prop),aE X pins σ H s->t σ H Q->
  F4 (model X.prog X.w) X.A (evalPart e X.env) (λu s'=> ∃o H',aE X pins σ H' s'/\IsPart u o/\Q o H') X.xe s
def afQ (t:TE):TO:=λσ H Q=>t σ H λx H1=> ∃i,x= .int i/\Q (FB i) H1
section
variable {X:Cx}{e:HM}{te:TE}{lo hi:FA HM}{tl th:TO}{pos p2:Pos}
theorem jf (h:PE X e te):PO X (FB e) (afQ te):=by
 intro pins s σ H Q I hw;rw[evalPart_some];refine b9 (h pins s σ H _ I hw) λu s1 ⟨x,H1,I1,r1,q1⟩=>?_;obtain⟨i,rfl,q⟩:=q1;obtain⟨t,rfl⟩:=r1;exact#[FB i,H1,I1, .int i t,q]
def SlR (X:Cx) (r:V->FA Int->FA Int->Hp->VK->Prop):Prop:=
 ∀(pins:Fh (Fq×Jh)) (s:Fw) (σ:St) (H:Hp) (x:V) (v vl vu:Fp) (lo hi:FA Int) (sl:Fq) (Q:VK),aE X pins σ H s->br x v->s.heap.IsSliceOf sl vl vu .none->IsPart vl lo->IsPart vu hi->r x lo hi H Q->
  ∃T id,HZ (.type T) "__getitem__"=pure (FB (.builtin id))/\s.TypeIs v T/\F4 (model X.prog X.w) X.A (Tt v (.ref sl)) (EP X pins σ Q) X.xe s
def tSl (r:V->FA Int->FA Int->Hp->VK->Prop) (te:TE) (tl th:TO):TE:=λσ H Q=>te σ H λx H1=>tl σ H1 λl H2=>th σ H2 λu H3=>r x l u H3 Q
theorem nZ {r:V->FA Int->FA Int->Hp->VK->Prop}(hr:SlR X r) (he:PE X e te) (hl:PO X lo tl) (hu:PO X hi th):PE X (.Subscript e (.Slice lo hi FM p2) pos) (tSl r te tl th):=by
 rw[01];refine Zk (b9 (he pins s σ H _ I h) λv s1 ⟨x,H1,I1,r1,q1⟩=>?_);refine wpAny_Slice (b9 (hl pins s1 σ H1 _ I1 q1) λvl s2 ⟨l,H2,I2,pl,q2⟩=>b9 (hu pins s2 σ H2 _ I2 q2) λvu s3 ⟨u,H3,I3,pu,q3⟩=>?_);rw[evalPart_none];refine Gb ?_;have I4:aE X pins σ H3 { s3 with heap:=s3.heap.push { cls:= .type "slice",data:= .fields [vl,vu, .none].toArray } } :=I3.kept (t':=s3.toks) λb ob q=>FJ _ q
 obtain⟨T,id,hT,ht,hg⟩:=hr pins { s3 with heap:=s3.heap.push { cls:= .type "slice",data:= .fields [vl,vu, .none].toArray } } σ H3 x v vl vu l u s3.heap.objs.size Q I4 r1 (abX ..) pl pu q3;show F4 (model X.prog X.w) X.A (U7 e (.Slice lo hi FM p2) v (.ref s3.heap.objs.size)) (EP X pins σ Q) X.xe { s3 with heap:=s3.heap.push { cls:= .type "slice",data:= .fields [vl,vu, .none].toArray } };exact tail_any (ops:=[.ref s3.heap.objs.size,v]) ht hT hg (by with_unfolding_all rfl)
def vi (xs:Fh V) (lo hi:FA Int):Fh V:=(xs.drop (HT.TH xs.length 0 lo)).take (HT.TH xs.length xs.length hi-HT.TH xs.length 0 lo)
theorem tO (xs:Fh V) (lo hi:FA Int):(vi xs lo hi).length<=xs.length:=by
 unfold vi;rw[QO,Me];lia
end
def Yw (n:FH) (i:Int):FA FH:=if 0<=i then(if i<n then FB i.toNat else FM) else if-(n:Int)<=i then FB (i+n).toNat else FM
def Ab {α:Type}(xs:Fh α) (i:Int):FA α:=(Yw xs.length i).bind λj=>xs[j]?
theorem EW {i:Int}(h:Yw n i=FB j):seqIndex? i n=FB j/\j<n/\ -(n:Int)<=i/\i<n:=by
 unfold Yw at h;by_cases h0:0<=i
 ·rw[Fv h0] at h
  by_cases h1:i<n
  ·rw[Fv h1] at h
   have e:i.toNat=j:=FL h;exact#[by rw[seqIndex_of h0 h1,e],by lia,by lia,h1]
  ·rw[Fs h1] at h;cases h
 ·rw[Fs h0] at h
  by_cases h1: -(n:Int)<=i
  ·rw[Fv h1] at h
   have e:(i+n).toNat=j:=FL h;exact#[by rw[seqIndex_neg (by lia) h1,e],by lia,h1,by lia]
  ·rw[Fs h1] at h;cases h
theorem qB {α:Type}{xs:Fh α}{i:Int}{v:α}(h:Ab xs i=FB v): ∃j,seqIndex? i xs.length=FB j/\xs[j]?=FB v/\j<xs.length/\ -(xs.length:Int)<=i/\i<xs.length:=by
 unfold Ab at h;cases e:Yw xs.length i with
 |none=>rw[e] at h;cases h
 |some j=>
  rw[e] at h;obtain⟨h1,h2,h3,h4⟩:=EW e;exact#[j,h1,h,h2,h3,h4]
theorem bB {α:Type}{xs:Fh α}{j:FH}{v:α}(h:xs[j]?=FB v):Ab xs (j:Int)=FB v:=by
 have hj:j<xs.length:=(Gq.mp h).1
 have e:Yw xs.length (j:Int)=FB j:=by
  unfold Yw;rw[Fv (by lia),Fv (by lia)];simp
 unfold Ab;rw[e];exact h
theorem eG {α:Type}(xs:Fh α) (v:α):Ab (xs++[v]) (-1)=FB v:=by
 have hl:(xs++[v]).length=xs.length+1:=by simp
 have e:Yw (xs++[v]).length (-1)=FB xs.length:=by
  unfold Yw;rw[hl,Fs [01],Fv (by lia)]
  congr 1
  lia
 unfold Ab;rw[e];show(xs++[v])[xs.length]?=FB v;simp
def qJ (b:HM):Prop:= ∀o i,subscripted b Gc o i=operate [o,i] (Tt o i)
def IxR (X:Cx) (r:R2):Prop:=
 ∀(Kx slice:HM) (pins:Fh (Fq×Jh)) (s:Fw) (σ:St) (H:Hp) (x y:V) (v u:Fp) (Q:VK),aE X pins σ H s->br x v->br y u->r x y H Q->
  subscripted slice Gc v u=operate [v,u] (Tt v u)->F4 (model X.prog X.w) X.A (U7 Kx slice v u) (EP X pins σ Q) X.xe s
def MtR (X:Cx) (id:String) (r:V->Fh V->Hp->VK->Prop):Prop:=
 ∀(pins:Fh (Fq×Jh)) (s:Fw) (σ:St) (H:Hp) (x:V) (xs:Fh V) (v:Fp) (us:Fh Fp) (Q:VK),aE X pins σ H s->br x v->a8 xs us->r x xs H Q->
  F4 (model X.prog X.w) X.A (call (.builtin id) (v::us)) (EP X pins σ Q) X.xe s
section
variable {X:Cx}{a b:HM}{ta tb:TE}{pos:Pos}
theorem cN {r:R2}(hr:IxR X r) (ha:PE X a ta) (hb:PE X b tb) (hs:qJ b):PE X (.Subscript a b pos) (Yt r ta tb):=by
 rw[01];exact Zk (aaF ha hb I h λv u s2 x y H2 I2 rx ry q=>hr a b pins s2 σ H2 x y v u Q I2 rx ry q (hs _ _))
inductive CV (K:Fm) (x:V) (y:V) (H:Hp) (Q:VK):Prop
 |mk (p:Fq) (xs:Fh V) (i:Int) (v:V) (_:x= .ref p) (_:y= .int i) (_:cw K H p xs) (_:Ab xs i=FB v) (_:Q v H):CV K x y H Q
inductive afR (K:Fm) (x:V) (y:V) (H:Hp) (Q:VK):Prop
 |mk (p:Fq) (xs:Fh V) (i:Int) (v:V) (_:x= .ref p) (_:y= .int i) (_:rc K H p xs) (_:Ab xs i=FB v) (_:Q v H):afR K x y H Q
inductive afS (x:V) (y:V) (H:Hp) (Q:VK):Prop
 |mk (z:FY) (i:Int) (c:FH) (_:x= .str z) (_:y= .int i) (_:z.length<=Gk) (_:Ab z.cps.toList i=FB c) (_:Q (.str ⟨[c].toArray⟩) H):afS x y H Q
theorem bG:IxR X (CV X.K):=by
 intro Kx slice pins s σ H x y v u Q I rx ry h hs;obtain⟨p,xs,i,z,rfl,rfl,hq,he,q⟩:=h;cases rx;obtain⟨t,rfl⟩:=ry;obtain⟨HR,r,pl,hz⟩:=I.list hq;obtain⟨j,h1,h2,h3,h4,h5⟩:=qB he;obtain⟨w,ew,Ug⟩:=r.get h2;have hl:=r.length;have hn:=qS;have eN:EP X pins σ Q w s:=#[z,H,I,Ug,q];by_cases h0:0<=i
 ·have hj:i.toNat=j:=by
   rw[seqIndex_of h0 h5] at h1;exact FL h1
  exact item_listR pl.isList h0 (by lia) (by rw[hj];simpa using ew) eN hs
 ·have hj:(i+(HR.toArray.size:Int)).toNat=j:=by
   rw[seqIndex_neg (by lia) h4] at h1;rw[Gy,<-hl];exact FL h1
  exact VO (x:=w) pl.isList.typeIs slot_list_getitem.lookup
   (wpAny_getItem_list_neg (Q:=λr s'=>r=w/\EP X pins σ Q r s') pl.isList (by lia) (by rw[Gy]<;>lia) (by lia) (by rw[hj];simpa using ew) #[Go,eN]) hs
theorem aaM:IxR X (afR X.K):=by
 intro Kx slice pins s σ H x y v u Q I rx ry h hs;obtain⟨p,xs,i,z,rfl,rfl,hq,he,q⟩:=h;cases rx;obtain⟨t,rfl⟩:=ry;obtain⟨HR,r,pl,hz⟩:=I.tuple hq;obtain⟨j,h1,h2,h3,h4,h5⟩:=qB he;obtain⟨w,ew,Ug⟩:=r.get h2;have hl:=r.length;have hn:=qS;have eN:EP X pins σ Q w s:=#[z,H,I,Ug,q];exact VO (x:=w) pl.typeIs slot_tuple_getitem.lookup
  (getItem_tuple (j:=j) (Q:=λr s'=>r=w/\EP X pins σ Q r s') pl (by lia) (by lia) (by rw[Gy,<-hl];exact h1) (by simpa using ew) #[Go,eN]) hs
theorem aaN:IxR X afS:=by
 intro Kx slice pins s σ H x y v u Q I rx ry h hs;obtain⟨z,i,c,rfl,rfl,hz,he,q⟩:=h;obtain⟨t,rfl⟩:=rx;obtain⟨t',rfl⟩:=ry;obtain⟨j,h1,h2,h3,h4,h5⟩:=qB he;have hl:z.cps.toList.length=z.length:=by simp [FY.length]
 rw[hl] at h1 h4 h5;have hn:=qS;exact tail_any (Zl s z t) slot_str_getitem.lookup (getItem_str (c:=c) (by
  have e1:decide (i< -(2 ^ 63:Int))=Gc:=Gg (by lia)
  have e2:decide (i ≥ 2 ^ 63)=Gc:=Gg (by lia);rw[e1,e2,Pk]) (by rw[h1];simpa using h2) #[.str #[[c].toArray],H,I.tok _,#[_,Go],q]) hs
theorem rM (lo hi:FA Int) (n:FH):(MW lo hi FM n).1=((HT.TH n 0 lo:FH):Int)/\(MW lo hi FM n).2.1=((HT.TH n n hi:FH):Int)/\(MW lo hi FM n).2.2=1:=by
 refine#[?_,?_,Go]
 ·cases lo with
  |none=>simp [MW,HT.TH]
  |some i=>
   simp only[MW,HT.TH,Vz,show(1:Int)>0 by decide,Tu];by_cases h:i<0
   ·simp only[h,Tu]<;>lia
   ·simp only[h,MX]<;>lia
 ·cases hi with
  |none=>simp [MW,HT.TH]
  |some i=>
   simp only[MW,HT.TH,Vz,show(1:Int)>0 by decide,Tu];by_cases h:i<0
   ·simp only[h,Tu]<;>lia
   ·simp only[h,MX]<;>lia
theorem pf (HR:Fh Fp) (lo hi:FA Int):slicePick HR.toArray lo hi FM=((HR.drop (HT.TH HR.length 0 lo)).take (HT.TH HR.length HR.length hi-HT.TH HR.length 0 lo)).toArray:=by
 obtain⟨h1,h2,h3⟩:=rM lo hi HR.toArray.size;unfold slicePick;rw[h1,h2,h3];simp only[sliceRange_one,pick_run,Gy]<;>rfl
def ak3 (K:Fm):V->FA Int->FA Int->Hp->VK->Prop:=λx lo hi H Q=> ∃a xs,x= .ref a/\cw K H a xs/\ ∀p,H p=FM->Q (.ref p) (aF H p (.lst (vi xs lo hi)))
theorem rK:SlR X (ak3 X.K):=by
 intro pins s σ H x v vl vu lo hi sl Q I rx hs pl pu h;obtain⟨a,xs,rfl,hx,q⟩:=h;cases rx;obtain⟨HR,r,ht,hz⟩:=I.list hx;have NJ:=r.length;refine#["list",_,slot_list_getitem.lookup,ht.isList.typeIs,?_];refine wpAny_getItem_list_slice ht.isList hs pl pu .none (by simp) ?_ (by rw[Gy]<;>lia);rw[pf,<-NJ];refine#[.ref s.heap.objs.size,_,I.laid (t':=s.toks) (o:= .lst (vi xs lo hi)) (λb ob q=>FJ _ q) (FN _) ?_,Go,q _ (I.IF.fresh (FN _))];exact#[FV (tO xs lo hi) hz,_,0,(r.drop (HT.TH xs.length 0 lo)).take (HT.TH xs.length xs.length hi-HT.TH xs.length 0 lo),Hk _ rfl]
def jv:V->GA
 | .IX=>FS
 | .bl _=>FS
 | .int _=>FS
 | .str _=>FS
 |_=>Gc
def Fd:V->V->GA
 | .IX, .IX=>FS
 | .bl a, .bl b=>a == b
 | .bl a, .int b=>(if a then 1 else 0) == b
 | .int a, .bl b=>a == (if b then 1 else 0)
 | .int a, .int b=>a == b
 | .str a, .str b=>a == b
 |_,_=>Gc
theorem aaO {A:Hc}{s:Fw}{y x:V}{u v:Fp}(ry:br y u) (rx:br x v) (fy:jv y=FS) (fx:jv x=FS):SeqAt.EqAt A s u v (Fd y x):=by
 cases y with
 |IX=>
  cases ry;cases x with
  |IX=>cases rx;exact SeqAt.EqAt.same _
  |bl b=>cases rx;exact SeqAt.EqAt.none_bool b
  |int b=>obtain⟨t,rfl⟩:=rx;exact SeqAt.EqAt.none_int b t
  |str b=>obtain⟨t,rfl⟩:=rx;exact SeqAt.EqAt.none_str b t
  |_=>exact FP (show Gc=FS from fx) Fl
 |bl a=>
  cases ry;cases x with
  |IX=>cases rx;exact SeqAt.EqAt.bool_none a
  |bl b=>cases rx;exact SeqAt.EqAt.bool_bool a b
  |int b=>obtain⟨t,rfl⟩:=rx;exact SeqAt.EqAt.bool_int a b t
  |str b=>obtain⟨t,rfl⟩:=rx;exact SeqAt.EqAt.bool_str a b t
  |_=>exact FP (show Gc=FS from fx) Fl
 |int a=>
  obtain⟨t',rfl⟩:=ry;cases x with
  |IX=>cases rx;exact SeqAt.EqAt.int_none a t'
  |bl b=>cases rx;exact SeqAt.EqAt.int_bool a t' b
  |int b=>obtain⟨t,rfl⟩:=rx;exact SeqAt.EqAt.int_int a t' b t
  |str b=>obtain⟨t,rfl⟩:=rx;exact Sw a t' b t
  |_=>exact FP (show Gc=FS from fx) Fl
 |str a=>
  obtain⟨t',rfl⟩:=ry;cases x with
  |IX=>cases rx;exact SeqAt.EqAt.str_none a t'
  |bl b=>cases rx;exact SeqAt.EqAt.str_bool a t' b
  |int b=>obtain⟨t,rfl⟩:=rx;exact Sx a t' b t
  |str b=>obtain⟨t,rfl⟩:=rx;exact SeqAt.EqAt.str_str a t' b t
  |_=>exact FP (show Gc=FS from fx) Fl
 |_=>exact FP (show Gc=FS from fy) Fl
def vB (x:V) (u:Fp):GA:=match u with
 | .none=>Fd .IX x
 | .bool b=>Fd (.bl b) x
 | .int i _=>Fd (.int i) x
 | .str z _=>Fd (.str z) x
 |_=>Gc
theorem CC {x y:V}{u:Fp}(r:br y u) (f:jv y=FS):vB x u=Fd y x:=by
 cases y with
 |IX=>cases r;rfl
 |bl b=>cases r;rfl
 |int i=>obtain⟨t,rfl⟩:=r;rfl
 |str z=>obtain⟨t,rfl⟩:=r;rfl
 |_=>exact FP (show Gc=FS from f) Fl
theorem kJ {x:V} : ∀ {xs:Fh V}{us:Fh Fp},a8 xs us->xs.all jv=FS->us.any (vB x)=xs.any λy=>Fd y x
 |_,_, .nil,_=>rfl
 |y::xs,u::us, .cons r t,f=>by
  rw[NO,G7] at f;rw[NP,NP,CC r f.1,kJ t f.2]
theorem iU {A:Hc}{s:Fw}{x:V}{v:Fp}(rx:br x v) (fx:jv x=FS): ∀ {xs:Fh V}{us:Fh Fp},a8 xs us->xs.all jv=FS-> ∀u∈us,SeqAt.EqAt A s u v (vB x u)
 |_,_, .nil,_=>λu hu=>by cases hu
 |y::xs,u::us, .cons r t,f=>λu' hu=>by
  rw[NO,G7] at f;rcases FF.mp hu with rfl|hu
  ·rw[CC r f.1];exact aaO r rx f.1 fx
  ·exact iU rx fx t f.2 u' hu
def uA (x:V) (xs:Fh V):GA:=xs.any λy=>Fd y x
inductive rIn (K:Fm) (neg:GA) (x:V) (y:V) (H:Hp) (Q:VK):Prop
 |mk (p:Fq) (xs:Fh V) (_:y= .ref p) (_:(cw K H p xs\/rc K H p xs)) (_:jv x=FS) (_:xs.all jv=FS) (_:Q (.bl (if neg then !uA x xs else uA x xs)) H):rIn K neg x y H Q
theorem lJ:lH X (IJ .In) (rIn X.K Gc):=by
 intro pins s σ H x y v u Q I rx ry h;obtain⟨p,xs,rfl,hq,fx,fs,q⟩:=h;cases ry;rcases hq with hq|hq
 ·obtain⟨HR,r,pl,hz⟩:=I.list hq
  refine SeqAt.in_listAt (vB x) pl.isList (λw hw=>iU rx fx r fs w (by simpa using hw)) #[.bl _,H,I,Go,?_];rw[show HR.toArray.any (vB x)=HR.any (vB x) by simp,kJ r fs];exact q
 ·obtain⟨HR,r,pl,hz⟩:=I.tuple hq
  refine SeqAt.in_tupleAt (vB x) pl (λw hw=>iU rx fx r fs w (by simpa using hw)) #[.bl _,H,I,Go,?_];rw[show HR.toArray.any (vB x)=HR.any (vB x) by simp,kJ r fs];exact q
theorem kj:lH X (IJ .NotIn) (rIn X.K FS):=by
 intro pins s σ H x y v u Q I rx ry h;obtain⟨p,xs,rfl,hq,fx,fs,q⟩:=h;cases ry;rcases hq with hq|hq
 ·obtain⟨HR,r,pl,hz⟩:=I.list hq
  refine SeqAt.notIn_listAt (vB x) pl.isList (λw hw=>iU rx fx r fs w (by simpa using hw)) #[.bl _,H,I,Go,?_];rw[show HR.toArray.any (vB x)=HR.any (vB x) by simp,kJ r fs];exact q
 ·obtain⟨HR,r,pl,hz⟩:=I.tuple hq
  refine SeqAt.notIn_tupleAt (vB x) pl (λw hw=>iU rx fx r fs w (by simpa using hw)) #[.bl _,H,I,Go,?_];rw[show HR.toArray.any (vB x)=HR.any (vB x) by simp,kJ r fs];exact q
inductive afT (K:Fm) (xs:Fh V) (H:Hp) (Q:VK):Prop
 |mk (p:Fq) (ys:Fh V) (_:xs=[.ref p]) (_:(cw K H p ys\/rc K H p ys)) (_:Q (.int ys.length) H):afT K xs H Q
theorem bv:gV X (.builtin "len") (afT X.K):=by
 intro pins s σ H xs us Q I r h;obtain⟨p,ys,rfl,hq,q⟩:=h;obtain⟨u,rfl,rx⟩:=nP r;cases rx;have hn:=qS;rcases hq with hq|hq
 ·obtain⟨HR,r',pl,hz⟩:=I.list hq
  have NJ:=r'.length;exact Calls.call_len_list pl.isList (by simp only[Gy]<;>lia) #[.int ys.length,H,I.tok _,#[s.toks+1,by rw[Gy,NJ]],q]
 ·obtain⟨HR,r',pl,hz⟩:=I.tuple hq
  have NJ:=r'.length;exact len_tuple pl (by simp only[Gy]<;>lia) #[.int ys.length,H,I.tok _,#[s.toks+1,by rw[Gy,NJ]],q]
theorem gy:gV X (.type "tuple") (λxs H Q=> ∃p ys,xs=[.ref p]/\((cw X.K H p ys/\ ∀l,H l=FM->Q (.ref l) (aF H l (.tup ys)))\/(rc X.K H p ys/\Q (.ref p) H))):=by
 intro pins s σ H xs us Q I r h;obtain⟨p,ys,rfl,h⟩:=h;obtain⟨u,rfl,rx⟩:=nP r;cases rx;rcases h with⟨hq,q⟩|⟨hq,q⟩
 ·obtain⟨HR,r',pl,hz⟩:=I.list hq
  have NJ:=r'.length;refine call_tuple_list pl.isList (λh' kp=>?_) (by simp only[Gy]<;>lia)
  have I1:aE X pins σ H { s with heap:=h' } :=I.kept (t':=s.toks) kp
  have I2:aE X pins σ (aF H h'.objs.size (.tup ys)) { s with heap:=h'.push { cls:= .type "tuple",data:= .seq HR.toArray } } :=
   I1.laid (t':=s.toks) (λb o e=>FJ _ e) (FN _) (show cy X.prog X.w _ _ _ (.tup ys) from#[hz,HR,r',IsTup.new _ _])
  exact#[.ref h'.objs.size,_,I2,Go,q _ (I1.IF.fresh (FN _))]
 ·obtain⟨HR,r',pl,hz⟩:=I.tuple hq
  exact call_tuple_same pl #[.ref p,H,I,Go,q]
def tyV (K:Fm) (T:String) (x:V) (H:Hp):Prop:=match x with
 | .str _=>T="str"
 | .int _=>T="int"
 | .ref p=>(T="list"/\ ∃xs,cw K H p xs)\/(T="tuple"/\ ∃o,K.lookup p=FB o/\o.cls= .type "tuple"/\o.dict=FM)\/
   (T="dict"/\((∃aC,H p=FB (.dK aC))\/ ∃aC,H p=FB (.dT aC)))\/(T="set"/\ ∃S n,H p=FB (.set S n))
 |_=>False
theorem A5 {pins:Fh (Fq×Jh)}{σ:St}{H:Hp}{s:Fw}{T:String}{x:V}{v:Fp}(I:aE X pins σ H s) (r:br x v) (ty:tyV X.K T x H):
  s.TypeIs v T/\ ∀a,v= .ref a-> ∃ob,s.heap.get? a=FB ob/\ob.dict=FM:=by
 cases x with
 |str z=>
  obtain⟨t,rfl⟩:=r;cases (show T="str" from ty);exact#[Zl s z t,λ_ e=>nomatch e]
 |int i=>
  obtain⟨t,rfl⟩:=r;cases (show T="int" from ty);exact#[typeIs_int s i t,λ_ e=>nomatch e]
 |ref p=>
  cases r;rcases ty with⟨rfl,xs,hq⟩|⟨rfl,o,hk,hc,hd⟩|⟨rfl,hk⟩|⟨rfl,S,n,hk⟩
  ·obtain⟨HR,_,pl,_⟩:=I.list hq
   refine#[pl.isList.typeIs,λa e=>?_];cases e;obtain⟨o,n,e,c,hd,_⟩:=pl;exact#[o,e,hd]
  ·refine#[#[o,I.NI p o hk,hc],λa e=>?_]
   cases e;exact#[o,I.NI _ o hk,hd]
  ·have z: ∃o,s.heap.get? p=FB o/\o.ExactDict:=by
    rcases hk with⟨aC,hk⟩|⟨aC,hk⟩
    ·obtain⟨_,_,_,_,o,_,_,e,ex,_⟩:=I.IF p _ hk
     exact#[o,e,ex]
    ·obtain⟨_,_,_,_,o,_,_,e,ex,_⟩:=I.IF p _ hk
     exact#[o,e,ex]
   obtain⟨o,e,ex⟩:=z;refine#[#[o,e,ex.1],λa e2=>?_];cases e2;exact#[o,e,ex.2.1]
  ·obtain⟨o,_,_,_,e,ex,_⟩:=I.IF p _ hk
   refine#[#[o,e,ex.1],λa e2=>?_];cases e2;exact#[o,e,ex.2.1]
 |_=>exact IZ ty
def ak4 (K:Fm) (T:String) (r:V->Fh V->Hp->VK->Prop) (to:TE):TE:=λσ H Q=>to σ H λx H1=>tyV K T x H1/\r x [] H1 Q
inductive afU (K:Fm) (T:String) (R:V->Hp->Prop) (x:V) (H1:Hp):Prop
 |mk (_:tyV K T x H1) (_:R x H1):afU K T R x H1
def tBM (K:Fm) (T:String) (r:V->Fh V->Hp->VK->Prop) (to:TE) (t:TA):TE:=λσ H Q=>to σ H (afU K T (λx H1=>t σ H1 λxs H2=>r x xs H2 Q))
variable {o e:HM}{es:Fh HM}{to:TE}{t:TA}{name:FY}{Ly L3:Pos}{T id:String}{r:V->Fh V->Hp->VK->Prop}
theorem Ap (pa:PlainAttrs T) (slot:Slot T name id) (hty:typeOf (.builtin id)=pure (.type "method_descriptor")) (hm:MtR X id r) (ho:PE X o to)
  (Q9:IM o name X.env (eval o X.env)=eval o X.env:=by rfl) (Ra:(Ly.endLine == L3.line)=FS:=by rfl):PE X (.Call (.Attribute o name Ly) [] [] L3) (ak4 X.K T r to):=by
 rw[01];refine wpAny_Call_method0_late Q9 Ra (b9 (ho pins s σ H _ I h) λv s1 ⟨x,H1,I1,r1,ty,q1⟩=>?_);obtain⟨h1,h2⟩:=A5 I1 r1 ty;exact#[T,id,pa,slot,hty,h1,h2,LK rfl (PySem.evalArgs_none (hm pins s1 σ H1 x [] v [] Q I1 r1 .nil q1))]
theorem sj (pa:PlainAttrs T) (slot:Slot T name id) (hty:typeOf (.builtin id)=pure (.type "method_descriptor")) (hm:MtR X id r) (ho:PE X o to) (ha:PA X (e::es) t)
  (Q9:IM o name X.env (eval o X.env)=eval o X.env:=by rfl)
  (ak5:((Jf L3 (FU (e::es) X.env)).all (λx=>!x.1)&&(Lf L3 (Jy [] X.env)).all (λx=>x.1.isSome)
   &&decide ((e::es).length+([]:Fh Keyword).length+(if([]:Fh Keyword).isEmpty then 0 else 1)<30))=FS:=by rfl)
  (Ra:(Ly.endLine == L3.line)=FS:=by rfl) (hs:FU (e::es) X.env=[001]::FU es X.env:=by rfl) (aaP:(Jf L3 (FU es X.env)).any (·.1)=Gc:=by rfl):
  PE X (.Call (.Attribute o name Ly) (e::es) [] L3) (tBM X.K T r to t):=by
 rw[01];refine wpAny_Call_method_late Q9 ak5 Ra rfl (b9 (ho pins s σ H _ I h) λv s1 ⟨x,H1,I1,r1,ty,q1⟩=>?_);obtain⟨h1,h2⟩:=A5 I1 r1 ty;refine#[T,id,pa,slot,hty,h1,h2,?_];have hA:=ha L3 pins s1 σ H1 _ I1 q1;rw[hs] at hA ⊢;refine LK (by show(Gc||(Jf L3 (FU es X.env)).any (·.1))=Gc;rw[aaP]<;>rfl) (Oz ?_)
 exact b9 hA λus s2 ⟨vs,H2,I2,r2,q2⟩=>hm pins s2 σ H2 x vs v us Q I2 r1 r2 q2
end
def MtM (X:Cx) (id:String) (r:V->Fh V->Hp->VK->Prop):Prop:=
 ∀(pins:Fh (Fq×Jh)) (s:Fw) (σ:St) (H:Hp) (x:V) (xs:Fh V) (v:Fp) (us:Fh Fp) (Q:VK),aE X pins σ H s->br x v->a8 xs us->r x xs H Q->
  F4 (model X.prog X.w) X.A (call (.builtin id) (v::us)) (EP X pins σ Q) X.xe s
theorem a8.one: ∀ {x:V}{us:Fh Fp},a8 [x] us-> ∃u,us=[u]/\br x u
 |_,_, .cons r .nil=>#[_,Go,r]
theorem a8.zero: ∀ {us:Fh Fp},a8 [] us->us=[]
 |_, .nil=>rfl
theorem a8.dropLast {xs:Fh V}(h:a8 xs us):a8 xs.dropLast us.dropLast:=by
 induction h with
 |nil=>exact .nil
 |cons r t ih=>
  cases t with
  |nil=>exact .nil
  |cons q t'=>exact .cons r ih
theorem vA {α:Type}(l:Fh α):l.eraseIdx (l.length-1)=l.dropLast:=by
 induction l with
 |nil=>rfl
 |cons a r ih=>
  cases r with
  |nil=>rfl
  |cons b r=>
   have e:(a::b::r).length-1=((b::r).length-1)+1:=by
    have h1:(a::b::r).length=r.length+2:=rfl
    have h2:(b::r).length=r.length+1:=rfl;lia
   rw[e,Fh.eraseIdx_cons_succ,ih]
   all_goals rfl
section
variable {X:Cx}{pins:Fh (Fq×Jh)}{σ:St}{H:Hp}{s:Fw}{l b:Fq}{xs ys zs:Fh V}
theorem aE.aaQ {HR its':Fh Fp}{f:JE Fp->JE Fp}(I:aE X pins σ H s) (hH:H l=FB (.lst xs))
  (e:s.heap.get? l=FB { cls:= .type "list",data:= .seq HR.toArray n }) (hf:f HR.toArray=its'.toArray) (hv:a8 ys its') (hz:ys.length<=Gk):
  aE X pins σ (aF H l (.lst ys)) { s with heap:=s.heap.update l (Jh.mapSeq f),toks:=t' } :=by
 have q:=PySem.IsL.update e f;rw[hf] at q;refine I.write (x:=l) (e:=l) (by rw[hH];exact trivial) (.inl rfl) (λb' u hb hu=>(Hm s.heap (Jh.mapSeq f) (IV hb)).trans hu) #[_,q] ?_
 exact#[hz,its',_,hv,q]
theorem aE.Wx (I:aE X pins σ H s) (hH:H l=FB (.lst xs)):xs.length<=Gk/\ ∃(HR:Fh Fp) (n:FH),a8 xs HR/\xs.length=HR.length/\s.heap.get? l=FB { cls:= .type "list",data:= .seq HR.toArray n } :=by
 obtain⟨z,HR,n,r,e⟩:=I.IF l _ hH;exact#[z,HR,n,r,r.length,e]
theorem BZ (h:n<=Gk):ME n=Gc:=by
 unfold ME;exact Gg (by lia)
end
section
variable {X:Cx}
inductive xY (x:V) (vs:Fh V) (H:Hp) (Q:VK):Prop
 |mk (l:Fq) (xs:Fh V) (y:V) (_:x= .ref l) (_:vs=[y]) (_:H l=FB (.lst xs)) (_:xs.length<Gk) (_:Q .IX (aF H l (.lst (xs++[y])))):xY x vs H Q
theorem jc:MtM X "list.append" xY:=by
 intro pins s σ H x vs v us Q I rx rv h;obtain⟨l,xs,y,rfl,rfl,hH,hz,q⟩:=h;cases rx;obtain⟨u,rfl,ru⟩:=rv.one;obtain⟨z,HR,n,r,hl,e⟩:=I.Wx hH;refine call_meets F.slot_list_append #[_,e,Go] F.entry_list_append (F.args_list_append_2 _ _) (PySem.list_append l HR.toArray n u (by rw[Gy];lia)) #[e,?_];refine#[.IX,_,I.aaQ (its':=HR++[u]) hH e (by simp) (r.append (.cons ru .nil)) ?_,Go,q];rw[FR,JF];lia
inductive xq (x:V) (vs:Fh V) (H:Hp) (Q:VK):Prop
 |mk (l b:Fq) (xs zs:Fh V) (_:x= .ref l) (_:vs=[.ref b]) (_:H l=FB (.lst xs)) (_:H b=FB (.lst zs)) (_:xs.length+zs.length<=Gk) (_:Q .IX (aF H l (.lst (xs++zs)))):xq x vs H Q
theorem zy:MtM X "list.extend" xq:=by
 intro pins s σ H x vs v us Q I rx rv h;obtain⟨l,b,xs,zs,rfl,rfl,hH,hB,hz,q⟩:=h;cases rx;obtain⟨u,rfl,ru⟩:=rv.one;cases ru;obtain⟨z,HR,n,r,hl,e⟩:=I.Wx hH;obtain⟨z2,Sk,n2,r2,UU,e2⟩:=I.Wx hB;have hsz:HR.toArray.size+Sk.toArray.size<=Gk:=by rw[Gy,Gy];lia
 have afV: ¬(! HR.toArray.isEmpty&&ME (HR.toArray.size+Sk.toArray.size))=FS:=by
  rw[BZ hsz,Iz];exact Fl
 refine call_meets F.slot_list_extend #[_,e,Go] F.entry_list_extend (F.args_list_extend_2 _ _)
  (AutoSeq1.list_extend_list_list_0 l HR.toArray n b Sk.toArray n2 afV (by rw[Gy];lia) (by lia)) #[e,e2,?_]
 refine#[.IX,_,I.aaQ (its':=HR++Sk) hH e (by simp) (r.append r2) ?_,Go,q];rw[FR];lia
def ak6:V->Fh V->Hp->VK->Prop:=λx vs H Q=> ∃l xs y,x= .ref l/\vs=[]/\H l=FB (.lst xs)/\xs[xs.length-1]?=FB y/\Q y (aF H l (.lst xs.dropLast))
theorem Ai:MtM X "list.pop" ak6:=by
 intro pins s σ H x vs v us Q I rx rv h;obtain⟨l,xs,y,rfl,rfl,hH,hy,q⟩:=h;cases rx;have hus:=rv.zero;subst hus;obtain⟨z,HR,n,r,hl,e⟩:=I.Wx hH;obtain⟨u,hu,ru⟩:=r.get hy;have hy':HR.toArray[HR.toArray.size-1]?=FB u:=by
  show HR.toArray[HR.length-1]?=FB u
  rw[<-Ti,<-hl];exact hu
 refine call_meets F.slot_list_pop #[_,e,Go] F.entry_list_pop (F.args_list_pop_1 _) (MeetsSeq.list_pop_last l HR.toArray n u hy' (by rw[Gy];lia)) #[e,?_];refine#[y,_,I.aaQ (its':=HR.dropLast) hH e ?_ r.dropLast ?_,ru,q]
 ·show HR.toArray.eraseIdxIfInBounds (HR.toArray.size-1)=HR.dropLast.toArray
  rw[Gy,Fh.eraseIdxIfInBounds_toArray,vA]
 ·rw[Fh.length_dropLast]
  lia
end
section
variable {prog:Gh}{w:GR}{A:Hc}{E:Fp->Fw->Prop}{s:Fw}
set_option maxRecDepth 100000 in
end
theorem a8.ints: ∀ {ns:Fh Int}{us:Fh Fp},a8 (ns.map V.int) us->IntsAre us ns
 |[],us,h=>by
  rw[Qq] at h;cases h;exact IntsAre.nil
 |n::ns,us,h=>by
  rw[FX] at h;cases h with
  |cons r t=>
   obtain⟨k,rfl⟩:=r;exact IntsAre.cons n k (a8.ints t)
theorem a8.bls: ∀ {bs:Fh GA}{us:Fh Fp},a8 (bs.map V.bl) us->us=bs.map MY
 |[],us,h=>by
  rw[Qq] at h;cases h
  rfl
 |b::bs,us,h=>by
  rw[FX] at h;cases h with
  |cons r t=>
   cases r;rw[a8.bls t,FX]
theorem a8.afW {a:Fq}(r:a8 [V.ref a] us):us=[F9 a]:=by
 cases r with
 |cons r t=>
  cases t;cases r
  rfl
section
variable {prog:Gh}{w:GR}{A:Hc}{E:Fp->Fw->Prop}{s:Fw}{l:Fq}{HR:Fh Fp}{ns:Fh Int}{Q:Fp->Fw->Prop}
theorem EO (hh:A.handled=FM) (hl:s.heap.IsList l HR.toArray) (hi:IntsAre HR ns)
  (h: ∀h' tk t',(∀b o,s.heap.get? b=FB o->h'.get? b=FB o)->Q (.int ns.sum t') { s with heap:=h',toks:=tk }):F4 (model prog w) A (call (.builtin "sum") [.ref l]) Q E s:=by
 obtain⟨xs,e⟩:=hi.allInts.items;have hn:numsOf (Lg xs).toList=ns:=by rw[<-e];exact hi.numsOf
 rw[nums_intItems] at hn;rw[e] at hl;refine PySem.sum_intListG hh hl λh' tk t' hk=>?_;have:=h h' tk t' hk;rw[preSum_eq,JA (by simp),hn];exact this
end
section
variable {X:Cx}
def ak7 (K:Fm):Fh V->Hp->VK->Prop:=λvs H Q=> ∃(a:Fq) (ns:Fh Int),vs=[V.ref a]/\cw K H a (ns.map V.int)/\Q (.int ns.sum) H
theorem vW (hc:X.calm=FS):gV X (.builtin "sum") (ak7 X.K):=by
 intro pins s σ H vs us Q I r h;obtain⟨a,ns,rfl,hs,q⟩:=h;obtain⟨HR,rv,hl,_⟩:=I.list hs;rw[a8.afW r];exact EO (I.ok.hd hc) hl.isList rv.ints λh' tk t' hk=>#[.int _,H,I.kept hk,#[_,Go],q]
end
theorem Ak {prog:Gh}{w:GR}{A:Hc}{E:Fp->Fw->Prop}{s:Fw}{l:Fq}{Q:Fp->Fw->Prop}(hl:s.heap.IsList l items)
  (h: ∀s₂:Fw,s₂= { s with heap:=s.heap.push { cls:= .type "list_iterator",data:= .fields [.ref l, .int 0 0].toArray } } ->
   (s₂.heap.IsListIter s.heap.objs.size l 0/\s₂.heap.IsList l items)->l≠s.heap.objs.size->Q (.ref s.heap.objs.size) s₂):F4 (model prog w) A (pyIter (.ref l)) Q E s:=by
 have UR:l<s.heap.objs.size:=by obtain⟨_,e,_⟩:=hl;exact F7 e
 exact wpAny_pyIter_list hl (h _ rfl #[#[_,Hk _ rfl,Go,Go],hl.push _] (Hi UR))
theorem sY {prog:Gh}{w:GR}{A:Hc}{bs:Fh GA}{HR:Fh Fp}(e:HR=bs.map MY):
  TruthOf prog w A (λi v=>HR.toArray[i]?=FB v) (λi=>bs.getD i Gc):=λi v s Q E hv hq=>by
 have hv':HR[i]?=FB v:=by simpa using hv
 rw[e,GB] at hv';obtain⟨b,hb,rfl⟩:=Gs.mp hv';have hg:bs.getD i Gc=b:=by rw[Ja,hb]<;>rfl
 have US:Q (bs.getD i Gc) s:=hq;rw[hg] at US;exact Je US
theorem pO: ∀bs:Fh GA,(Jb bs.length).all (λi=>bs.getD i Gc)=bs.all id
 |[]=>rfl
 |b::bs=>by
  rw[FG,Fh.range_succ_eq_map,NO,Tv,NO,<-pO bs]
  all_goals rfl
section
variable {X:Cx}
def ak8 (K:Fm):Fh V->Hp->VK->Prop:=λvs H Q=> ∃(a:Fq) (bs:Fh GA),vs=[V.ref a]/\cw K H a (bs.map V.bl)/\Q (.bl (bs.all id)) H
theorem aaR (hc:X.calm=FS):gV X (.builtin "all") (ak8 X.K):=by
 intro pins s σ H vs us Q I r h;obtain⟨a,bs,rfl,hs,q⟩:=h;obtain⟨HR,rv,hl,_⟩:=I.list hs;rw[a8.afW r];have hb:=rv.bls;refine call_all_walk (Ak hl.isList λs₂ e2 st hne=>?_);subst e2;refine#[_,_,_,_,_,_,_,Go,Walks.list (A:=X.A.in1) (I.ok.hd hc) _ a hne HR.toArray,st,sY hb,λh' tk hk=>?_];refine#[.bl _,H,I.kept λb o eo=>hk b o (λaaS=>?_) (FJ _ eo),?_,q]
 ·rcases FF.mp aaS with e1|aaS
  ·exact FP (e1▸F7 eo) (Ii _)
  ·cases aaS
 ·show MY _=MY _
  rw[<-pO,hb,Gy,FE]
end
abbrev AH (h:Ha) (c:Fq) (v:FA Fp):Prop:=h.IsCell c v
def ak9 (scope sc:Scope):Scope:=
 { scope with names:=scope.names.map λ(n,k)=>if(k == .free&&sc.kind == .function&&sc.names.lookup n == FB .cell) then(n, .cell) else(n,k) }
def b3 (cells:Fh (FY×Fq)):Fh (FY×J4)->Fh (FY×Fq)->Fh (FY×Fq)
 |[],acc=>acc
 | (n,k)::r,acc=>if k == .free then b3 cells r ((n,(cells.lookup n).getD 0)::acc) else b3 cells r acc
theorem kN (env:Env) (f:FY×J4->Fh (FY×Fq)->Sem (ForInStep (Fh (FY×Fq))))
  (hf: ∀n k c,f (n,k) c=if k == .free then(do let a<-cellOf env n;pure (.yield ((n,a)::c))) else pure (.yield c)):
  ∀(names:Fh (FY×J4)) (acc:Fh (FY×Fq)),(∀y∈names,y.2= .free-> ∃c,env.cells.lookup y.1=FB c)->forIn names acc f=pure (b3 env.cells names acc)
 |[],acc,_=>by rw[RB];rfl
 | (n,k)::r,acc,h=>by
  rw[W6,hf];have ih:=λacc=>kN env f hf r acc λy hy=>h y (Fx _ hy)
  unfold b3;by_cases hk:(k == LW)=FS
  ·rw[Fv hk,Fv hk]
   obtain⟨c,hc⟩:=h (n,k) Fy (by simpa using hk);have e:cellOf env n=pure c:=by unfold cellOf;rw[hc]
   rw[e];have e2:(env.cells.lookup n).getD 0=c:=by rw[hc];rfl
   rw[e2];exact ih _
  ·rw[Fs hk,Fs hk]
   exact ih _
theorem vz {scope:Scope}{env:Env}(h: ∀y∈scope.names,y.2= .free-> ∃c,env.cells.lookup y.1=FB c):closureFor scope env=pure (b3 env.cells scope.names []):=by
 simp only[closureFor];rw[kN env _ (λn k c=>rfl) scope.names [] h]
 rfl
theorem jO {α:Type} : ∀ {l:Fh (FY×α)}{n:FY}{c:α},(n,c)∈l-> ∃c',l.lookup n=FB c'
 | (k,v)::r,n,c,h=>by
  rw[J5];cases hb:n == k with
  |true=>exact#[_,Go]
  |false=>
   rcases FF.mp h with e|h
   ·cases e;simp at hb
   ·exact jO h
theorem gh {cells:Fh (FY×Fq)} : ∀ {names:Fh (FY×J4)}{acc:Fh (FY×Fq)}{n:FY}{c:Fq},(n,c)∈b3 cells names acc->(n,c)∈acc\/((n, .free)∈names/\c=(cells.lookup n).getD 0)
 |[],_,_,_,h=> .inl h
 | (m,k)::r,acc,n,c,h=>by
  unfold b3 at h;split at h
  ·rename_i hk
   have hk:k= .free:=by simpa using hk
   rcases gh h with h|⟨h1,h2⟩
   ·rcases FF.mp h with e|h
    ·cases e;exact .inr #[hk▸Fy,Go]
    ·exact .inl h
   ·exact .inr #[Fx _ h1,h2]
  ·rcases gh h with h|⟨h1,h2⟩
   ·exact .inl h
   ·exact .inr #[Fx _ h1,h2]
theorem iV {cells:Fh (FY×Fq)} : ∀ {names:Fh (FY×J4)}{acc:Fh (FY×Fq)}{p:FY×Fq},p∈acc->p∈b3 cells names acc
 |[],_,_,h=>h
 | (m,k)::r,acc,p,h=>by
  unfold b3;split
  ·exact iV (Fx _ h)
  ·exact iV h
theorem iW {cells:Fh (FY×Fq)} : ∀ {names:Fh (FY×J4)}{acc:Fh (FY×Fq)}{n:FY},(n, .free)∈names->(n,(cells.lookup n).getD 0)∈b3 cells names acc
 | (m,k)::r,acc,n,h=>by
  unfold b3;rcases FF.mp h with e|h
  ·cases e
   exact iV Fy
  ·split
   ·exact iW h
   ·exact iW h
theorem gK: ∀ {names:Fh (FY×J4)}{h:Ha}{acc:Fh (FY×Fq)}{x:FY}{c:Fq},(x,c)∈Ir h.objs.size names acc->
  (x,c)∈acc\/((x, .cell)∈names/\h.objs.size<=c/\AH (NN h names) c FM)
 |[],_,_,_,_,h=> .inl h
 | (n,k)::r,h,acc,x,c,hm=>by
  unfold Ir at hm;unfold NN;split at hm
  ·rename_i hk
   rw[Fv hk];have hk:k= .cell:=by simpa using hk
   rw[<-HY h { cls:= .type "cell",data:= .cell FM }] at hm;rcases gK hm with hm|⟨h1,h2,h3⟩
   ·rcases FF.mp hm with e|hm
    ·cases e
     exact .inr #[hk▸Fy,FN _,_,O8 r _ _ _ (Hk _ rfl),Go]
    ·exact .inl hm
   ·rw[HY] at h2
    exact .inr #[Fx _ h1,LS h2,h3]
  ·rename_i hk
   rw[Fs hk];rcases gK hm with hm|⟨h1,h2,h3⟩
   ·exact .inl hm
   ·exact .inr #[Fx _ h1,h2,h3]
theorem je: ∀ {names:Fh (FY×J4)}{n:FH}{acc:Fh (FY×Fq)}{p:FY×Fq},p∈acc->p∈Ir n names acc
 |[],_,_,_,h=>h
 | (m,k)::r,n,acc,p,h=>by
  unfold Ir;split
  ·exact je (Fx _ h)
  ·exact je h
theorem li: ∀ {names:Fh (FY×J4)}{n:FH}{acc:Fh (FY×Fq)}{x:FY},(x, .cell)∈names-> ∃c,(x,c)∈Ir n names acc
 | (m,k)::r,n,acc,x,h=>by
  unfold Ir;rcases FF.mp h with e|h
  ·cases e
   exact#[n,je Fy]
  ·split
   ·exact li h
   ·exact li h
theorem lq: ∀ {names:Fh (FY×J4)}{h:Ha}{acc:Fh (FY×Fq)}{x y:FY}{c:Fq},(∀p∈acc,p.2<h.objs.size)->(∀x y c,(x,c)∈acc->(y,c)∈acc->x=y)->
  (x,c)∈Ir h.objs.size names acc->(y,c)∈Ir h.objs.size names acc->x=y
 |[],_,_,_,_,_,_,hi,h1,h2=>hi _ _ _ h1 h2
 | (n,k)::r,h,acc,x,y,c,hl,hi,h1,h2=>by
  unfold Ir at h1 h2;split at h1
  ·rename_i hk
   rw[Fv hk] at h2;rw[<-HY h { cls:= .type "cell",data:= .cell FM }] at h1 h2;refine lq (h:=h.push _) (λp hp=>?_) (λx y c a b=>?_) h1 h2
   ·rw[HY]
    rcases FF.mp hp with rfl|hp
    ·exact HQ _
    ·exact Jw (hl p hp)
   ·rcases FF.mp a with e|a<;>rcases FF.mp b with e'|b
    ·cases e;cases e';rfl
    ·cases e;exact FP (hl _ b) (Ii _)
    ·cases e';exact FP (hl _ a) (Ii _)
    ·exact hi _ _ _ a b
  ·rename_i hk
   rw[Fs hk] at h2;exact lq hl hi h1 h2
theorem ua {M:Model}{A:Hc}{E:Fp->Fw->Prop}{s:Fw}{scope:Scope}{globals:Fq}{closure:Fh (FY×Fq)}{Hl:FY}{func:FA Fq}{code:Fp}{around:Env}{builtins:Fq}{Q:Env->Fw->Prop}
  (h:Q (newEnv scope s.heap.objs.size globals (Ir (s.heap.objs.size+1) scope.names closure) Hl func code (FB around) builtins)
   { s with heap:=NN (s.heap.push { cls:= .type "dict",data:= .dict [].toArray }) scope.names }):
  F4 M A (newFunctionEnv scope globals closure [] Hl func code (FB around) builtins) Q E s:=by
 simp only[newFunctionEnv,Uv,Tu];refine FI (wpAny_alloc ?_);refine FI (wpAny_layCells _ (λn k c=>rfl) scope.names closure _ _ ?_);rw[show({ s with heap:=s.heap.push { cls:= .type "dict",data:= .dict [].toArray } } :Fw).heap.objs.size=s.heap.objs.size+1 from HY ..];rw[RB];exact FI (Gb (Gb h))
theorem iS {sc:Scope} : ∀ {names:Fh (FY×J4)}{x:FY}{k:J4},
  (names.map λ(n,k)=>if(k == LW&&sc.kind == .function&&sc.names.lookup n == FB .cell) then(n,Rj) else(n,k)).lookup x=FB k->
  ∃k',names.lookup x=FB k'/\(k=k'\/(k'= .free/\k= .cell))
 |[],_,_,h=>by simp at h
 | (n,k₀)::r,x,k,h=>by
  have ih:= @iS sc r x k
  have h':JC x ((if(k₀ == LW&&sc.kind == .function&&sc.names.lookup n == FB .cell)=FS then(n,Rj) else(n,k₀))::(r.map _))=FB k:=h
  cases hx:x == n with
  |true=>
   simp only[J5,hx];by_cases hc:(k₀ == LW&&sc.kind == .function&&sc.names.lookup n == FB .cell)=FS
   ·rw[Fv hc] at h'
    simp only[J5,hx] at h';cases h';simp only[G7,beq_iff_eq] at hc;exact#[k₀,Go, .inr #[hc.1.1,Go]]
   ·rw[Fs hc] at h'
    simp only[J5,hx] at h';cases h';exact#[_,Go, .inl rfl]
  |false=>
   simp only[J5,hx];by_cases hc:(k₀ == LW&&sc.kind == .function&&sc.names.lookup n == FB .cell)=FS
   ·rw[Fv hc] at h'
    simp only[J5,hx] at h';exact ih h'
   ·rw[Fs hc] at h'
    simp only[J5,hx] at h';exact ih h'
structure tu (N:Fh FY) (sc scope:Scope) (own:Fh (FY×FH)):Prop where
 kind:scope.kind= .function
 uniq: ∀y∈scope.names,scope.names.lookup y.1=FB y.2
 ix: ∀p∈own,N[p.2]?=FB p.1
 free: ∀y∈scope.names,y.2= .free->sc.names.lookup y.1=FB .cell\/sc.names.lookup y.1=FB .free
 own: ∀y∈scope.names,y.2= .local\/y.2= .cell->y.1∈own.map (·.1)\/y.1∉N
def hX (σ:St):Fh FH->St
 |[]=>σ
 |v::vs=>(hX σ vs).set v FM
theorem iE (σ:St): ∀vs:Fh FH,(hX σ vs).length=σ.length
 |[]=>rfl
 |v::vs=>by unfold hX;rw[Fh.length_set,iE σ vs]
theorem ld {σ:St}{i:FH}{x:V} : ∀ {vs:Fh FH},(hX σ vs)[i]?=FB (FB x)->σ[i]?=FB (FB x)/\i∉vs
 |[],h=>#[h,by simp]
 |v::vs,h=>by
  unfold hX at h;by_cases hi:v=i
  ·subst hi
   by_cases hv:v<(hX σ vs).length
   ·rw[N7 hv] at h;cases h
   ·rw[Jg (by simpa using hv)] at h;cases h
  ·rw[OI hi] at h
   obtain⟨h1,h2⟩:=ld h;exact#[h1,by simp only[FF,V6];exact#[λe=>hi e.symm,h2]]
abbrev Cx.Sn (X:Cx) (s:Fw) (H:Hp) (scope:Scope) (Lx:Env) (fp:Fh Fq):Cx:= { X with P6:=s,H_0:=H,env:=Lx,outer:=X.stack,ex:=fp,fn:=λx=>scope.names.lookup x == FB .cell,pn:=[],xe:=λ_ _=>False }
section
variable {X:Cx}{pins:Fh (Fq×Jh)}{σ:St}{H:Hp}{s:Fw}
theorem tE {scope:Scope}{own:Fh (FY×FH)}{fp:Fh Fq}(I:aE X pins σ H s) (ok:tu X.N X.env.scope scope own) (hN:X.N.Nodup) (hfp: ∀b∈fp,ph X pins H b/\b<s.heap.objs.size):
  aE (X.Sn s H scope (Lh scope (Ir (s.heap.objs.size+1) scope.names (b3 X.env.cells scope.names [])) s.heap.objs.size X.env) fp) [] (hX σ (own.map (·.2))) H { s with heap:=NN (s.heap.push { cls:= .type "dict",data:= .dict [].toArray }) scope.names } :=by
 have RJ: ∀y∈scope.names,y.2= .free-> ∃c,X.env.cells.lookup y.1=FB c:=λy hy e=>by
  rcases ok.free y hy e with k|k
  ·exact I.ok.has _ (.inl k)
  ·exact I.ok.has _ (.inr k)
 generalize Tc:Lh scope (Ir (s.heap.objs.size+1) scope.names (b3 X.env.cells scope.names [])) s.heap.objs.size X.env=Lx;have kp: ∀b o,s.heap.get? b=FB o->(NN (s.heap.push { cls:= .type "dict",data:= .dict [].toArray }) scope.names).get? b=FB o:=λb o e=>O8 _ _ _ _ (FJ _ e)
 have hL:Lx.locals=s.heap.objs.size:=by rw[<-Tc];rfl
 have hcl:Lx.cells=Ir (s.heap.objs.size+1) scope.names (b3 X.env.cells scope.names []):=by rw[<-Tc];rfl
 have hsc:Lx.scope=ak9 scope X.env.scope:=by rw[<-Tc];rfl
 rw[<-HY s.heap { cls:= .type "dict",data:= .dict [].toArray }] at hcl;have cm: ∀ {y c},(y,c)∈b3 X.env.cells scope.names []->X.env.cells.lookup y=FB c/\c<s.heap.objs.size:=λ{y c} hm=>by
  rcases gh hm with hm|⟨h1,rfl⟩
  ·cases hm
  ·obtain⟨c,hc⟩:=RJ _ h1 rfl
   rw[hc];obtain⟨w,z⟩:=I.cell _ _ hc;exact#[Go,z.lt]
 have mem: ∀ {y c},Lx.cells.lookup y=FB c->(X.env.cells.lookup y=FB c/\c<s.heap.objs.size)\/(s.heap.objs.size+1<=c/\AH (NN (s.heap.push { cls:= .type "dict",data:= .dict [].toArray }) scope.names) c FM):=λ{y c} e=>by
  rw[hcl] at e;rcases gK (G6 e) with hm|⟨_,h2,h3⟩
  ·exact .inl (cm hm)
  ·rw[HY] at h2;exact .inr #[h2,h3]
 have look: ∀ {y},scope.names.lookup y=FB .free-> ∃c,Lx.cells.lookup y=FB c/\X.env.cells.lookup y=FB c:=λ{y} hl=>by
  have hy:(y,LW)∈scope.names:=G6 hl;obtain⟨c',e'⟩:=jO (je (names:=scope.names) (n:=(s.heap.push { cls:= .type "dict",data:= .dict [].toArray }).objs.size) (iW (cells:=X.env.cells) (acc:=[]) hy));rw[<-hcl] at e';refine#[c',e',?_];rw[hcl] at e';rcases gK (G6 e') with hm|⟨h1,_,_⟩
  ·exact(cm hm).1
  ·have:=ok.uniq _ h1
   rw[hl] at this;cases this
 have okB:(X.Sn s H scope Lx fp).Ok:=by
  refine#[I.ok.mod,by show Lx.scope.kind=_;rw[hsc];exact ok.kind,by show Lx.globals=_;rw[<-Tc];exact I.ok.glob,by show Lx.builtins=_;rw[<-Tc];exact I.ok.blt,by show s.heap.objs.size<=Lx.locals;rw[hL];exact FN _,
   λy z c e1 e2=>?_,λy hy=>?_,λy c z e=>?_,I.ok.hd,I.ok.frames, .inl rfl,λb hb=>#[?_,λy c e z=>?_],I.bs,FV I.ok.Ve I.sz,λb o e hb=>?_,λb hb z=>?_,I.stack,I.QS]
  ·have e1:Lx.cells.lookup y=FB c:=e1
   have e2:Lx.cells.lookup z=FB c:=e2;rw[hcl] at e1 e2;refine lq (λp hp=>?_) (λy z c a b=>I.ok.inj y z c (cm a).1 (cm b).1) (G6 e1) (G6 e2)
   rw[HY];exact Jw (cm (y:=p.1) (c:=p.2) hp).2
  ·show∃c,Lx.cells.lookup y=FB c
   have key: ∀k,Lx.kindOf y=FB k->(k= .cell\/k= .free)-> ∃c,Lx.cells.lookup y=FB c:=λk hk hk'=>by
    unfold Env.kindOf at hk;rw[hsc] at hk;obtain⟨k',e,r⟩:=iS hk;have:k'= .cell\/k'= .free:=by
     rcases r with rfl|⟨rfl,_⟩
     ·exact hk'
     ·exact .inr rfl
    rcases this with rfl|rfl
    ·obtain⟨c,hm⟩:=li (n:=(s.heap.push { cls:= .type "dict",data:= .dict [].toArray }).objs.size) (acc:=b3 X.env.cells scope.names []) (G6 e)
     obtain⟨c',e'⟩:=jO hm;exact#[c',by rw[hcl];exact e']
    ·obtain⟨c,h1,_⟩:=look e
     exact#[c,h1]
   rcases hy with hy|hy
   ·exact key _ hy (.inl rfl)
   ·exact key _ hy (.inr rfl)
  ·have z:(scope.names.lookup y == FB Rj)=FS:=z
   have z:scope.names.lookup y=FB .cell:=by simpa using z
   have e:Lx.cells.lookup y=FB c:=e;rw[hcl] at e;rcases gK (G6 e) with hm|⟨_,h2,_⟩
   ·rcases gh hm with hm|⟨h1,_⟩
    ·cases hm
    ·have q:=ok.uniq _ h1
     rw[z] at q;cases q
   ·rw[HY] at h2
    exact LS h2
  ·show b≠Lx.locals
   rw[hL];exact Hi (hfp b hb).2
  ·have e:Lx.cells.lookup y=FB c:=e
   rcases mem e with⟨h1,_⟩|⟨h1,_⟩
   ·exact(hfp b hb).1.2.2.2.2.1 y c h1 z
   ·have h2:s.heap.objs.size+1<=b:=by rw[<-z];exact h1
    exact FP (Ge (hfp b hb).2 (LS h2)) (Ii _)
  ·rcases(hfp b hb).1.2.2.2.1 with z|z
   ·exact I.ok.Ta b o e z
   ·exact FP (Ge (F7 e) (FV I.ok.Ve z)) (Ii _)
  ·rcases FF.mp (I.Si b z) with z|z
   ·exact(hfp b hb).1.2.1 z
   ·exact(hfp b hb).1.2.2.1 z
 refine#[okB,Go,I.bare,Un.kept kp,#[λ_=>FM,?_,λi y av e1 e2 e3=>?_],λy c e=>?_,?_,λy c e=>?_,λp hp=>?_,I.IF.kept kp,by rw[iE];exact I.len]
 ·show Ha.Ns _ Lx.locals _
  rw[hL];exact Ha.Ns.keeps (Ha.Ns.new ..) λb o e=>O8 _ _ _ _ e
 ·obtain⟨e2,hne⟩:=ld e2
  have SD:scope.names.lookup y=FB .free/\(Lx.kindOf y=FB .cell\/Lx.kindOf y=FB .free):=by
   have key: ∀k,Lx.scope.names.lookup y=FB k->k= .local\/k= .cell\/k= .free->scope.names.lookup y=FB .free/\(Lx.kindOf y=FB .cell\/Lx.kindOf y=FB .free):=λk hk hk'=>by
    have hk0:=hk;rw[hsc] at hk;obtain⟨k',e,r⟩:=iS hk
    have no: ¬(k'= .local\/k'= .cell):=λhh=>by
     rcases ok.own _ (G6 e) hh with e'|e'
     ·obtain⟨p,hp,hpy⟩:=LP.mp e'
      have e3:=ok.ix p hp
      have:p.1=y:=hpy;rw[this] at e3;exact hne (LP.mpr #[p,hp,oU hN e3 e1])
     ·exact e' (Hg e1)
    rcases r with rfl|⟨rfl,rfl⟩
    ·rcases hk' with rfl|rfl|rfl
     ·exact FP (.inl rfl) no
     ·exact FP (.inr rfl) no
     ·exact#[e, .inr hk0]
    ·exact#[e, .inl hk0]
   have e3:oZ Lx.scope y:=e3;rcases e3 with e3|e3|e3
   ·exact key _ e3 (.inl rfl)
   ·exact key _ e3 (.inr (.inl rfl))
   ·exact key _ e3 (.inr (.inr rfl))
  obtain⟨m,hn,hl⟩:=I.loc;have ala:oZ X.env.scope y:=(ok.free _ (G6 SD.1) rfl).elim (λk=> .inr (.inl k)) (λk=> .inr (.inr k))
  obtain⟨w,r,q⟩:=hl i y av e1 e2 ala;refine#[w,r, .inr #[SD.2,?_]];obtain⟨c,h1,h2⟩:=look SD.1;rcases q with⟨k,_⟩|⟨_,c',e',z⟩
  ·have k:X.env.scope.names.lookup y=FB .local:=k
   rcases ok.free _ (G6 SD.1) rfl with k'|k'<;>rw[show X.env.scope.names.lookup y=_ from k'] at k<;>cases k
  ·rw[h2] at e';cases e'
   exact#[c,h1,z.keeps kp]
 ·have e:Lx.cells.lookup y=FB c:=e
  rcases mem e with⟨h1,_⟩|⟨_,z⟩
  ·obtain⟨w,z⟩:=I.cell y c h1
   exact#[w,z.keeps kp]
  ·exact#[_,z]
 ·show H Lx.locals=FM
  rw[hL];exact I.IF.fresh (FN _)
 ·have e:Lx.cells.lookup y=FB c:=e
  rcases mem e with⟨h1,_⟩|⟨h1,_⟩
  ·exact I.Mz y c h1
  ·exact I.IF.fresh (LS h1)
 ·exact FP (show p∈([]:Fh (Fq×Jh))++[] from hp) (by simp)
theorem aaT {E:Fp->Fw->Prop}{xs:Fh V}{y:V}{v:Fp}{Q:Fp->Fw->Prop}(I:aE X pins σ H s) (hD:H D=FB (.lst xs)) (hz:xs.length<Gk) (r:br y v)
  (h: ∀s',aE X pins σ (aF H D (.lst (xs++[y]))) s'->Q .none s'):F4 (model X.prog X.w) X.A (call (.builtin "list.append") [.ref D,v]) Q E s:=by
 obtain⟨hz',HR,n,ri,e⟩:=I.IF D _ hD;have hl:=ri.length;refine append_at (hsz:=by rw[Gy];lia) e λh' sb RI=>?_;refine h { s with heap:=h' } (I.write (t':=s.toks) (by rw[hD];trivial) (.inl rfl) (λb u hb q=>(sb.2 b hb).trans q) #[_,RI] #[by rw[FR];exact hz,HR++[v],n+1,ri.append (.cons r .nil),?_]);rw[RI];simp
def PTs (X:Cx) (ifs:Fh HM) (t:TT):Prop:=
 ∀(pins:Fh (Fq×Jh)) (s:Fw) (σ:St) (H:Hp) (Q:GA->Hp->Prop),aE X pins σ H s->t σ H Q->
  F4 (model X.prog X.w) X.A (forIn ifs FS λc r=>if r=FS then do let ok<-isTrue c X.env (eval c X.env);pure (NQ ok) else pure (NQ r)) (TP X pins σ Q) X.xe s
def aaU:TT:=λ_ H Q=>Q FS H
theorem wq:PTs X [] aaU:=λ_ _ _ H _ I h=>wpAny_tests_nil #[H,I,h]
theorem qH {c:HM}{t:TT}(h:PT X c t):PTs X [c] t:=λpins s σ H Q I hw=>wpAny_tests_one (h pins s σ H Q I hw)
end
theorem yL {α:Type}{t:Sem α}{Q Q':α->Fw->Prop}{A:Hc}{E:Fp->Fw->Prop}{s:Fw}(h:F4 M A t Q (λ_ _=>False) s) (hQ: ∀a s,Q a s->Q' a s):F4 M A t Q' E s:=IS h hQ λ_ _ z=>IZ z
theorem re {prog:Gh}{w:GR}{A:Hc}{R:Result->Fw->Prop}{s:Fw}{elt target Ma:HM}{scope:Scope}{pos:Pos}{it acc:Fp}{env:Env}(I:FH->Fw->Prop)
  (turn: ∀n s,I n s->F4 (model prog w) A (RR it) (λr s₁=>match r with
   |none=>R (.ok .next) s₁
   |some v=>F4 (model prog w) A (O7 target it v) (λ_ s₁'=>F4 (model prog w) A (assign target env v) (λ_ s₂=>
     F4 (model prog w) A (forIn ifs FS λc r=>if r=FS then do let ok<-isTrue c env (eval c env);pure (NQ ok) else pure (NQ r)) (λok s₃=>
      if ok=FS then F4 (model prog w) A (eval elt env) (λx s₄=>
       F4 (model prog w) A (call (.builtin "list.append") [acc,x]) (λ_ s₅=> ∃m,m<n/\I m s₅) (Tw (model prog w) A env λe s'=>R (.error e) s') s₄) (Tw (model prog w) A env λe s'=>R (.error e) s') s₃
      else∃m,m<n/\I m s₃) (Tw (model prog w) A env λe s'=>R (.error e) s') s₂) (Tw (model prog w) A env λe s'=>R (.error e) s') s₁') (Tw (model prog w) A env λe s'=>R (.error e) s') s₁) (Tw (model prog w) A env λe s'=>R (.error e) s') s)
  (n:FH) (h:I n s):
  LO (model prog w) A (.compLoop (.ListComp elt [#[target,Ma,ifs,0]] scope pos) 0 it acc env) R s:=by
 refine codeAny_loop rfl I (λn s hI=>?_) n h;show F4 _ A ((compTurn (.ListComp elt [#[target,Ma,ifs,0]] scope pos) 0 it acc env).onRaise (λx=>do Qm x env;theTreesLotGoes x)) _ _ s;refine wpAny_noted ?_;rw[compTurn_list];refine FI (MR (FI (IS (turn n s hI) (λr s₁ h₁=>?_) λ_ _ h'=>h')));cases r with
 |none=>exact Gb h₁
 |some v=>
  refine FI (IS h₁ (λ_ s₁' h₁'=>?_) λ_ _ h'=>h');refine FI (IS h₁' (λ_ s₂ h₂=>FI (IS h₂ (λok s₃ h₃=>?_) λ_ _ h'=>h')) λ_ _ h'=>h');cases ok with
  |false=>exact Gb #[Go,h₃]
  |true=>
   exact FI (FI (IS h₃ (λx s₄ h₄=>FI (IS h₄ (λ_ s₅ h₅=>Gb (Gb #[Go,h₅])) λ_ _ h'=>h')) λ_ _ h'=>h'))
section
variable {X:Cx}
def tLc (wi:TI) (g:TG) (tt:TT) (te:TE) (vs:Fh FH):TE:=λσ H Q=>wi σ H λJ H1=> ∀D,H1 D=FM-> ∃W:FH->FH->Hp->Prop,(∃m,W 0 m (aF H1 D (.lst [])))/\ ∀i m H,W i m H->
 (J.stop i H/\Q (.ref D) H)\/(J.go i H/\ ∃Nx:Hp->Prop,(∀H',Nx H'-> ∃m',m'<m/\W (i+1) m' H')/\ ∀x H',J.yld i H x H'->g x (hX σ vs) H' λσ2 H2=>hX σ2 vs=hX σ vs/\tt σ2 H2 λb H3=>
  if b=FS then te σ2 H3 λy H4=> ∃acc,H4 D=FB (.lst acc)/\acc.length<Gk/\Nx (aF H4 D (.lst (acc++[y]))) else Nx H3)
theorem wE {pins:Fh (Fq×Jh)}{s:Fw}{σ:St}{H:Hp}{Q:VK}{elt tg Ma:HM}{ifs:Fh HM}{scope:Scope}{own:Fh (FY×FH)}{pos NK:Pos}{wi:TI}{g:TG}{tt:TT}{te:TE}{use:FA (Fp->Sem Nj)}{Qf:Fp->Fw->Prop}
  (hc:X.calm=FS) (hN:X.N.Nodup) (I:aE X pins σ H s) (hi:PI X tg Ma wi) (ok:tu X.N X.env.scope scope own)
  (hg: ∀(s:Fw) (H:Hp) (C:Fq) (cl:Fh (FY×Fq)) (fp:Fh Fq),PG (X.Sn s H scope (Lh scope cl C X.env) fp) tg g) (ht: ∀(s:Fw) (H:Hp) (C:Fq) (cl:Fh (FY×Fq)) (fp:Fh Fq),PTs (X.Sn s H scope (Lh scope cl C X.env) fp) ifs tt)
  (he: ∀(s:Fw) (H:Hp) (C:Fq) (cl:Fh (FY×Fq)) (fp:Fh Fq),PE (X.Sn s H scope (Lh scope cl C X.env) fp) elt te) (hs: ∀x,KU Ma X.env x=pure x)
  (h:tLc wi g tt te (own.map (·.2)) σ H Q)
  (hRR: ∀D C s' m H',aE X pins σ H' s'->Q (.ref D) H'->s'.heap.Ns C m->ph X pins H' C->compPost (model X.prog X.w) X.A X.xe use Qf (.ref D) C (.ok .next) s'):
  F4 (model X.prog X.w) X.A (comprehension (.ListComp elt [#[tg,Ma,ifs,0]] scope pos) scope X.env NK (newList []) Gc (eval Ma X.env) use) Qf X.xe s:=by
 have RJ: ∀y∈scope.names,y.2= .free-> ∃c,X.env.cells.lookup y.1=FB c:=λy hy e=>by
  rcases ok.free y hy e with k|k
  ·exact I.ok.has _ (.inl k)
  ·exact I.ok.has _ (.inr k)
 refine wpAny_comprehension_free (use:=use) rfl hs (vz RJ) ok.kind (λy hy e=>by rw[ok.uniq y hy,e])
  (b9 (hi pins s σ H _ I h) λxv s1 hx=>b9 hx λitv s2 h2=>?_)
 obtain⟨it,fp,tn,J,H2,e,I2,T,st2,f2,q⟩:=h2;subst e;refine wpAny_newObj_type (ua ?_) (by show 0<=Gk;decide);generalize hD:s2.heap.objs.size=D;have hDn:H2 D=FM:=I2.IF.fresh (Kq hD);obtain⟨W,⟨m0,w0⟩,turn⟩:=q D hDn;generalize hs3:({ s2 with heap:=s2.heap.push { cls:= .type "list",data:= .seq ([]:Fh Fp).toArray } } :Fw)=s3;have I3:aE X pins σ (aF H2 D (.lst [])) s3:=by
  rw[<-hs3];refine I2.laid (t':=s2.toks) (λb o e=>FJ _ e) (Kq hD) #[F6 _,[],0, .nil,?_];rw[<-hD];exact Hk _ rfl
 have h3:s3.heap=s2.heap.push { cls:= .type "list",data:= .seq ([]:Fh Fp).toArray } :=by rw[<-hs3]
 have sz: ∀b∈fp,b<s2.heap.objs.size:=λb hb=>by
  obtain⟨o,e,_⟩:=T.obj _ _ st2 b hb;exact F7 e
 have f3: ∀b∈fp,ph X pins (aF H2 D (.lst [])) b/\b<s3.heap.objs.size:=λb hb=>by
  have UR:=sz b hb;refine#[#[?_,(f2 b hb).2],by rw[h3,HY];exact Jw UR];rw[ac (by rw[<-hD];exact Hi UR)];exact(f2 b hb).1
 have st3:tn 0 s3.heap:=T.keep _ _ _ st2 λb _ o e=>by rw[h3];exact FJ _ e
 have I4:=tE I3 ok hN f3
 have pg:=hg s3 (aF H2 D (.lst [])) s3.heap.objs.size (Ir (s3.heap.objs.size+1) scope.names (b3 X.env.cells scope.names [])) fp
 have pt:=ht s3 (aF H2 D (.lst [])) s3.heap.objs.size (Ir (s3.heap.objs.size+1) scope.names (b3 X.env.cells scope.names [])) fp
 have pe:=he s3 (aF H2 D (.lst [])) s3.heap.objs.size (Ir (s3.heap.objs.size+1) scope.names (b3 X.env.cells scope.names [])) fp
 show LO _ _ (.compStart (.ListComp elt [#[tg,Ma,ifs,0]] scope pos) 0 (.ref it) (.ref D) (Lh scope (Ir (s3.heap.objs.size+1) scope.names (b3 X.env.cells scope.names [])) s3.heap.objs.size X.env)) (compPost (model X.prog X.w) X.A X.xe use Qf (.ref D) s3.heap.objs.size) { s3 with heap:=NN (s3.heap.push { cls:= .type "dict",data:= .dict [].toArray }) scope.names }
 have nfp: ∀b∈fp,(aF H2 D (.lst [])) b=FM:=λb hb=>(f3 b hb).1.1
 generalize hce:Lh scope (Ir (s3.heap.objs.size+1) scope.names (b3 X.env.cells scope.names [])) s3.heap.objs.size X.env=ce at I4 pg pt pe ⊢;have cL:ce.locals=s3.heap.objs.size:=by subst hce;rfl
 generalize hH3:aF H2 D (.lst [])=H3 at I3 I4 pg pt pe w0 nfp f3;generalize hs4:({ s3 with heap:=NN (s3.heap.push { cls:= .type "dict",data:= .dict [].toArray }) scope.names } :Fw)=s4 at I4 ⊢;have st4:tn 0 s4.heap:=T.keep _ _ _ st3 λb _ o e=>by rw[<-hs4];exact O8 _ _ _ _ (FJ _ e)
 have Ue: ∀ {σ':St}{H':Hp}{s':Fw},aE (X.Sn s3 H3 scope ce fp) [] σ' H' s'->(∀b∈fp,H' b=FM)-> ∀b∈fp,ph (X.Sn s3 H3 scope ce fp) [] H' b:=λ{σ' H' s'} I' hn b hb=>
  #[hn b hb,(I'.ok.exf b hb).1,I'.ok.Tb b hb, .inl hb,λx c e=>(I'.ok.exf b hb).2 x c e,λp hp=>FP (show p∈([]:Fh (Fq×Jh))++[] from hp) (by simp)]
 have loop:LO (model X.prog X.w) X.A (.compLoop (.ListComp elt [⟨tg,Ma,ifs,0⟩] scope pos) 0 (.ref it) (.ref D) ce) (compPost (model X.prog X.w) X.A X.xe use Qf (.ref D) s3.heap.objs.size) s4:=by
  refine re (λn s'=> ∃i H',aE (X.Sn s3 H3 scope ce fp) [] (hX σ (own.map (·.2))) H' s'/\tn i s'.heap/\(∀b∈fp,H' b=FM)/\W i n H') ?_ m0 #[0,H3,I4,st4,nfp,w0];rintro n s5 ⟨i,H5,I5,st5,n5,w5⟩;rcases turn i n H5 w5 with⟨stop,qq⟩|⟨go,Nx,hNx,step⟩
  ·have td:=T.done (X.Sn s3 H3 scope ce fp) rfl rfl rfl hc i [] s5 _ H5 (λ_ _=>False) I5 (Ue I5 n5) st5 stop
   refine yL td λr s6 ⟨hr,I6⟩=>?_;subst hr;have I7:aE X pins σ H5 s6:=I3.Wu (ch:=fp) I6.os I6.base I6.IF I6.bare λb hb=>#[(f3 b hb).1.2.2.2.1,(f3 b hb).1.2.1,(f3 b hb).1.2.2.2.2.1,(f3 b hb).1.2.2.2.2.2]
   have nC:H5 s3.heap.objs.size=FM:=by
    have z:H5 ce.locals=FM:=I6.free;rw[cL] at z;exact z
   obtain⟨m,hn,_⟩:=I6.loc;have hn:s6.heap.Ns ce.locals m:=hn;rw[cL] at hn;exact hRR D s3.heap.objs.size s6 m H5 I7 qq hn (I3.aaE (FN _) nC)
  ·have ti:=T.item (X.Sn s3 H3 scope ce fp) rfl rfl rfl hc i [] s5 _ H5 (λ_ _=>False) I5 (Ue I5 n5) st5 go
   refine yL ti λr s6 ⟨u,hr,h6⟩=>?_;subst hr;refine yL h6 λ_ s7 ⟨x,H7,I7,r7,y7,st7,n7⟩=>?_;have I7':=I7.pinned (Ue I7 n7) (T.obj _ _ st7);refine yL (pg _ s7 _ H7 x u _ I7' r7 (step x H7 y7)) λ_ s8 ⟨σ8,H8,I8,hw8,q8⟩=>?_;refine yL (pt _ s8 σ8 H8 _ I8 q8) λb s9 ⟨H9,I9,q9⟩=>?_;have eN: ∀ {s':Fw}{H':Hp},aE (X.Sn s3 H3 scope ce fp) ([]++mU fp s7.heap) σ8 H' s'->Nx H'-> ∃m,m<n/\ ∃i H',aE (X.Sn s3 H3 scope ce fp) [] (hX σ (own.map (·.2))) H' s'/\tn i s'.heap/\(∀b∈fp,H' b=FM)/\W i m H':=λ{s' H'} I' nx=>by
    obtain⟨m',hm,w'⟩:=hNx H' nx;have afX: ∀b∈fp,∀o,s7.heap.get? b=FB o->s'.heap.get? b=FB o/\H' b=FM:=λb hb o e=>
     let z:=I'.pin (b,o) (Ht _ (Ht _ (jG hb e)))
     #[z.1,z.2.1]
    have hl:(hX σ (own.map (·.2))).length=σ8.length:=by rw[<-hw8,iE]
    refine#[m',hm,i+1,H',(I'.PN (pins:=[])).weak hl (λj v e=>?_),T.keep _ _ _ st7 λb hb o e=>(afX b hb o e).1,λb hb=>?_,w']
    ·rw[<-hw8] at e
     exact(ld e).1
    ·obtain⟨o,e,_⟩:=T.obj _ _ st7 b hb
     exact(afX b hb o e).2
   cases b with
   |false=>
    simp only[Ji,MX] at q9 ⊢;exact eN I9 q9
   |true=>
    simp only[Tu] at q9 ⊢;refine yL (pe _ s9 σ8 H9 _ I9 q9) λz s10 ⟨yv,H10,I10,r10,acc,alb,alc,nx⟩=>?_;exact aaT (X:=X.Sn s3 H3 scope ce fp) I10 alb alc r10 λs11 I11=>eN I11 nx
 exact codeAny_compStart_list loop (T.self X.A 0 _ _ _ st4 loop)
theorem BM {elt tg Ma:HM}{scope:Scope}{pos:Pos}{g:TG}{tt:TT}{te:TE}(hc:X.calm=FS) (hN:X.N.Nodup) (hi:PI X tg Ma wi) (ok:tu X.N X.env.scope scope own)
  (hg: ∀(s:Fw) (H:Hp) (C:Fq) (cl:Fh (FY×Fq)) (fp:Fh Fq),PG (X.Sn s H scope (Lh scope cl C X.env) fp) tg g) (ht: ∀(s:Fw) (H:Hp) (C:Fq) (cl:Fh (FY×Fq)) (fp:Fh Fq),PTs (X.Sn s H scope (Lh scope cl C X.env) fp) ifs tt)
  (he: ∀(s:Fw) (H:Hp) (C:Fq) (cl:Fh (FY×Fq)) (fp:Fh Fq),PE (X.Sn s H scope (Lh scope cl C X.env) fp) elt te) (hs: ∀x,KU Ma X.env x=pure x:=by intro _;rfl):
  PE X (.ListComp elt [#[tg,Ma,ifs,0]] scope pos) (tLc wi g tt te (own.map (·.2))):=by
 rw[01];rw[eval_ListComp];refine wE hc hN I hi ok hg ht he hs h λD C s' m H' I' q hn f=>#[m,hn,λh'' sb=>?_];obtain⟨f0,f1,f2,f3,f4,f5⟩:=f;exact#[.ref D,H',I'.turned (t':=s'.toks) (λb o hb e=>(sb.2 b hb).trans e) f0 f1 f3 f4 f5,Go,q]
theorem tV {i:FH}{y:FY}{elt tg Ma:HM}{scope:Scope}{pos afY:Pos}{g:TG}{tt:TT}{te:TE}(hc:X.calm=FS) (hN:X.N.Nodup) (hy:X.N[i]?=FB y) (hyl:X.env.scope.names.lookup y=FB .local)
  (hsw:Kp (.ListComp elt [#[tg,Ma,ifs,0]] scope pos) (FB (.Name y py)) afY.line X.env=pure FS) (hi:PI X tg Ma wi) (ok:tu X.N X.env.scope scope own)
  (hg: ∀(s:Fw) (H:Hp) (C:Fq) (cl:Fh (FY×Fq)) (fp:Fh Fq),PG (X.Sn s H scope (Lh scope cl C X.env) fp) tg g) (ht: ∀(s:Fw) (H:Hp) (C:Fq) (cl:Fh (FY×Fq)) (fp:Fh Fq),PTs (X.Sn s H scope (Lh scope cl C X.env) fp) ifs tt)
  (he: ∀(s:Fw) (H:Hp) (C:Fq) (cl:Fh (FY×Fq)) (fp:Fh Fq),PE (X.Sn s H scope (Lh scope cl C X.env) fp) elt te) (hs: ∀x,KU Ma X.env x=pure x:=by intro _;rfl):
  PS X (.Assign [.Name y py] (.ListComp elt [#[tg,Ma,ifs,0]] scope pos) afY) (afH (tLc wi g tt te (own.map (·.2))) (xL i)):=by
 rw[04];rw[exec_Assign_Name_used _ _ _ _ hsw];refine FI (MR (FI ?_));show F4 _ X.A (do let _<-comprehension (.ListComp elt [#[tg,Ma,ifs,0]] scope pos) scope X.env (firstIterPos [#[tg,Ma,ifs,0]] pos) (newList []) Gc (eval Ma X.env) (FB (assign (.Name y py) X.env))) _ _ s;have h:tLc wi g tt te (own.map (·.2)) σ H (λx H1=>xL i x σ H1 D.nx):=h
 refine FI (b9 (wE (Qf:=λ_ s'=>SP X pins D .next s') hc hN I hi ok hg ht he hs h λL C s' m H' I' q hn f=>?_) λ_ s' hq=>Gb (Gb hq));show F4 _ _ (assign (.Name y py) X.env (.ref L)) _ _ _;refine wpAny_assign_Name (pY (v:=V.ref L) I' hN hy (.inl hyl) rfl (λs2 I2 ⟨a,sb,ha⟩=>?_) (.inr hyl));obtain⟨f0,f1,f2,f3,f4,f5⟩:=f;have haC:C≠a:=by
  rcases ha with z|z
  ·rw[z];exact f1
  ·exact λe=>f4 y a z e.symm
 refine#[m,hn.sameBut sb haC,λh3 sb3=>?_];exact#[_,H',I2.turned (t':=s2.toks) (λb o hb e=>(sb3.2 b hb).trans e) f0 f1 f3 f4 f5,q]
theorem wK {elt:HM}{scope:Scope}{pos py:Pos}{y:FY}{l:FH}{env:Env}(hk:env.scope.kind= .function) (hy:env.scope.names.lookup y=FB .local) (hl:(py.line == pos.line)=FS)
  (ha:(scope.names.any λ(n,k)=>n == y&&(k == .local||k == .cell))=Gc):Kp (.ListComp elt gs scope pos) (FB (.Name y py)) l env=pure FS:=by
 have ky:env.kindOf y=FB .local:=hy
 have hb:env.blockKind= .function:=by unfold Env.blockKind;rw[hk];rfl
 unfold Kp;simp only[hb,ky,ha,HM.pos,hl]
 rfl
end
theorem ko {K:Fm}{a:Fq}{xs:Fh V}{g:TG}{tt:TT}{te:TE}{σ:St}{H1:Hp}{Qd:Hp->Prop}(Pv:FH->Hp->Prop) (h0:Pv 0 (aF H1 D (.lst []))) (hl: ∀i H,i<=xs.length->Pv i H->cw K H a xs)
  (hs: ∀i x H,xs[i]?=FB x->Pv i H->g x (hX σ vs) H λσ2 H2=>hX σ2 vs=hX σ vs/\tt σ2 H2 λb H3=>
   if b=FS then te σ2 H3 λy H4=> ∃acc,H4 D=FB (.lst acc)/\acc.length<Gk/\Pv (i+1) (aF H4 D (.lst (acc++[y]))) else Pv (i+1) H3) (hd: ∀H,Pv xs.length H->Qd H):
  ∃W:FH->FH->Hp->Prop,(∃m,W 0 m (aF H1 D (.lst [])))/\ ∀i m H,W i m H->
   ((Yr K a).stop i H/\Qd H)\/((Yr K a).go i H/\ ∃Nx:Hp->Prop,(∀H',Nx H'-> ∃m',m'<m/\W (i+1) m' H')/\ ∀x H',(Yr K a).yld i H x H'->g x (hX σ vs) H' λσ2 H2=>hX σ2 vs=hX σ vs/\tt σ2 H2 λb H3=>
    if b=FS then te σ2 H3 λy H4=> ∃acc,H4 D=FB (.lst acc)/\acc.length<Gk/\Nx (aF H4 D (.lst (acc++[y]))) else Nx H3):=by
 refine#[λi m H=>m=xs.length-i/\i<=xs.length/\Pv i H,#[xs.length,by simp,F6 _,h0],?_];rintro i m H ⟨rfl,hi,p⟩;have q:=hl i H hi p;by_cases UR:i<xs.length
 ·refine .inr #[#[xs,xs[i],q,by simp [UR]],Pv (i+1),λH' p'=>#[xs.length-(i+1),by lia,Go,UR,p'],λx H' y=>?_]
  obtain⟨e,y⟩:=y;subst e;exact hs i x _ (y xs q) p
 ·have e:i=xs.length:=by lia
  subst e;exact .inl #[#[xs,q,FN _],hd H p]
def vh (N:Fh FY) (sc scope:Scope) (own:Fh (FY×FH)):GA:=
 (match scope.kind with| .function=>FS|_=>Gc)&&(scope.names.all λy=>decide (scope.names.lookup y.1=FB y.2))&&(own.all λp=>decide (N[p.2]?=FB p.1))&&
  (scope.names.all λy=>match y.2 with
   | .free=>(match sc.names.lookup y.1 with|some .cell=>FS|some .free=>FS|_=>Gc)
   | .local=>decide (y.1∈own.map (·.1))||decide (y.1∉N)
   | .cell=>decide (y.1∈own.map (·.1))||decide (y.1∉N)
   |_=>FS)
theorem iT {sc scope:Scope}(h:vh N sc scope own=FS):tu N sc scope own:=by
 unfold vh at h;simp only[G7,Md,N8] at h;obtain⟨⟨⟨h1,h2⟩,h3⟩,h4⟩:=h;refine#[?_,h2,h3,λy hy e=>?_,λy hy e=>?_]
 ·split at h1
  ·assumption
  ·cases h1
 ·have q:=h4 y hy
  simp only[e] at q;split at q<;>first|exact .inl (by assumption)|exact .inr (by assumption)|cases q
 ·have q:=h4 y hy
  rcases e with e|e<;>(simp only[e,MF,N8] at q;exact q)
section
variable {κ:Type} [DecidableEq κ]
def bO (aC:Fh (κ×V)) (k:κ):FA V:=(aC.find? λkv=>decide (kv.1=k)).map (·.2)
def dB (aC:Fh (κ×V)) (k:κ) (v:V):Fh (κ×V):=
 if(aC.any λkv=>decide (kv.1=k))=FS then aC.map (λkv=>if kv.1=k then(kv.1,v) else kv) else aC++[(k,v)]
def fE (aC:Fh (κ×V)) (k:κ):Fh (κ×V):=aC.filter λkv=>decide (kv.1≠k)
theorem cg {p:κ×V}{r:Fh (κ×V)}{k:κ}(e:p.1=k):bO (p::r) k=FB p.2:=by simp [bO,Hr,e]
theorem b8 {p:κ×V}{r:Fh (κ×V)}{k:κ}(e: ¬p.1=k):bO (p::r) k=bO r k:=by simp [bO,Hr,e]
theorem kc (k:κ): ∀aC:Fh (κ×V),(aC.any λkv=>decide (kv.1=k))=(bO aC k).isSome
 |[]=>rfl
 |p::r=>by
  rw[NP];by_cases e:p.1=k
  ·simp only[cg e,GQ e,Tx,Uv]
  ·rw[b8 e,Gg e,Sv];exact kc k r
theorem r8 (k j:κ) (y:V): ∀aC:Fh (κ×V),bO (aC.map λkv=>if kv.1=k then(kv.1,y) else kv) j=(bO aC j).map λx=>if j=k then y else x
 |[]=>rfl
 |p::r=>by
  have ih:=r8 k j y r;rw[FX];by_cases h:p.1=k
  ·rw[Fv h]
   by_cases e:p.1=j
   ·rw[cg (p:=(p.1,y)) e,cg e,Ms,Fv (e.symm.trans h)]
   ·rw[b8 (p:=(p.1,y)) e,b8 e,ih]
  ·rw[Fs h]
   by_cases e:p.1=j
   ·rw[cg (p:=p) e,cg e,Ms,Fs (λz=>h (e.trans z))]
   ·rw[b8 (p:=p) e,b8 e,ih]
theorem pE (k j:κ) (y:V): ∀aC:Fh (κ×V),bO aC k=FM->bO (aC++[(k,y)]) j=if j=k then FB y else bO aC j
 |[],_=>by
  by_cases e:k=j
  ·rw[Fv e.symm];exact cg (p:=(k,y)) e
  ·rw[Fs (λz=>e z.symm)];exact b8 (p:=(k,y)) e
 |p::r,hn=>by
  rw[WE];have hk: ¬p.1=k:=λz=>by rw[cg z] at hn;cases hn
  rw[b8 hk] at hn;have ih:=pE k j y r hn;by_cases e:p.1=j
  ·rw[cg e,cg e,Fs (λz=>hk (e.trans z))]
  ·rw[b8 e,b8 e,ih]
theorem gI (aC:Fh (κ×V)) (k j:κ) (y:V):bO (dB aC k y) j=if j=k then FB y else bO aC j:=by
 unfold dB;by_cases a:(aC.any λkv=>decide (kv.1=k))=FS
 ·rw[Fv a,r8]
  rw[kc] at a;by_cases e:j=k
  ·obtain⟨x,hx⟩:=K8.mp a
   rw[Fv e,e,hx,Ms,Fv rfl]
  ·rw[Fs e]
   cases bO aC j with
   |none=>rfl
   |some x=>rw[Ms,Fs e]
 ·rw[Fs a]
  refine pE k j y aC ?_;rw[kc] at a;cases q:bO aC k with
  |none=>rfl
  |some x=>rw[q] at a;exact(a rfl).elim
theorem cD (aC:Fh (κ×V)) (k:κ) (v:V):(dB aC k v).length<=aC.length+1:=by
 unfold dB;split
 ·rw[FE];lia
 ·rw[FR,FG,Ku];lia
theorem fQ.MH {o:FA V}{u:FA Fp}(r:fQ o u):o.isSome=u.isSome:=by
 cases o with
 |none=>cases u with
  |none=>rfl
  |some _=>exact(show False from r).elim
 |some _=>cases u with
  |none=>exact(show False from r).elim
  |some _=>rfl
theorem KV.val {aC:Fh (κ×V)}(r:KV aC vs) (k:κ):fQ (bO aC k) (Qr vs k):=by
 unfold KV at r
 induction r with
 |nil=>exact Hs
 | @cons p q ps qs h t ih=>
  obtain⟨h1,h2⟩:=h;by_cases e:p.1=k
  ·have e':q.1=k:=h1.symm.trans e
   have b:Qr (q::qs) k=FB q.2:=by simp [Qr,Hr,e']
   rw[cg e,b];exact h2
  ·have e': ¬q.1=k:=λz=>e (h1.trans z)
   have b:Qr (q::qs) k=Qr qs k:=by simp [Qr,Hr,e']
   rw[b8 e,b];exact ih
theorem KV.any {aC:Fh (κ×V)}(r:KV aC vs) (k:κ):(aC.any λkv=>decide (kv.1=k))=vs.any λkv=>decide (kv.1=k):=by
 unfold KV at r
 induction r with
 |nil=>rfl
 |cons h t ih=>rw[NP,NP,ih,h.1]
theorem KV.aaV {aC:Fh (κ×V)}(r:KV aC vs) (k:κ) {y:V}{u:Fp}(ry:br y u):
  KV (aC.map λkv=>if kv.1=k then(kv.1,y) else kv) (vs.map λkv=>if kv.1=k then(kv.1,u) else kv):=by
 unfold KV at r ⊢
 induction r with
 |nil=>exact .nil
 | @cons p q ps qs h t ih=>
  rw[FX,FX];refine .cons ?_ ih;obtain⟨h1,h2⟩:=h;by_cases e:p.1=k
  ·rw[Fv e,Fv (h1.symm.trans e)];exact#[h1,ry]
  ·rw[Fs e,Fs (λz=>e (h1.trans z))];exact#[h1,h2]
theorem KV.put {aC:Fh (κ×V)}(r:KV aC vs) (k:κ) {y:V}{u:Fp}(ry:br y u):KV (dB aC k y) (stored vs k u):=by
 unfold dB stored;rw[r.any k];by_cases e:(vs.any λkv=>decide (kv.1=k))=FS
 ·rw[Fv e,Fv e];exact r.aaV k ry
 ·rw[Fs e,Fs e];exact Zp r #[Go,ry]
theorem KV.drop {aC:Fh (κ×V)}(r:KV aC vs) (k:κ):KV (fE aC k) (without vs k):=by
 unfold KV at r ⊢;unfold fE without
 induction r with
 |nil=>exact .nil
 | @cons p q ps qs h t ih=>
  obtain⟨h1,h2⟩:=h;rw[IP,IP];by_cases e:p.1=k
  ·have a: ¬decide (p.1≠k)=FS:=by simp [e]
   have b: ¬decide (q.1≠k)=FS:=by simp [h1.symm.trans e]
   rw[Fs a,Fs b];exact ih
  ·have e': ¬q.1=k:=λz=>e (h1.trans z)
   have a:decide (p.1≠k)=FS:=by simp [e]
   have b:decide (q.1≠k)=FS:=by simp [e']
   rw[Fv a,Fv b];exact .cons #[h1,h2] ih
theorem KV.length {aC:Fh (κ×V)}(r:KV aC vs):aC.length=vs.length:=RC r
theorem Cr (aC:Fh (κ×V)) (k:κ):(fE aC k).length<=aC.length:=Iv _ _
end
theorem nA {P:Gh}{w:GR}{k:be}{u:Fp}(r:br (kV k) u):(aW P w).is k u=FS:=by
 cases k with
 |inl i=>obtain⟨t,e⟩:=(show∃t,u=Kv i t from r);subst e;exact ur P w i t
 |inr x=>obtain⟨t,e⟩:=(show∃t,u=OM x t from r);subst e;exact um P w x t
theorem qb {P:Gh}{w:GR} : ∀ {ks:Fh be}{us:Fh Fp},a8 (ks.map kV) us->ItemsAre (aW P w) ks us
 |[],_,r=>by rw[Qq] at r;cases r;exact .nil
 |k::ks,_,r=>by
  rw[FX] at r;cases r with
  |cons h t=>exact .cons (nA h) (qb t)
abbrev KT (H:Hp):Fh (Fh be×V)->Fh (Fh be×Fq×Fp)->Prop:=Paired λp q=>p.1=q.1/\H q.2.1=FB (.tup (p.1.map kV))/\br p.2 q.2.2
theorem KT.val {H:Hp}{aC:Fh (Fh be×V)}{xs:Fh (Fh be×Fq×Fp)}(r:KT H aC xs) (k:Fh be):fQ (bO aC k) ((Rn xs k).map (·.2)):=by
 induction r with
 |nil=>exact Hs
 | @cons p q ps qs h t ih=>
  obtain⟨h1,_,h2⟩:=h;by_cases e:p.1=k
  ·have e':q.1=k:=h1.symm.trans e
   have b:Rn (q::qs) k=FB q.2:=by simp [Rn,Hr,e']
   rw[cg e,b];exact h2
  ·have e': ¬q.1=k:=λz=>e (h1.trans z)
   have b:Rn (q::qs) k=Rn qs k:=by simp [Rn,Hr,e']
   rw[b8 e,b];exact ih
theorem KT.aaV {H:Hp}{aC:Fh (Fh be×V)}{xs:Fh (Fh be×Fq×Fp)}(r:KT H aC xs) (k:Fh be) {y:V}{u:Fp}(ry:br y u):
  KT H (aC.map λkv=>if kv.1=k then(kv.1,y) else kv) (xs.map (putAt k u)):=by
 induction r with
 |nil=>exact .nil
 | @cons p q ps qs h t ih=>
  rw[FX,FX];refine .cons ?_ ih;obtain⟨h1,h2,h3⟩:=h;unfold putAt;by_cases e:p.1=k
  ·rw[Fv e,Fv (h1.symm.trans e)];exact#[h1,h2,ry]
  ·rw[Fs e,Fs (λz=>e (h1.trans z))];exact#[h1,h2,h3]
theorem KT.put {H:Hp}{aC:Fh (Fh be×V)}{xs:Fh (Fh be×Fq×Fp)}(r:KT H aC xs) (k:Fh be) {b:Fq}{y:V}{u:Fp}(hb:H b=FB (.tup (k.map kV))) (ry:br y u):
  KT H (dB aC k y) (storedH xs k b u):=by
 have e:(aC.any λkv=>decide (kv.1=k))=(Rn xs k).isSome:=by
  rw[kc,(r.val k).MH,Ip]
 unfold dB storedH;rw[e];by_cases q:(Rn xs k).isSome=FS
 ·rw[Fv q,Fv q];exact r.aaV k ry
 ·rw[Fs q,Fs q];exact Zp r #[Go,hb,ry]
theorem KT.keeps {H H':Hp}{aC:Fh (Fh be×V)}{xs:Fh (Fh be×Fq×Fp)}(r:KT H aC xs) (ht: ∀b ys,H b=FB (.tup ys)->H' b=FB (.tup ys)):KT H' aC xs:=
 Paired.Nq r λ_ _ z=>#[z.1,ht _ _ z.2.1,z.2.2]
section
variable {P:Gh}{w:GR}{H:Hp}{h:Ha}{a:Fq}
theorem Yx {u:HO}(ok:ij P w H h) (e:Rd H a u):cy P w H h a u:=e.ok ok
theorem nQ {aC:Fh (be×V)}(ok:ij P w H h) (e:Rd H a (.dK aC)):aC.length<=Gk/\(a == IQ)=Gc/\ ∃vs,KV aC vs/\h.DictOf (aW P w) a vs:=
 show cy P w H h a (.dK aC) from Yx ok e
theorem Yy {aC:Fh (be×V)}(ok:ij P w H h) (e:H a=FB (.dK aC)):aC.length<=Gk/\(a == IQ)=Gc/\ ∃vs,KV aC vs/\h.DictOf (aW P w) a vs:=nQ ok (.inl e)
theorem jH {ks:Fh be}(ok:ij P w H h) (e:H a=FB (.tup (ks.map kV))):(NM (aW P w)).is h ks a:=by
 obtain⟨_,HR,r,o,h1,h2,n,h3⟩:=(show cy P w H h a (.tup (ks.map kV)) from ok a _ e);exact#[o,HR.toArray,n,h1,h2,h3,by simpa using qb r]
theorem pP {aC:Fh (Fh be×V)}(ok:ij P w H h) (e:Rd H a (.dT aC)):aC.length<=Gk/\(a == IQ)=Gc/\
  ∃xs,KT H aC xs/\h.DictOfH (NM (aW P w)) a xs:=by
 obtain⟨z,y,xs,r,o,es,ep,h1,h2,h3,h4,h5⟩:=(show cy P w H h a (.dT aC) from Yx ok e);refine#[z,y,xs,r,o,es,ep,h1,h2,h3,h4,λx hx=>?_,h5];have all: ∀ {l:Fh (Fh be×V)}{m:Fh (Fh be×Fq×Fp)},KT H l m-> ∀x∈m,(NM (aW P w)).is h x.1 x.2.1:=by
  intro l m q
  induction q with
  |nil=>intro x hx;exact nomatch hx
  | @cons p q ps qs hq t ih=>
   intro x hx;rcases FF.mp hx with e|hx
   ·subst e
    exact jH ok (by rw[<-hq.1];exact hq.2.1)
   ·exact ih x hx
 exact all r x hx
theorem afZ {aC:Fh (Fh be×V)}(ok:ij P w H h) (e:H a=FB (.dT aC)):aC.length<=Gk/\(a == IQ)=Gc/\
  ∃xs,KT H aC xs/\h.DictOfH (NM (aW P w)) a xs:=pP ok (.inl e)
end
def gz (H:Hp) (a:Fq) (y:V) (r:FA V):Prop:=
 (∃aC k,Rd H a (.dK aC)/\y=kV k/\r=bO aC k)\/ ∃aC k b,Rd H a (.dT aC)/\y= .ref b/\H b=FB (.tup (k.map kV))/\r=bO aC k
def tR (H:Hp) (a:Fq) (y v:V) (H':Hp):Prop:=
 (∃aC k,H a=FB (.dK aC)/\y=kV k/\aC.length<Gk/\H'=aF H a (.dK (dB aC k v)))\/
 ∃aC k b,H a=FB (.dT aC)/\y= .ref b/\H b=FB (.tup (k.map kV))/\aC.length<Gk/\H'=aF H a (.dT (dB aC k v))
theorem gz.k {H:Hp}{a:Fq}{aC:Fh (be×V)}{k:be}(e:H a=FB (.dK aC)):gz H a (kV k) (bO aC k):= .inl #[aC,k, .inl e,Go,Go]
theorem tR.k {H:Hp}{a:Fq}{aC:Fh (be×V)}{k:be}{v:V}(e:H a=FB (.dK aC)) (hl:aC.length<Gk):tR H a (kV k) v (aF H a (.dK (dB aC k v))):= .inl #[aC,k,e,Go,hl,Go]
section
variable {X:Cx}{pins:Fh (Fq×Jh)}{σ:St}{H:Hp}{s:Fw}{a:Fq}{y v:V}{u r:Fp}{o:FA V}{A:Hc}{E:Fp->Fw->Prop}
theorem aE.big (I:aE X pins σ H s):IQ<s.heap.objs.size:=by
 have h:Jx<s.heap.objs.size:=(I.mod.glob.keeps I.bk).lt;exact FH.lt_trans [01] h
theorem zU {Q:Fp->Fw->Prop}(hu:A.units+1<P4) (I:aE X pins σ H s) (g:gz H a y (FB v)) (ry:br y u) (h: ∀w' s',aE X pins σ H s'->br v w'->Q w' s'):
  F4 (model X.prog X.w) A (Tt (.ref a) u) Q E s:=by
 rcases g with⟨aC,k,e,ey,l⟩|⟨aC,k,b,e,ey,eb,l⟩
 ·subst ey
  obtain⟨z,hd,vs,rel,dd⟩:=nQ I.IF e;obtain⟨w',hw,Ug⟩:=fQ.some_of (v:=v) (o:=Qr vs k) (by rw[l];exact rel.val k);exact wpAny_getItem_of (nA ry) dd.mapOf hw (h w' _ (I.tok _) Ug)
 ·subst ey
  cases (show u=F9 b from ry);obtain⟨z,hd,xs,rel,dd⟩:=pP I.IF e;obtain⟨w',hw,Ug⟩:=fQ.some_of (v:=v) (o:=(Rn xs k).map (·.2)) (by rw[l];exact rel.val k);obtain⟨p,hp,hp2⟩:=Gs.mp hw;refine Zg (Ky hu) (jH I.IF eb) dd hp ?_;rw[hp2];exact h w' _ (I.tok _) Ug
theorem ald {Q:Fp->Fw->Prop}(hu:A.units+1<P4) (I:aE X pins σ H s) (g:gz H a y o) (ry:br y u) (h: ∀s',aE X pins σ H s'->Q (.bool o.isSome) s'):
  F4 (model X.prog X.w) A (IJ .In u (.ref a)) Q E s:=by
 rcases g with⟨aC,k,e,ey,l⟩|⟨aC,k,b,e,ey,eb,l⟩
 ·subst ey
  obtain⟨z,hd,vs,rel,dd⟩:=nQ I.IF e;refine wpAny_in_of (nA ry) hd dd.mapOf ?_;rw[<-(rel.val k).MH,<-l];exact h _ (I.tok _)
 ·subst ey
  cases (show u=F9 b from ry);obtain⟨z,hd,xs,rel,dd⟩:=pP I.IF e;refine wpAny_in_heap (Ky hu) (jH I.IF eb) hd dd ?_;have q:=(rel.val k).MH;rw[Ip] at q;rw[<-q,<-l];exact h _ (I.tok _)
theorem DY {Q:Fp->Fw->Prop}(hu:A.units+1<P4) (I:aE X pins σ H s) (g:gz H a y o) (ry:br y u) (h: ∀s',aE X pins σ H s'->Q (.bool (!o.isSome)) s'):
  F4 (model X.prog X.w) A (IJ .NotIn u (.ref a)) Q E s:=by
 rcases g with⟨aC,k,e,ey,l⟩|⟨aC,k,b,e,ey,eb,l⟩
 ·subst ey
  obtain⟨z,hd,vs,rel,dd⟩:=nQ I.IF e;refine wpAny_notIn_of (nA ry) hd dd.mapOf ?_;rw[<-(rel.val k).MH,<-l];exact h _ (I.tok _)
 ·subst ey
  cases (show u=F9 b from ry);obtain⟨z,hd,xs,rel,dd⟩:=pP I.IF e;refine wpAny_notIn_heap (Ky hu) (jH I.IF eb) hd dd ?_;have q:=(rel.val k).MH;rw[Ip] at q;rw[<-q,<-l];exact h _ (I.tok _)
theorem qK {h':Ha}(I:aE X pins σ H s) (mu:eU (H a)) (hs:MT a s.heap h') (he: ∃q,h'.get? a=FB q) (new:cy X.prog X.w (aF H a ob) h' a ob):
  aE X pins σ (aF H a ob) { s with heap:=h',toks:=t' } :=
 I.write (x:=a) (e:=a) mu (.inl rfl) (λb q hb z=>(hs.2 b hb).trans z) he new
theorem vU {P:Gh}{w:GR}{H':Hp}{h':Ha}{aC:Fh (be×V)}(z:aC.length<=Gk) (hd:(a == IQ)=Gc) (rel:KV aC vs) (dd:h'.DictOf (aW P w) a vs):
  cy P w H' h' a (.dK aC):=#[z,hd,vs,rel,dd]
theorem yq {H':Hp}{Q:Nj->Fw->Prop}(hu:A.units+1<P4) (I:aE X pins σ H s) (g:tR H a y v H') (ry:br y u) (rv:br v r) (h: ∀s',aE X pins σ H' s'->Q () s'):
  F4 (model X.prog X.w) A (setItem (.ref a) u r) Q E s:=by
 rcases g with⟨aC,k,e,ey,l,eH⟩|⟨aC,k,b,e,ey,eb,l,eH⟩
 ·subst ey eH
  obtain⟨z,hd,vs,rel,dd⟩:=Yy I.IF e;have hz:vs.length<=Gk:=by rw[<-rel.length];exact z
  have hl:(dB aC k v).length<=Gk:=by have:=cD aC k v;lia
  refine wpAny_setItem_pairs (hsz:=hz) (nA ry) dd λh' WY hs=>h _ ?_;have he: ∃q,h'.get? a=FB q:=let ⟨q,_,_,hq,_⟩:=WY;#[q,hq];exact qK I (by rw[e];exact Hs) hs he (vU hl hd (rel.put k rv) WY)
 ·subst ey eH
  cases (show u=F9 b from ry);obtain⟨z,hd,xs,rel,dd⟩:=afZ I.IF e;have hz:xs.length<=Gk:=by rw[<-RC rel];exact z
  have hl:(dB aC k v).length<=Gk:=by have:=cD aC k v;lia
  refine wpAny_setItem_heap (hsz:=hz) (Ky hu) (jH I.IF eb) dd λh' WY hs=>h _ ?_;obtain⟨q,es,ep,hq,h2,h3,h4,_,h5⟩:=WY;refine qK I (by rw[e];exact Hs) hs #[q,hq] #[hl,hd,_,(rel.put k eb rv).keeps λc ys ec=>?_,q,es,ep,hq,h2,h3,h4,h5];rw[ac (qd ec e (λz=>nomatch z))]
  exact ec
end
section
variable {X:Cx}{pins:Fh (Fq×Jh)}{σ:St}{H:Hp}{s:Fw}{a:Fq}{aC:Fh (be×V)}{k:be}{u:Fp}{A:Hc}{E:Fp->Fw->Prop}
theorem af0 {v:V}{Q:Fp->Fw->Prop}(I:aE X pins σ H s) (e:H a=FB (.dK aC)) (ry:br (kV k) u) (l:bO aC k=FB v) (hm:more=[]\/ ∃x,more=[x])
  (h: ∀w' s',aE X pins σ (aF H a (.dK (fE aC k))) s'->br v w'->Q w' s'):F4 (model X.prog X.w) A (call (.builtin "dict.pop") (.ref a::u::more)) Q E s:=by
 obtain⟨z,hd,vs,rel,dd⟩:=Yy I.IF e;obtain⟨w',hw,Ug⟩:=fQ.some_of (v:=v) (o:=Qr vs k) (by rw[<-l];exact rel.val k);have hp:(keyPart u).isSome=FS:=by
  cases k with
  |inl i=>obtain⟨t,q⟩:=(show∃t,u=Kv i t from ry);subst q;rfl
  |inr x=>obtain⟨t,q⟩:=(show∃t,u=OM x t from ry);subst q;rfl
 have ha:argsOk "dict.pop" ⟨.ref a::u::more,[]⟩:=by
  rcases hm with q|⟨x,q⟩
  ·subst q;exact PySem.F.args_dict_pop_2 _ _
  ·subst q;exact PySem.F.args_dict_pop_3 _ _ _
 refine call_meetsIn Sq dd.typeIs PySem.F.entry_dict_pop ha (meets_dict_pop_there (aW X.prog X.w) a (nA ry) more hm hp)
  #[vs,w',dd,by rw[<-rel.length];exact z,hw,λh' WY hs=>h w' _ ?_ Ug]
 have he: ∃q,h'.get? a=FB q:=let ⟨q,_,_,hq,_⟩:=WY;#[q,hq];exact qK I (by rw[e];exact Hs) hs he (vU (FV (Cr aC k) z) hd (rel.drop k) WY)
theorem af1 {Q:Fp->Fw->Prop}(I:aE X pins σ H s) (e:Rd H a (.dK aC)) (h: ∀t s',aE X pins σ H s'->Q (.int aC.length t) s'):F4 (model X.prog X.w) A (call (.builtin "len") [.ref a]) Q E s:=by
 obtain⟨z,hd,vs,rel,dd⟩:=nQ I.IF e;refine call_len_dict hd dd (by rw[<-rel.length];rw[Im] at z;lia) ?_;rw[<-rel.length];exact h _ _ (I.tok _)
end
def EN (i:HM):Prop:= ∀ov iv,subscripted i Gc ov iv=operate [ov,iv] (Tt ov iv)
theorem wS {prog:Gh}{w:GR}{A:Hc}{E:Fp->Fw->Prop}{s:Fw}{env:Env}{Kx slice:HM}{pos:Pos}{T id:String}{Q:Fp->Fw->Prop}
  (hl:HZ (.type T) "__getitem__"=pure (FB (.builtin id))) (hs:EN slice)
  (h:F4 (model prog w) A (eval Kx env) (λo s₁=>F4 (model prog w) A (eval slice env) (λi s₂=>s₂.TypeIs o T/\F4 (model prog w) A (Tt o i) Q E s₂) E s₁) E s):
  F4 (model prog w) A (eval (.Subscript Kx slice pos) env) Q E s:=by
 refine Zk (IS h (λo s₁ h₁=>IS h₁ (λi s₂ h₂=>?_) λ_ _ x=>x) λ_ _ x=>x);obtain⟨hT,h₂⟩:=h₂;unfold U7;refine FI ?_;rw[getitemInPython_of_ne hT.not_modules];refine FI (wpAny_specialOf hT hl ?_);have eN:F4 (model prog w) A (subscripted slice Gc o i) (λr s₃=>F4 (model prog w) A (letTemporaryGo Kx o r>>=λ_=>pure r) Q E s₃) E s₂:=by
  rw[hs o i];exact wpAny_operating (IS h₂ (λr s₃ h₃=>FI (wpAny_letTemporaryGo (Gb h₃))) λ_ _ x=>x)
 first
  |exact Gb (FI eN)
  |exact FI (Gb (FI eN))
  |exact FI eN
theorem sO {X:Cx}{pins:Fh (Fq×Jh)}{σ:St}{H:Hp}{s:Fw}{a:Fq}{y:V}{o:FA V}(I:aE X pins σ H s) (g:gz H a y o):s.TypeIs (.ref a) "dict":=by
 rcases g with⟨aC,k,e,_,_⟩|⟨aC,k,b,e,_,_,_⟩
 ·obtain⟨_,_,vs,_,dd⟩:=nQ I.IF e
  exact dd.typeIs
 ·obtain⟨_,_,xs,_,dd⟩:=pP I.IF e
  exact dd.typeIs
def af2 (td ty:TE):TE:=λσ H Q=>td σ H λx H1=>ty σ H1 λy H2=> ∃a v,x= .ref a/\gz H2 a y (FB v)/\Q v H2
inductive AJ (y:V) (R:FA V->Hp->Prop) (x:V) (H2:Hp):Prop
 |mk (a:Fq) (o:FA V) (_:x= .ref a) (_:gz H2 a y o) (_:R o H2):AJ y R x H2
def ale (ty td:TE):TE:=λσ H Q=>ty σ H λy H1=>td σ H1 (AJ y (λo H2=>Q (.bl o.isSome) H2))
def E3 (ty td:TE):TE:=λσ H Q=>ty σ H λy H1=>td σ H1 (AJ y (λo H2=>Q (.bl (!o.isSome)) H2))
def af3 (td ty tv:TE):TS:=λD σ H=>tv σ H λv H1=>td σ H1 λx H2=>ty σ H2 λy H3=> ∃a H4,x= .ref a/\tR H3 a y v H4/\D.nx σ H4
section
variable {X:Cx}{o i e Kx:HM}{pos NK afO:Pos}{td ty tv:TE}
theorem kh (hu:X.A.units+1<P4) (ho:PE X o td) (hi:PE X i ty) (hs:EN i):PE X (.Subscript o i pos) (af2 td ty):=by
 rw[01];refine wS Rf.lookup hs (b9 (ho pins s σ H _ I h) λu s1 ⟨x,H1,I1,rx,q1⟩=>b9 (hi pins s1 σ H1 _ I1 q1) λiv s2 ⟨y,H2,I2,ry,a,v,ex,g,q2⟩=>?_);subst ex;obtain rfl:u=F9 a:=rx;exact#[sO I2 g,zU hu I2 g ry λw' s3 I3 Ug=>#[v,H2,I3,Ug,q2]]
theorem nI (hu:X.A.units+1<P4) (hi:PE X i ty) (ho:PE X o td):PC X .In i o (ale ty td):=by
 rw[01];refine b9 (hi pins s σ H _ I h) λiv s1 ⟨y,H1,I1,ry,q1⟩=>b9 (ho pins s1 σ H1 _ I1 q1) λu s2 ⟨x,H2,I2,rx,a,ov,ex,g,q2⟩=>?_;subst ex;obtain rfl:u=F9 a:=rx;exact ald hu I2 g ry λs3 I3=>#[.bl ov.isSome,H2,I3,Go,q2]
theorem i6 (hu:X.A.units+1<P4) (hi:PE X i ty) (ho:PE X o td):PC X .NotIn i o (E3 ty td):=by
 rw[01];refine b9 (hi pins s σ H _ I h) λiv s1 ⟨y,H1,I1,ry,q1⟩=>b9 (ho pins s1 σ H1 _ I1 q1) λu s2 ⟨x,H2,I2,rx,a,ov,ex,g,q2⟩=>?_;subst ex;obtain rfl:u=F9 a:=rx;exact DY hu I2 g ry λs3 I3=>#[.bl (!ov.isSome),H2,I3,Go,q2]
theorem g9 (hu:X.A.units+1<P4) (ho:PE X o td) (hi:PE X i ty) (hv:PE X Kx tv) (hs:Kp Kx (FB (.Subscript o i NK)) pos.line X.env=pure Gc):
  PS X (.Assign [.Subscript o i NK] Kx pos) (af3 td ty tv):=by
 rw[04];refine wpAny_Assign_Subscript (b9 (hv pins s σ H _ I h) λr s1 ⟨v,H1,I1,rv,q1⟩=>b9 (ho pins s1 σ H1 _ I1 q1) λu s2 ⟨x,H2,I2,rx,q2⟩=>b9 (hi pins s2 σ H2 _ I2 q2) λiv s3 ⟨y,H3,I3,ry,a,H4,ex,g,q3⟩=>?_) hs;subst ex;obtain rfl:u=F9 a:=rx;exact yq hu I3 g ry rv λs4 I4=>#[σ,H4,I4,q3]
end
theorem Cf {P:Gh}{w:GR}{H:Hp}(h:Ha) (hb:IQ<h.objs.size):cy P w H (h.push { cls:= .type "dict",data:= .dict [].toArray }) h.objs.size (.dK []):=
 #[F6 _,beq_eq_false_iff_ne.mpr (IV (Hi hb)),[], .nil,TF h]
def aaW:TE:=λ_ H Q=> ∀p,H p=FM->Q (.ref p) (aF H p (.dK []))
section
variable {X:Cx}{pos:Pos}
theorem fk:PE X (.Dict [] [] pos) aaW:=λpins s σ H Q I h=>
 wpAny_Dict_empty #[.ref s.heap.objs.size,_,I.laid (a:=s.heap.objs.size) (o:= .dK []) (t':=s.toks) (λ_ _ q=>FJ _ q) (FN _) (Cf s.heap I.big),Go,h _ (I.IF.fresh (FN _))]
end
def fO (aC more:Fh (be×V)):Fh (be×V):=more.foldl (λacc kv=>dB acc kv.1 kv.2) aC
theorem KV.merge: ∀ {more:Fh (be×V)}{rs:Fh (be×Fp)}{aC:Fh (be×V)}{vs:Fh (be×Fp)},KV more rs->KV aC vs->KV (fO aC more) (merged vs rs):=by
 intro more rs aC vs r;unfold KV at r
 induction r generalizing aC vs with
 |nil=>intro q;exact q
 | @cons p q ps qs h t ih=>
  intro r0;have e:KV (dB aC p.1 p.2) (stored vs q.1 q.2):=by
   have:=r0.put p.1 h.2;rw[<-h.1];exact this
  exact ih e
theorem gB: ∀(more aC:Fh (be×V)),(fO aC more).length<=aC.length+more.length
 |[],aC=>by show aC.length<=aC.length+0;lia
 |p::r,aC=>by
  have h1:=gB r (dB aC p.1 p.2)
  have h2:=cD aC p.1 p.2
  show(fO (dB aC p.1 p.2) r).length<=_
  rw[FG];lia
structure M1 (X:Cx) (o:HM) (m:FY) (Ly:Pos) (e:HM) (L3:Pos):Prop where
 base:IM o m X.env (eval o X.env)=eval o X.env
 few:((Jf L3 (FU [e] X.env)).all (λx=>!x.1)&&(Lf L3 (Jy [] X.env)).all (λx=>x.1.isSome)
  &&decide (([e]:Fh HM).length+([]:Fh Keyword).length+(if([]:Fh Keyword).isEmpty then 0 else 1)<30))=FS
 line:(Ly.endLine == L3.line)=FS
 trees:Jf L3 (FU [e] X.env)=[[001]]
def IsD (H:Hp) (a:Fq):Prop:=(∃aC,Rd H a (.dK aC))\/ ∃aC,Rd H a (.dT aC)
theorem aaX {X:Cx}{pins:Fh (Fq×Jh)}{σ:St}{H:Hp}{s:Fw}{a:Fq}(I:aE X pins σ H s) (d:IsD H a):
  s.TypeIs (.ref a) "dict"/\(∀b,F9 a= .ref b-> ∃ob,s.heap.get? b=FB ob/\ob.dict=FM)/\(a == IQ)=Gc:=by
 rcases d with⟨aC,e⟩|⟨aC,e⟩
 ·obtain⟨_,hd,vs,_,dd⟩:=nQ I.IF e
  refine#[dd.typeIs,λb q=>?_,hd];cases q;obtain⟨ob,_,_,h1,h2,_⟩:=dd;exact#[ob,h1,h2.2.1]
 ·obtain⟨_,hd,xs,_,dd⟩:=pP I.IF e
  refine#[dd.typeIs,λb q=>?_,hd];cases q;obtain⟨ob,_,_,h1,h2,_⟩:=dd;exact#[ob,h1,h2.2.1]
def aaY (td ty:TE):TE:=λσ H Q=>td σ H λx H1=> ∃a,x= .ref a/\IsD H1 a/\ty σ H1 λy H2=> ∃aC k v,H2 a=FB (.dK aC)/\y=kV k/\bO aC k=FB v/\Q v (aF H2 a (.dK (fE aC k)))
section
variable {X:Cx}{o e f:HM}{Ly L3:Pos}{td ty tx:TE}
theorem CL (ho:PE X o td) (he:PE X e ty) (m:M1 X o "pop" Ly e L3):PE X (.Call (.Attribute o "pop" Ly) [e] [] L3) (aaY td ty):=by
 rw[01];refine wpAny_Call_method m.base m.few m.line PySem.F.plainAttrs_dict Sq PySem.F.type_dict_pop (b9 (ho pins s σ H _ I h) λu s1 ⟨x,H1,I1,rx,a,ex,d,q1⟩=>?_);subst ex;obtain rfl:u=F9 a:=rx;obtain⟨t1,t2,_⟩:=aaX I1 d;refine#[t1,t2,?_];rw[m.trees];refine LK rfl (Oz (Lq (b9 (he pins s1 σ H1 _ I1 q1) λiv s2 ⟨y,H2,I2,ry,aC,k,v,ea,ey,l,q2⟩=>LL ?_)));subst ey;exact af0 I2 ea ry l (.inl rfl) λw' s3 I3 Ug=>#[v,_,I3,Ug,q2]
end
theorem rW:entryFor table "dict.update.loop"=FB Builtin.«dict.update.loop»:=entryFor_of_tree (by kernel_rfl)
theorem iY:plainId "dict.update.loop"=FS:=by decide+kernel
theorem zG:Lo "zip"=FB (.type "zip"):=by decide+kernel
end L2
namespace TL
open PySem PySem.Builtin PySem.Builtin.Str PySem.StrLaws
abbrev tl (x:FY):Fh FH:=x.cps.toList
theorem aaZ {x y:FY}(h:tl x=tl y):x=y:=FY.ext' (JE.toList_inj.mp h)
theorem pN (x y:FY):tl (x++y)=tl x++tl y:=by
 show(x++y).cps.toList=_
 rw[FY.cps_append,JE.toList_append]
def Td (S:Fh FH):Fh (Fh FH)->Fh FH
 |[]=>[]
 |[p]=>p
 |p::q::r=>p++(S++Td S (q::r))
theorem UW (y:FY): ∀parts:Fh FY,tl (Zq y parts)=Td (tl y) (parts.map tl)
 |[]=>rfl
 |[_]=>rfl
 |x::z::r=>by
  show tl (x++y++Zq y (z::r))=tl x++(tl y++Td (tl y) ((z::r).map tl))
  rw[pN,pN,UW y (z::r),GN]
theorem join_eq (y:FY) (parts:Fh FY):Vd y parts=Zq y parts:=glued_eq_join y parts
end TL
namespace L2
open PySem PySem.Spec PyProof.Rows
theorem h9: ∀ {ys:Fh FY}{us:Fh Fp},a8 (ys.map V.str) us->StrsAre us ys
 |[],_, .nil=> .nil
 |y::ys,_, .cons r t=>by
  obtain⟨k,rfl⟩:=r;exact .cons y k (h9 t)
section
variable {X:Cx}
theorem DX:MtR X "str.join" (λx xs H Q=> ∃a p,∃ys:Fh FY,x= .str a/\xs=[.ref p]/\(cw X.K H p (ys.map V.str)\/rc X.K H p (ys.map V.str))/\
  (ys.map (·.length)).sum+ys.length*a.length<=16777216/\Q (.str (Vd a ys)) H):=by
 intro pins s σ H x xs v us Q I rx rs h;obtain⟨a,p,ys,rfl,rfl,hp,hz,h⟩:=h;obtain⟨t,rfl⟩:=rx;cases rs with
 |cons r1 rs=>
  cases rs;cases r1;rcases hp with hp|hp
  ·obtain⟨HR,r,⟨o,n,ho,hc,_,hd⟩,_⟩:=I.list hp
   exact PyProof.Rows.join_list (items:=HR.toArray) #[o,ho,hc,n,hd] (by rw[U3];exact h9 r) hz λt' k=>#[.str _,H,I.tok k,#[t',Go],h]
  ·obtain⟨HR,r,ht,_⟩:=I.tuple hp
   exact PyProof.Rows.join_tuple (items:=HR.toArray) ht (by rw[U3];exact h9 r) hz λt' k=>#[.str _,H,I.tok k,#[t',Go],h]
end
section
variable {X:Cx}{o e:HM}{to te:TE}
def tM1 (r:V->Fh V->Hp->VK->Prop) (to te:TE):TE:=λσ H Q=>to σ H λx H1=>(∃a,x= .str a)/\te σ H1 λy H2=>r x [y] H2 Q
theorem af4 {id:String}{name:FY}{Ly pos:Pos}{r:V->Fh V->Hp->VK->Prop}(slot:Slot "str" name id) (ty:typeOf (.builtin id)=pure (.type "method_descriptor")) (rule:MtR X id r) (ho:PE X o to) (he:PE X e te)
  (hs:FU [e] X.env=[[001]]:=by rfl) (Q9:IM o name X.env (eval o X.env)=eval o X.env:=by rfl) (Ra:(Ly.endLine == pos.line)=FS:=by rfl):
  PE X (.Call (.Attribute o name Ly) [e] [] pos) (tM1 r to te):=by
 rw[01];refine PySem.Call_method1 Q9 hs Ra (b9 (ho pins s σ H _ I h) λv s1 ⟨x,H1,I1,r1,q1⟩=>?_);obtain⟨⟨a,rfl⟩,q1⟩:=q1;obtain⟨t,rfl⟩:=_root_.id r1;refine#["str",_,F.plainAttrs_str,slot,ty,Zl _ _ _,(λ_ e=>nomatch e),LK rfl (Oz (Lq ?_))]
 exact b9 (he pins s1 σ H1 _ I1 q1) λu s2 ⟨y,H2,I2,r2,q2⟩=>LL (rule pins s2 σ H2 _ [y] _ [u] Q I2 r1 (.cons r2 .nil) q2)
theorem D5 {Ly pos:Pos}(ho:PE X o to) (he:PE X e te) (hs:FU [e] X.env=[[001]]:=by rfl) (Q9:IM o "join" X.env (eval o X.env)=eval o X.env:=by rfl) (Ra:(Ly.endLine == pos.line)=FS:=by rfl):
  PE X (.Call (.Attribute o "join" Ly) [e] [] pos) (tM1 (λx xs H Q=> ∃a p,∃ys:Fh FY,x= .str a/\xs=[.ref p]/\(cw X.K H p (ys.map V.str)\/rc X.K H p (ys.map V.str))/\
   (ys.map (·.length)).sum+ys.length*a.length<=16777216/\Q (.str (Vd a ys)) H) to te):=
 af4 F.slot_str_join F.type_str_join DX ho he hs Q9 Ra
end
abbrev E0:XK:=λ_ _ _=>False
theorem aT {X:Cx} :dn ye X E0:=λ_ _ _ _ _ _ _ h=>h.elim
section
variable {P:Gh}{w:GR}{K:Fm}{mg:FY->FA Fp}{base:Ha}
theorem oY.ok {x Hl:FY}{st:Stmt}{f:Fq}{fd:Gz}{N ps:Fh FY}{k:FH}{sp:Sp}(F:oY K x Hl st f fd) (S:ay N ps (af st)) (len: ∀vs H Q E,sp vs H Q E->vs.length=ps.length)
  (JO: ∀(Hb:Fp) (A:Hc) (outer:Fh Env) (s:Fw) (H:Hp) (vs:Fh V) (Q:VK) (E:XK),bZ k (A.deeper [011])->sp vs H Q E->
   Bd (fi ye P w K mg base N Hl (af st) f Hb A outer s H E).nox (bf st) { nx:=λ_ H'=>Q .IX H',rt:=Q } (start N vs) H):bV P w K mg base ye (k+1) f fd ps sp:=by
 obtain⟨oc,od,kV,doc,pm,an,Hb,ct,WR,rfl,lk,SN⟩:=F.ex;refine Yv lk SN S len λA outer s H vs Q E hr T5=>?_;obtain⟨t,h,q⟩:=JO Hb A outer s H vs Q E hr T5;exact#[t,h.nox,q]
end
theorem dz {A:Hc}{k:FH}(hr:bZ k A):A.units+1<P4:=Gr (Vt (by decide:1<=64) _) hr.units
section
variable {X:Cx}
theorem pv (i:FH) {x:FY}{pos:Pos}(hN:X.N[i]?=FB x:=by rfl) (hv:oZ X.env.scope x:=by first|exact G9 rfl|exact Or.inr (G9 rfl)|exact Or.inr (Or.inr rfl)) (hd:(x == [003])=Gc:=by decide)
  (SN:(x == ("__classdict__":FY))=Gc:=by decide):PE X (.Name x pos) (ir i):=dX hN hv hd SN
theorem zW:gV X (.builtin "len") (λxs H Q=> ∃a aC,xs=[V.ref a]/\H a=FB (.dK aC)/\Q (.int aC.length) H):=by
 intro pins s σ H xs us Q I r h;obtain⟨a,aC,rfl,ha,q⟩:=h;obtain⟨u,rfl,ru⟩:=nP r;cases ru;exact af1 I (.inl ha) λt s' I'=>#[.int aC.length,H,I',#[t,Go],q]
end
theorem bM {A B:Prop}(h:B):if Gc=FS then A else B:=by
 rw[Fs Fl];exact h
theorem ca {A B:Prop}(h:A):if FS=FS then A else B:=by
 rw[Fv rfl];exact h
def aS (H H':Hp):Prop:= ∀b o,H b=FB o->H' b=FB o
theorem aS.refl (H:Hp):aS H H:=λ_ _ h=>h
theorem aS.trans {H H1 H2:Hp}(a:aS H H1) (b:aS H1 H2):aS H H2:=λc o h=>b c o (a c o h)
theorem aS.seq {K:Fm}{H H':Hp}{a:Fq}{xs:Fh V}(e:aS H H') (h:cw K H a xs):cw K H' a xs:=by
 rcases h with(h|⟨o,h⟩)|h
 ·exact .inl (.inl (e _ _ h))
 ·exact .inl (.inr #[o,e _ _ h])
 ·exact .inr h
end L2
namespace OS
open PySem
structure zB (l:Fh Fq) (ch:Fh Fq) (a:Fq) (oe:Jh) (h h':Ha):Prop where
 keep: ∀b o,b∉l->b∉ch->h.get? b=FB o->h'.get? b=FB o
 slot: ∀b o,b∈l->b∉ch->h.get? b=FB o-> ∃sl,h'.get? b=FB { o with slots:=sl }
 there: ∀b o,h.get? b=FB o-> ∃u,h'.get? b=FB u
 fly: ∃vs T oT ts,h'.get? a=FB #[oe.cls,oe.dict, .fields vs,oe.slots]/\vs[1]?=FB (.ref T)/\h.objs.size<=T/\T≠a/\h'.get? T=FB oT/\oT.data= .fields ts/\ts[3]?=FB .none
theorem rp {o:Jh}{vs:JE Fp}(hd:o.data= .fields vs) (f:JE Fp->JE Fp):o.mapFields f=#[o.cls,o.dict, .fields (f vs),o.slots]:=by
 obtain⟨c,d,dt,sl⟩:=o;cases hd
 rfl
section
variable {E:Fp->Fw->Prop}{base:Ha}{a:Fq}{Q:Nj->Fw->Prop}
theorem nO {head:Fp}{XH:GA}(SD:A.frames=FB (env::outer)) (hl:s.heap.FunFrames base (env::outer)) (hf:env.frame=FB L)
  (he:s.heap.get? a=FB oe) (hd:oe.data= .fields vs) (hsz:1<vs.size)
  (h: ∀h',zB ((env::outer).filterMap (·.frame)) [a] a oe s.heap h'->Q () { s with heap:=h' }):
  F4 M A (frameOf env>>=λx=>entryPlaceOf L XH>>=λpl=>RQ head x .none (Ob L) .none pl>>=λb=>setField (.ref a) 1 b) (λ_ s'=>F4 M A (RP (.ref a) FM) Q E s') E s:=by
 have na:a∉(env::outer).filterMap (·.frame):=λhm=>by
  obtain⟨_,o,ho,hn⟩:=hl.mem hm;rw[he] at ho;cases ho;exact hn vs hd
 refine FI (wpAny_frameOf_fun SD hl hf λh1 S=>FI (wpAny_entryPlaceOf λpl M3=>?_));unfold RQ newFields;refine FI (wpAny_newObj_type ?_ (M3.sizeOk5 _ _ _ _ _));have e1:h1.get? a=FB oe:=(S.2.1 a na).trans he;generalize ht:({ cls:= .type "traceback",dict:=FM,data:= .fields ([head, .ref L, .none,Ob L, .none]++(if pl.isEmpty then Jt 6 Ih else pl)).toArray } :Jh)=tb
 have td:tb.data= .fields ([head, .ref L, .none,Ob L, .none]++(if pl.isEmpty then Jt 6 Ih else pl)).toArray:=by rw[<-ht]
 have tf:tb.isFreed=Gc:=Mb td
 have e2:(h1.push tb).get? a=FB oe:=FJ tb e1;refine TV e2 hd hsz ?_
 have ne:h1.objs.size≠a:=LU (F7 e1)
 have hd3:=P0 hd (·.setIfInBounds 1 (F9 h1.objs.size))
 have e3:=JG (IB (·.setIfInBounds 1 (F9 h1.objs.size))) e2 (Mb hd3)
 have t3:((h1.push tb).update a (IB (·.setIfInBounds 1 (F9 h1.objs.size)))).get? h1.objs.size=FB tb:=
  (Hm (h1.push tb) _ (IV ne)).trans (Hk h1 tf)
 unfold RP;refine FI (wpAny_field e3 hd3 (x:= .ref h1.objs.size) (by simp [hsz]) ?_);rw[Fv (show(F9 h1.objs.size !=Ih)=FS from by simp)];have sz3:3<([head, .ref L, .none,Ob L, .none]++(if pl.isEmpty then Jt 6 Ih else pl)).toArray.size:=by
  simp only[Gy,FR,FG,Ku];lia
 refine TV t3 td sz3 (h _ ?_);have other: ∀b,b≠a->b≠h1.objs.size-> ∀f,(((h1.push tb).update a (IB (·.setIfInBounds 1 (F9 h1.objs.size)))).update h1.objs.size f).get? b=(h1.push tb).get? b:=λb x y f=>by
  rw[Hm _ _ (IV y),Hm _ _ (IV x)]
 have old: ∀b o,s.heap.get? b=FB o->b≠h1.objs.size:=λb o q=>by
  rw[S.1];exact Hi (F7 q)
 have d4:=P0 td (·.setIfInBounds 3 ((FM:FA Fq).elim Ih λf=>Ob f))
 have t4:=JG (IB (·.setIfInBounds 3 ((FM:FA Fq).elim Ih λf=>Ob f))) t3 (Mb d4)
 have a4:(((h1.push tb).update a (IB (·.setIfInBounds 1 (F9 h1.objs.size)))).update h1.objs.size (IB (·.setIfInBounds 3 ((FM:FA Fq).elim Ih λf=>Ob f)))).get? a=FB #[oe.cls,oe.dict, .fields (vs.setIfInBounds 1 (F9 h1.objs.size)),oe.slots]:=by
  rw[Hm _ _ ne,e3,rp hd]
 refine#[λb o nl nc q=>?_,λb o hb nc q=>?_,λb o q=>?_,?_]
 ·rw[other b (λz=>nc (by rw[z];exact Fy)) (old b o q)]
  exact FJ tb ((S.2.1 b nl).trans q)
 ·obtain⟨sl,z⟩:=S.2.2 b o q
  exact#[sl,by rw[other b (λy=>nc (by rw[y];exact Fy)) (old b o q)];exact FJ tb z]
 ·by_cases ba:b=a
  ·rw[ba];exact#[_,a4]
  ·obtain⟨sl,z⟩:=S.2.2 b o q
   exact#[_,by rw[other b ba (old b o q)];exact FJ tb z]
 ·refine#[_,h1.objs.size,_,_,a4,by simp [hsz],Kq S.1.symm,ne,t4,d4,?_]
  simp
theorem zN (SD:A.frames=FB (env::outer)) (hl:s.heap.FunFrames base (env::outer)) (hf:env.frame=FB L)
  (he:s.heap.get? a=FB oe) (hd:oe.data= .fields vs) (h1:vs[1]?=FB .none)
  (h: ∀h',zB ((env::outer).filterMap (·.frame)) [a] a oe s.heap h'->Q () { s with heap:=h' }):F4 M A (leaving env (.ref a)) Q E s:=by
 unfold leaving Qm;simp only[hf];refine FI (FI (wpAny_field he hd h1 ?_));rw[Fs [01]];exact nO SD hl hf he hd (KI.mp h1).1 h
theorem xX (SD:A.frames=FB (env::outer)) (hl:s.heap.FunFrames base (env::outer)) (hf:env.frame=FB L)
  (he:s.heap.get? a=FB oe) (hd:oe.data= .fields vs) (h1:vs[1]?=FB (.ref T)) (ne:T≠a) (hT:s.heap.get? T=FB oT) (hdT:oT.data= .fields ts) (h3:ts[3]?=FB .none)
  (h: ∀h',zB ((env::outer).filterMap (·.frame)) [a,T] a oe s.heap h'->Q () { s with heap:=h' }):F4 M A (Qm (.ref a) env) (λ_ s'=>F4 M A (RP (.ref a) FM) Q E s') E s:=by
 unfold Qm;simp only[hf];refine FI (wpAny_field he hd h1 ?_);rw[Fv (show(F9 T !=Ih)=FS from by simp)];refine FI (wpAny_field hT hdT h3 ?_);rw[Fs (show¬((Ih == Ob L)=FS) from by simp [Ob])];refine FI (TV hT hdT (KI.mp h3).1 ?_);have other: ∀b,b≠T->(s.heap.update T (IB (·.setIfInBounds 3 Ih))).get? b=s.heap.get? b:=λb hb=>Hm _ _ (IV hb)
 have nT:T∉(env::outer).filterMap (·.frame):=λhm=>by
  obtain⟨_,o,ho,hn⟩:=hl.mem hm;rw[hT] at ho;cases ho;exact hn ts hdT
 have sT:=JG (IB (·.setIfInBounds 3 Ih)) hT (Mb (P0 hdT _));refine nO (s:= { s with heap:=s.heap.update T (IB (·.setIfInBounds 3 Ih)) }) SD (hl.of_keeps λb o hb hn=>#[o,(other b λq=>by rw[q,hT] at hb;cases hb;exact hn ts hdT).trans hb,Go]) hf ((other a (IV ne)).trans he) hd (KI.mp h1).1 λh' X=>h h' ?_
 have size:(s.heap.update T (IB (·.setIfInBounds 3 Ih))).objs.size=s.heap.objs.size:=Ha.size_after_update ..;refine#[λb o nl nc q=>X.keep b o nl (λz=>nc (by rcases FF.mp z with z|z;rw[z];exact Fy;cases z)) ((other b λz=>nc (by rw[z];simp)).trans q),
  λb o hb nc q=>X.slot b o hb (λz=>nc (by rcases FF.mp z with z|z;rw[z];exact Fy;cases z)) ((other b λz=>nc (by rw[z];simp)).trans q),λb o q=>?_,?_]
 ·by_cases bT:b=T
  ·rw[bT];exact X.there T _ sT
  ·exact X.there b o ((other b bT).trans q)
 ·obtain⟨ws,T',oT',ts',x1,x2,x3,x4⟩:=X.fly
  exact#[ws,T',oT',ts',x1,x2,by rw[<-size];exact x3,x4]
theorem Aj (SD:A.frames=FB (env::outer)) (hl:s.heap.FunFrames base (env::outer)) (hf:env.frame=FB L)
  (he:s.heap.get? a=FB oe) (hd:oe.data= .fields vs) (h1:vs[1]?=FB (.ref T)) (ne:T≠a) (hT:s.heap.get? T=FB oT) (hdT:oT.data= .fields ts) (h3:ts[3]?=FB .none)
  (h: ∀h',zB ((env::outer).filterMap (·.frame)) [a,T] a oe s.heap h'->Q () { s with heap:=h' }):F4 M A (leaving env (.ref a)) Q E s:=by
 unfold leaving;exact FI (xX SD hl hf he hd h1 ne hT hdT h3 h)
end
end OS
namespace OS
open PySem
section
variable {prog:Gh}{w:GR}{A:Hc}{E:Fp->Fw->Prop}{h:Ha}{g:JE Rm}{d:Drawn}{t:FH}{os:OsState}
variable {nm q:FY}{C N:Fq}{bs bm bmB:Fh Fp}{Te:GA}{sn:Fh FY}{sub:Fh Fp}{ab:GA}{col:FA GA}{dd:FA Fq}{k0 k1 k2 k3 k5:FA Fp}{B Kl Ov:String}
def LA (h:Ha) (l:Fh Fp) (name:FY) (y:FA Fp):Prop:= ∀(M:Model) (A:Hc) (E:Fp->Fw->Prop) (g:JE Rm) (d:Drawn) (t:FH) (os:OsState) (Q:FA Fp->Fw->Prop),Q y #[h,g,d,t,os]->F4 M A (lookupAlong l name) Q E #[h,g,d,t,os]
theorem LA.of (m:mroOf (.type B)=pure l) (k:HZ (.type B) name=pure y):LA h l name y:=by
 rw[typeLookup_eq,m] at k;intro M A E g d t os Q q;rw[show lookupAlong l name=pure y from k];exact Gb q
theorem LA.own {a:Fq}{mA:FY->FA Fp}(o:h.get? a=FB #[c0,da, .cls cd,sl]) (n:h.Ns cd.ns mA) (z:mA name=FM) (k:LA h l name y):LA h (.ref a::l) name y:=by
 intro M A E g d t os Q q;rw[lookupAlong_cons];refine FI (wpAny_classOwn_cls o n ?_);rw[z];exact k M A E g d t os Q q
theorem ia {mN:FY->FA Fp}{Q:FA Fp->Fw->Prop}(hC:h.get? C=FB (IC nm q C N bs bm Te sn sub ab col dd k0 k1 k2 k3 k5 Kl)) (n:h.Ns N mN) (k:mN name=FM->LA h bm name y)
  (q:Q (match mN name with|some v=>FB v|none=>y) #[h,g,d,t,os]):F4 M A (HZ (.ref C) name) Q E #[h,g,d,t,os]:=by
 rw[typeLookup_eq];refine FI (wpAny_mroOf_exc hC ?_);rw[lookupAlong_cons];refine FI (wpAny_classOwn_exc hC n ?_);cases z:mN name with
 |some v=>rw[z] at q;exact Gb q
 |none=>rw[z] at q;exact k z M A E g d t os Q q
abbrev dq (C T:Fq):Jh:= { cls:= .ref C,data:= .fields [.ref T, .none, .none, .none, .bool Gc, .none].toArray }
abbrev eE (l:Fh Fp):Jh:= { cls:= .type "tuple",data:= .seq l.toArray }
def wB (x:Fq) (Q:Fp->Fw->Prop) (E:Fp->Fw->Prop) (r:Result) (s':Fw):Prop:=match r with
 | .ok (.ret v)=>v= .none/\Q (.ref x) s'
 | .ok _=>False
 | .error e=>E e s'
structure Up (bm l:Fh Fp) (B:String):Prop where
 b:l.contains (.type B)=FS
 a:l.contains (.type "AttributeError")=Gc
 n:l.contains (.type "NameError")=Gc
theorem AG (F:Nu B Kl Ov bmB) (U:Up bm (.ref C::bm) B) {Q:Nj->Fw->Prop}(hC:h.get? C=FB (IC nm q C N bs bm Te sn sub ab col dd k0 k1 k2 k3 k5 Kl)) (z:Q () #[h,g,d,t,os]):F4 M A (JK Kl #[.ref C::rest,[]]) Q E #[h,g,d,t,os]:=by
 have u:=U.b
 have st:=F.noStar;simp only[F.newRow,F.newSplit,F.newKind,JK]
 repeat (first|(refine wpAny_isSubtype_exc hC ?_;rw[u])|refine GH hC ?_|refine wpAny_madeBy_exc hC ?_|refine wpAny_staticBase_exc hC ?_|simp only[bne_self_eq_false,Ji,MX]|wp_step)
 exact z
theorem Dr (F:Nu B Kl Ov bmB) (U:Up bm (.ref C::bm) B) {R:Result->Fw->Prop}(hC:h.get? C=FB (IC nm q C N bs bm Te sn sub ab col dd k0 k1 k2 k3 k5 Kl)) (z:R (.ok (.ret (.ref (h.objs.size+1)))) #[(h.push (eE rest)).push (dq C h.objs.size),g,d,t,os]) (UX:rest.length<=Gk):
  LO (model prog w) A (.builtin Kl #[.ref C::rest,[]]) R #[h,g,d,t,os]:=by
 have amM:=F.ends
 have u1:=U.b
 have u2:=U.a
 have u3:=U.n;refine codeAny_builtinAt F.entry ?_;unfold Builtin.«BaseException.__new__»;refine wpAt_bind ?_
 show wpAt _ _ _ (stack>>=_) _ _ _
 refine wpAt_bind (wpAt_stack λ_ _=>wpAt_of_wpAny ?_)
 wp_walk
 refine wpAt_of_wpAny ?_;rw[F.owner]
 repeat (first|(with_reducible refine wpAny_isSubtype_exc hC ?_;first|rw[u1]|rw[u2]|rw[u3])|with_reducible refine wpAny_madeHere_exc F.canon hC ?_|with_reducible refine GH hC ?_|wp_step)
 show R _ _
 rw[HY];exact z
theorem yF (F:Nu B Kl Ov bmB) (U:Up bm (.ref C::bm) B) {Q:Nj->Fw->Prop}
  (hC:h.get? C=FB (IC nm q C N bs bm Te sn sub ab col dd k0 k1 k2 k3 k5 Kl)) (he:h.get? e=FB oe) (aaA:oe.cls= .ref C) (z:Q () #[h,g,d,t,os]):F4 M A (JK Ov #[.ref e::rest,[]]) Q E #[h,g,d,t,os]:=by
 have u:=U.b
 have st:=F.noStar;simp only[F.initRow,F.initSplit,F.initKind,JK]
 repeat (first|(with_reducible refine wpAny_isSubtype_exc hC ?_;rw[u])|(with_reducible refine GH he ?_;rw[aaA])|with_reducible refine GH hC ?_|wp_step)
 refine wpAny_onRaise ?_;rw[show∀(a b:String) (n:FH),Bind.check #[.positional,"*",B, .self,[#["args", .varPos,Gc]]] a b n (Fh.map (λx=>x.1) ({ pos:=F9 e::rest } :Args).kw)=pure () from λ_ _ _=>check_star_args _ _ _ _ _ _];exact Gb z
theorem pz (F:Nu B Kl Ov bmB) (U:Up bm (.ref C::bm) B) {mN:FY->FA Fp}{Q:Fin->Fw->Prop}
  (hC:h.get? C=FB (IC nm q C N bs bm Te sn sub ab col dd k0 k1 k2 k3 k5 Kl)) (hn:h.Ns N mN) (XI:mN "__init__"=FB (.ref fI)) (hI:h.get? fI=FB oI) (hIc:oI.cls= .type "function")
  (hq:LO (model prog w) A (.call (.ref fI) #[.ref (h.objs.size+1)::rest,[]]) (wB (h.objs.size+1) (λv s'=>Q (.done (.ret v)) s') E) #[(h.push (eE rest)).push (dq C h.objs.size),g,d,t,os])
  (UX:rest.length<=Gk):
  F4 (model prog w) A (Builtin.«type.__call__» #[.ref C::rest,[]]) Q E #[h,g,d,t,os]:=by
 repeat (first|with_reducible refine GH hC ?_|with_reducible refine wpAny_madeBy_exc hC ?_|wp_step)
 refine codeAny_call_builtin_code (Vv _ F.quiet) (AG F U hC ?_);refine Dr F U hC ?_ UX;show F4 _ _ _ _ _ _;have c1:((h.push (eE rest)).push (dq C h.objs.size)).get? C=FB (IC nm q C N bs bm Te sn sub ab col dd k0 k1 k2 k3 k5 Kl):=FJ _ (FJ _ hC);have n1:((h.push (eE rest)).push (dq C h.objs.size)).Ns N mN:=
  let ⟨o,es,ep,e,r⟩:=hn;#[o,es,ep,FJ _ (FJ _ e),r]
 have i1:((h.push (eE rest)).push (dq C h.objs.size)).get? fI=FB oI:=FJ _ (FJ _ hI)
 have e1:((h.push (eE rest)).push (dq C h.objs.size)).get? (h.objs.size+1)=FB (dq C h.objs.size):=by heap_get
 have hcC:(F9 C::bm).contains (.ref C)=FS:=by simp
 unfold Zm
 repeat (first|with_reducible refine GH e1 ?_|(with_reducible refine wpAny_isSubtype_exc c1 ?_;rw[hcC])|wp_step)
 show F4 _ _ (HZ (.ref C) _) _ _ _
 refine ia (y:=FM) c1 n1 (λz=>by rw[XI] at z;cases z) ?_;rw[XI];refine Oa ?_;unfold bindSpecial;refine FI (FI ?_);have hT:(⟨(h.push (eE rest)).push (dq C h.objs.size),g,d,t,os⟩:Fw).TypeIs (.ref fI) "function":=#[_,i1,hIc];refine VU hT (Gb (FI (QW (Nt hq λr s' z=>?_))));rcases r with e|(v|_|_|_)
 ·exact z
 ·exact z.elim
 ·exact z.elim
 ·exact z.elim
 ·obtain⟨rfl,z⟩:=z
  exact Gb (Gb z)
theorem C9 (F:Nu B Kl Ov bmB) (U:Up bm (.ref C::bm) B) {mN:FY->FA Fp}{R:Result->Fw->Prop}
  (hC:h.get? C=FB (IC nm q C N bs bm Te sn sub ab col dd k0 k1 k2 k3 k5 Kl)) (hn:h.Ns N mN) (XI:mN "__init__"=FB (.ref fI)) (hI:h.get? fI=FB oI) (hIc:oI.cls= .type "function")
  (hq:LO (model prog w) (A.under (.builtin "type.__call__" #[.ref C::rest,[]])) (.call (.ref fI) #[.ref (h.objs.size+1)::rest,[]]) (wB (h.objs.size+1) (λv s'=>R (.ok (.ret v)) s') (λe s'=>R (.error e) s')) #[(h.push (eE rest)).push (dq C h.objs.size),g,d,t,os])
  (UX:rest.length<=Gk):
  LO (model prog w) A (.call (.ref C) #[rest,[]]) R #[h,g,d,t,os]:=by
 have f1:=tc_lookup
 have f2:=tc_bind (.ref C)
 have hT:(⟨h,g,d,t,os⟩:Fw).TypeIs (.ref C) "type":=#[_,hC,Go];refine codeAny_of_tree ?_
 show F4 _ _ (callAny (.ref C) _) _ _ _
 repeat (any_goals (first|assumption|with_reducible refine GH hC ?_|wp_step))
 refine#[Go,?_];refine codeAny_call_builtin_at (Vv _ [00]) entry_typeCall (wpAny_check_type_call_sub hC (pz F U hC hn XI hI hIc ?_ UX));exact hq
theorem zh (F:Nu B Kl Ov bmB) (U:Up bm (.ref C::bm) B) {R:Result->Fw->Prop}
  (hC:h.get? C=FB (IC nm q C N bs bm Te sn sub ab col dd k0 k1 k2 k3 k5 Kl)) (he:h.get? e=FB (dq C T))
  (hq:R (.ok (.ret .none)) #[(h.push (eE [])).update e (IB (·.setIfInBounds 0 (.ref h.objs.size))),g,d,t,os]):
  LO (model prog w) A (.call (.builtin Ov) #[[.ref e],[]]) R #[h,g,d,t,os]:=by
 refine PZ F.init.plain F.initEntry (yF F U hC he rfl ?_);unfold Builtin.«BaseException.__init__»
 wp_walk
 exact hq
end
theorem af5:HZ (.type "Exception") "__getattribute__"=pure (FB (.builtin "BaseException.__getattribute__")):=by rw[KL,Jr];kernel_rfl
theorem af6:HZ (.type "Exception") "__getattr__"=pure FM:=by rw[KL,Jr];kernel_rfl
theorem xB:Slot "Exception" "__getattribute__" "BaseException.__getattribute__":=
 .of (owner:="BaseException") (n:="__getattribute__") (by rw[KL,Jr];kernel_rfl) [00] [00] [00]
  (by first|exact .inl [00]|exact .inr [00]) (by rw[isSubtype_type];kernel_rfl)
section
open Builtin Builtin.ObjectAttr
variable {prog:Gh}{w:GR}{A:Hc}{E:Fp->Fw->Prop}{h:Ha}{g:JE Rm}{d:Drawn}{t:FH}{os:OsState}
variable {nm q:FY}{C N x:Fq}{bs bm:Fh Fp}{sn:Fh FY}{sub:Fh Fp}{ab:GA}{col:FA GA}{dd:FA Fq}{k0 k1 k2 k3 k5:FA Fp}{Kl:String}
 {mN mA:FY->FA Fp}{name:FY}{v:Fp}
theorem zn {Q:V8->Fw->Prop}
  (hC:h.get? C=FB (IC nm q C N bs bm FS sn sub ab col dd k0 k1 k2 k3 k5 Kl)) (hn:h.Ns N mN) (hna:mN name=FM)
  (hB:LA h bm name FM) (I:h.Inst x C mA) (hv:mA name=FB v) (hq:Q (.done (.ret v)) #[h,g,d,t,os]):
  F4 (model prog w) A (Builtin.«object.__getattribute__» #[[.ref x, .str name tk],[]]) Q E #[h,g,d,t,os]:=by
 obtain⟨o,hx,hc,hnc,hd⟩:=I;rcases hd with⟨_,hmA⟩|⟨dx,Vo,hne,hns⟩
 ·rw[hmA name] at hv;cases hv
 unfold Builtin.«object.__getattribute__»
 repeat (first|(with_reducible refine GH hx ?_;rw[hc])|(with_reducible refine ia hC hn (λ_=>hB) ?_;rw[hna])|wp_step)
 split
 ·rename_i c SN
  exact FP SN (hnc c)
 unfold instanceDict
 repeat (first|(with_reducible refine GH hx ?_;rw[hc])|with_reducible refine GH hC ?_|wp_step)
 rw[Vo]
 repeat (first|(with_reducible refine wpAny_nsGet hns.ns ?_;rw[hv])|wp_step)
 exact hq
theorem zm (hcB:(F9 C::bm).contains (.type "BaseException")=FS) {Q:Nj->Fw->Prop}(hC:h.get? C=FB (IC nm q C N bs bm FS sn sub ab col dd k0 k1 k2 k3 k5 Kl))
  (hx:h.get? x=FB o) (hc:o.cls= .ref C) (hq:Q () #[h,g,d,t,os]):F4 M A (JK "BaseException.__getattribute__" #[[.ref x,ii],[]]) Q E #[h,g,d,t,os]:=by
 have hk:builtinKind "BaseException.__getattribute__"=FB .slot:=by decide+kernel
 have aa0:splitId "BaseException.__getattribute__"=FB ("BaseException","__getattribute__"):=by decide+kernel
 have ha:=PySem.F.args_bexc_ga (.ref x) ii;simp only[JK,hk,aa0];refine FI ?_;unfold Zm
 repeat (first|(with_reducible refine GH hx ?_;rw[hc])|(with_reducible refine wpAny_isSubtype_exc hC ?_;rw[hcB])|wp_step)
 exact hq
theorem DP (hcB:(F9 C::bm).contains (.type "BaseException")=FS) (l1:LA h bm "__getattribute__" (FB (.builtin "BaseException.__getattribute__"))) (l2:LA h bm "__getattr__" FM) {Q:Fp->Fw->Prop}
  (hC:h.get? C=FB (IC nm q C N bs bm FS sn sub ab col dd k0 k1 k2 k3 k5 Kl)) (hn:h.Ns N mN) (hng:mN "__getattribute__"=FM) (hnh:mN "__getattr__"=FM) (hna:mN name=FM)
  (hB:LA h bm name FM) (I:h.Inst x C mA) (hv:mA name=FB v) (hh:handedOut v=pure v) (hq:Q v #[h,g,d,t+1,os]):
  F4 (model prog w) A (Tq (.ref x) name expr) Q E #[h,g,d,t,os]:=by
 obtain⟨o,hx,hc,_⟩:=id I;have f3:=xB.bind (.ref x);have hx0:(expr&&onTheHeap (Mg "BaseException.__getattribute__"))=Gc:=by cases expr<;>rfl
 have hx2:(Mg "BaseException.__getattribute__" == Mg "object.__getattribute__")=Gc:=by decide+kernel
 have hx1:(onTheHeap (F9 C)&&Mg "BaseException.__getattribute__" == Mg "object.__getattribute__")=Gc:=by rw[hx2];rfl
 have hx3:onTheHeap (F9 C)=FS:=rfl;unfold Tq getAttrBy
 repeat (any_goals (first|assumption|(with_reducible refine GH hx ?_;rw[hc])|(with_reducible refine ia hC hn (λ_=>l1) ?_;rw[hng])|(with_reducible refine ia hC hn (λ_=>l2) ?_;rw[hnh])|wp_step))
 exact PZ xB.plain PySem.F.entry_bexc_ga (zm hcB hC hx hc (zn hC hn hna hB I hv (by show F4 _ _ (handedOut v) _ _ _;rw[hh];exact Gb hq)))
end
end OS
namespace OS
open PySem
section
open Builtin Builtin.ObjectAttr
variable {prog:Gh}{w:GR}{A:Hc}{E:Fp->Fw->Prop}{h:Ha}{g:JE Rm}{d:Drawn}{t:FH}{os:OsState}
variable {nm q:FY}{C N x R:Fq}{bs bm:Fh Fp}{sn:Fh FY}{sub:Fh Fp}{ab:GA}{col:FA GA}{dd:FA Fq}{k0 k1 k2 k3 k5:FA Fp}{Kl:String}
 {mN mA:FY->FA Fp}{name:FY}{v:Fp}{o:Jh}{vs:JE Fp}{sa owner B:String}
theorem E7 {Q:Nj->Fw->Prop}(SF:MJ B bm sa owner) (hC:h.get? C=FB (IC nm q C N bs (.ref R::bm) FS sn sub ab col dd k0 k1 k2 k3 k5 Kl)) (hx:h.get? x=FB o) (hc:o.cls= .ref C) (z:Q () #[h,g,d,t,os]):
  F4 M A (JK sa #[[.ref x,y,v],[]]) Q E #[h,g,d,t,os]:=by
 have u:(F9 C:: .ref R::bm).contains (.type owner)=FS:=by rw[GJ,GJ,SF.hasOwner,Qs,Qs]
 have ha:=SF.args (.ref x) y v;simp only[SF.split,SF.kind,JK];refine FI ?_;unfold Zm
 repeat (first|(with_reducible refine wpAny_isSubtype_exc hC ?_;rw[u])|(with_reducible refine GH hx ?_;rw[hc])|wp_step)
 cases hs:Manifest.signature? sa with
 |none=>exact Gb z
 |some r=>
  simp only[argsOk,hs] at ha;show F4 M A (X0 sa r #[[.ref x,y,v],[]]) Q E _;rw[show X0 sa r #[[.ref x,y,v],[]]=pure () from ha];exact Gb z
theorem CO {Q:V8->Fw->Prop}(SF:MJ B bm sa owner) (hC:h.get? C=FB (IC nm q C N bs (.ref R::bm) FS sn sub ab col dd k0 k1 k2 k3 k5 Kl)) (hn:h.Ns N mN) (hna:mN name=FM)
  (hB:LA h (.ref R::bm) name FM) (hx:h.get? x=FB o) (hc:o.cls= .ref C) (hdn:o.dict=FM) (hfd:o.data= .fields vs)
  (hq: ∀h' Uh,(∀b ob,b≠x->h.get? b=FB ob->h'.get? b=FB ob)->h'.get? x=FB #[o.cls,FB h.objs.size,o.data,o.slots]->h'.Ns1 h.objs.size (λy=>if y=name then FB v else FM)->
   Q (.done (.ret .none)) #[h',g,d,Uh,os]):
  F4 (model prog w) A (Builtin.«object.__setattr__» #[[.ref x, .str name tk,v],[]]) Q E #[h,g,d,t,os]:=by
 have Wy:=SF.passes (.ref x);unfold Builtin.«object.__setattr__»
 repeat (first|rw[refuse_eq]|(rw[refuseLoop_ref,refuseLoop_ref,Wy])|(with_reducible refine GH hx ?_;rw[hc])|with_reducible refine wpAny_mroOf_exc hC ?_|(with_reducible refine ia hC hn (λ_=>hB) ?_;rw[hna])|wp_step)
 rw[hdn,Fs (by simp [typeHasDict])];split
 ·rename_i z
  cases z
 split
 ·rename_i c z
  rw[hfd] at z;cases z
 ·have x1:(h.push { cls:= .type "dict",data:= .dict [].toArray }).get? x=FB o:=FJ _ hx
  have ne:x≠h.objs.size:=Hi (F7 hx);refine FI (wpAny_alloc' ?_);refine FI (wpAny_update' x1 ?_);refine Gb ?_
  have hgd:((h.push { cls:= .type "dict",data:= .dict [].toArray }).update x λo=> { cls:=o.cls,dict:=FB h.objs.size,data:=o.data,slots:=o.slots }).get? h.objs.size
    =FB { cls:= .type "dict",data:= .dict [].toArray } :=
   (U4 _ _ _ _ ne.symm).trans (Ha.get?_push_at rfl rfl)
  have DI:((h.push { cls:= .type "dict",data:= .dict [].toArray }).update x λo=> { cls:=o.cls,dict:=FB h.objs.size,data:=o.data,slots:=o.slots }).Ns h.objs.size (λ_=>FM):=
   #[_, [].toArray,_,hgd,Go,λe he=>FP he (by simp),λ_=>rfl]
  show F4 _ _ (storeInDict h.objs.size (.str name tk) name v) _ _ _
  unfold storeInDict newKeyGuard;refine FI (Gb (FI (VT (Pb DI) λh' Yp hs=>?_)));obtain⟨oD,esD,epD,hoD,hdD,hcD⟩:=Yp.count (Zr name v Within.nil);refine FI (RM hoD (by rw[hdD];exact RN (FV hcD (by rw[FG,Ku,Im];lia))) ?_)
  wp_walk
  refine hq h' _ (λb ob hb e=>?_) ?_ Yp
  ·exact(hs.2 b (Hi (F7 e))).trans ((U4 _ _ _ _ hb).trans (FJ _ e))
  ·refine(hs.2 x ne).trans (JG _ x1 ?_)
   have SD:=(Ha.get?_some_iff.mp hx).2;obtain⟨oc,od,odt,WR⟩:=o;cases odt<;>first|rfl|exact SD
theorem Dt {Q:V8->Fw->Prop}(SF:MJ B bm sa owner) (hC:h.get? C=FB (IC nm q C N bs (.ref R::bm) FS sn sub ab col dd k0 k1 k2 k3 k5 Kl)) (hn:h.Ns N mN) (hna:mN name=FM)
  (hB:LA h (.ref R::bm) name FM) (hx:h.get? x=FB o) (hc:o.cls= .ref C) (Vo:o.dict=FB dx) (hd:h.Ns1 dx mA) (hw:Within mA ns) (hsz:ns.length<=1000)
  (hq: ∀h' Uh,(∀b ob,b≠dx->h.get? b=FB ob->h'.get? b=FB ob)->h'.Ns1 dx (λy=>if y=name then FB v else mA y)->Q (.done (.ret .none)) #[h',g,d,Uh,os]):
  F4 (model prog w) A (Builtin.«object.__setattr__» #[[.ref x, .str name tk,v],[]]) Q E #[h,g,d,t,os]:=by
 have Wy:=SF.passes (.ref x);unfold Builtin.«object.__setattr__»
 repeat (first|rw[refuse_eq]|(rw[refuseLoop_ref,refuseLoop_ref,Wy])|(with_reducible refine GH hx ?_;rw[hc])|with_reducible refine wpAny_mroOf_exc hC ?_|(with_reducible refine ia hC hn (λ_=>hB) ?_;rw[hna])|wp_step)
 rw[Vo];refine Gb ?_;show F4 _ _ (storeInDict dx (.str name tk) name v) _ _ _;unfold storeInDict newKeyGuard;refine FI (Gb (FI (VT hd λh' n' hs=>?_)));obtain⟨o1,es1,ep1,h1,d1,c1⟩:=n'.count (Zr name v hw);refine FI (RM h1 (by rw[d1];exact RN (FV c1 (by rw[FG,Im];lia))) ?_)
 wp_walk
 exact hq h' _ (λb ob hb e=>(hs.2 b hb).trans e) n'
theorem wC {Q:Nj->Fw->Prop}(SF:MJ B bm sa owner) (hC:h.get? C=FB (IC nm q C N bs (.ref R::bm) FS sn sub ab col dd k0 k1 k2 k3 k5 Kl)) (hn:h.Ns N mN) (hns:mN "__setattr__"=FM) (l:LA h (.ref R::bm) "__setattr__" (FB (.builtin sa))) (hx:h.get? x=FB o) (hc:o.cls= .ref C)
  (hq: ∀tk t,F4 (model prog w) A.in1 (Builtin.«object.__setattr__» #[[.ref x, .str name tk,v],[]]) (λf s'=>f= .done (.ret .none)/\Q () s') (λ_ _=>False) #[h,g,d,t,os]):
  F4 (model prog w) A (Tr (.ref x) name v) Q E #[h,g,d,t,os]:=by
 have f3:=SF.slot.bind (.ref x);unfold Tr callSpecial? specialOf
 repeat (any_goals (first|assumption|(with_reducible refine GH hx ?_;rw[hc])|(with_reducible refine ia hC hn (λ_=>l) ?_;rw[hns])|wp_step))
 refine PZ SF.slot.plain SF.entry (E7 SF hC hx hc (IS (hq _ _) (λf s' z=>?_) λ_ _ z=>z.elim));obtain⟨rfl,z⟩:=z
 repeat (any_goals (first|assumption|wp_step))
end
end OS
namespace OS
open PySem PySem.Spec L2
open PyProof.Rows hiding St
def DF (H:Hp) (ch:Fh Fq):Hp:=λb=>if b∈ch then FM else H b
theorem e6 {H:Hp}(h:b∉ch):DF H ch b=H b:=Fs h
theorem oN {H:Hp}(h:b∈ch):DF H ch b=FM:=Fv h
theorem AV {H:Hp}(h: ∀b∈ch,H b=FM):DF H ch=H:=by
 funext b
 by_cases hb:b∈ch
 ·rw[oN hb,h b hb]
 ·exact e6 hb
theorem D8 {H:Hp}{a:Fq}(I:aE X pins σ H s) (hex:X.ex=[])
  (L:zB (rQ X.stack) ch a oe s.heap h') (Ud: ∀b∈ch,X.P6.heap.objs.size<=b) (htr: ∀b∈ch,H b=FM\/ ∃φ,H b=FB (.ext φ)):
  Un X.fs [] X.H_0 (DF H ch) X.P6.heap h'/\ij X.prog X.w (DF H ch) h':=by
 have old: ∀b o,X.P6.heap.get? b=FB o->b∉ch:=λb o e hb=>FP (Ge (F7 e) (Ud b hb)) (Ii _)
 have nex: ∀b,b∉X.ex:=λb hb=>by rw[hex] at hb;exact nomatch hb
 have nst: ∀b o,X.P6.heap.get? b=FB o->b∉X.fs->b∉rQ X.stack:=λb o e hb hs=>by
  rcases FF.mp (I.Si b hs) with z|z
  ·rw[z] at e
   exact FP (Ge (F7 e) I.ok.above) (Ii _)
  ·exact hb z
 have Bc: ∀b u,H b=FB u->(∀φ,u≠ .ext φ)->b∉ch:=λb u e ne hb=>by
  rcases htr b hb with z|⟨φ,z⟩
  ·rw[e] at z;cases z
  ·rw[e] at z;exact ne φ (FL z)
 have eN: ∀b,b∈X.fs->b∈rQ X.stack:=λb hb=>by
  rcases I.ok.Yn with e|⟨e,hf⟩
  ·rw[e];exact hb
  ·rw[e];unfold rQ;rw[K9,hf];exact Fx _ hb
 refine#[#[λb o e n hb _=>?_,λb o e n hb _=>?_,λb o e n _=>?_,λb o e _=>?_,λb xs e=>?_,λb o u e=>?_,λb ps e=>?_],λx u q=>?_]
 ·exact L.keep b o (nst b o e hb) (old b o e) (I.base.keep b o e n hb (nex b))
 ·obtain⟨sl,z⟩:=I.base.slot b o e n hb (nex b)
  obtain⟨sl',z'⟩:=L.slot b _ (eN b hb) (old b o e) z;exact#[sl',z']
 ·rw[e6 (old b o e)]
  exact I.base.free b o e n (nex b)
 ·obtain⟨o',z⟩:=I.base.there b o e (nex b)
  exact L.there b o' z
 ·have z:=I.base.Rp b xs e
  rw[e6 (Bc b _ z λφ y=>nomatch y)]
  exact z
 ·have z:=I.base.QZ b o u e
  rw[e6 (Bc b _ z λφ y=>nomatch y)]
  exact z
 ·obtain⟨more,z⟩:=I.base.Rq b ps e
  exact#[more,by rw[e6 (Bc b _ z λφ y=>nomatch y)];exact z]
 ·have hx:x∉ch:=λz=>by rw[oN z] at q;cases q
  rw[e6 hx] at q;refine(I.IF x u q).Sh (λb v hb e=>?_) (λb e=>?_) λb xs e=>?_
  ·refine L.keep b v (λz=>?_) (λz=>?_) e
   ·have y:=I.QS b z
    rcases hb with rfl|hb
    ·rw[q] at y;cases y
    ·rw[hb] at y;cases y
   ·rcases hb with rfl|hb
    ·exact hx z
    ·exact Bc b _ hb (λφ y=>nomatch y) z
  ·rw[e6 (Bc b _ e λφ y=>nomatch y)];exact e
  ·rw[e6 (Bc b _ e λφ y=>nomatch y)];exact e
def af7 (C d a:Fq) (n:FH) (H:Hp) (h:Ha):Prop:= ∃oe vs T oT ts,h.get? a=FB oe/\oe.cls= .ref C/\oe.dict=FB d/\oe.data= .fields vs/\vs[1]?=FB (.ref T)/\n<=T/\T≠a/\H T=FM/\
 h.get? T=FB oT/\oT.data= .fields ts/\ts[3]?=FB .none
def f9 (P:Gh) (w:GR):pV:=λouter H s E e s'=> ∃(C a d:Fq) (H':Hp),e= .ref a/\s'.os=s.os/\Qp s'.gens/\Un (rQ outer) [] H H' s.heap s'.heap/\ij P w H' s'.heap/\
 s.heap.objs.size<=a/\H' a=FM/\af7 C d a s.heap.objs.size H' s'.heap/\E (.ref C) (FB d) H'
section
variable {P:Gh}{w:GR}{K:Fm}{mg:FY->FA Fp}{base:Ha}{H0:Hp}{E:XK}{CX:pV}
theorem sH {H:Hp}{a d:Fq}(I:aE (fi CX P w K mg base N Hl scope f cd A outer s0 H0 E) pins σ H s)
  (L:zB (rQ (JR Hl scope s0.heap.objs.size f cd::outer)) ch a oe s.heap h') (Ud: ∀b∈ch,s0.heap.objs.size<=b) (htr: ∀b∈ch,H b=FM\/ ∃φ,H b=FB (.ext φ)) (ha:a∈ch)
  (hc:oe.cls= .ref C) (hd:oe.dict=FB d) (hE:E (.ref C) (FB d) (DF H ch)):f9 P w outer H0 s0 E (.ref a) { s with heap:=h' } :=by
 obtain⟨u,k⟩:=D8 I rfl L Ud htr;obtain⟨vs,T,oT,ts,x1,x2,x3,x4,x5,x6,x7⟩:=L.fly;refine#[C,a,d,DF H ch,Go,I.os,I.bare,u,k,Ud a ha,oN ha,#[_,vs,T,oT,ts,x1,hc,hd,Go,x2,FV I.sz x3,x4,?_,x5,x6,x7],hE];have z:=I.IF.fresh x3;by_cases hT:T∈ch
 ·exact oN hT
 ·rw[e6 hT];exact z
theorem aA:dn (f9 P w) (fi (f9 P w) P w K mg base N Hl scope f cd A outer s0 H0 E) E:=by
 intro pins σ H s e s' I h;obtain⟨C,a,d,H',rfl,os,bare,un,IF,za,ha,⟨oe,vs,T,oT,ts,x1,x2,x3,x4,x5,x6,x7,x8,x9,x10,x11⟩,hE⟩:=h;have J:=I.Wu (ch:=[]) os un IF bare (λb z=>nomatch z)
 have sz:=I.sz
 have ck: ∀b∈[a,T],H' b=FM:=λb hb=>by
  rcases FF.mp hb with z|z
  ·rw[z];exact ha
  ·rw[FW.mp z];exact x8
 refine Aj (base:=base) J.ok.frames J.stack rfl x1 x4 x5 x7 x9 x10 x11 λh' L=>?_;refine sH J L (λb hb=>?_) (λb hb=> .inl (ck b hb)) Fy x2 x3 (by rw[AV ck];exact hE);rcases FF.mp hb with z|z
 ·rw[z];exact FV sz za
 ·rw[FW.mp z];exact FV sz x6
end
theorem fS {P:Gh}{w:GR}{K:Fm}{mg:FY->FA Fp}{base:Ha}{x Hl:FY}{st:Stmt}{f:Fq}{fd:Gz}{N ps:Fh FY}{k:FH}{sp:Sp}(F:oY K x Hl st f fd)
  (S:ay N ps (af st)) (len: ∀vs H Q E,sp vs H Q E->vs.length=ps.length)
  (JO: ∀(Hb:Fp) (A:Hc) (outer:Fh Env) (s:Fw) (H:Hp) (vs:Fh V) (Q:VK) (E:XK),bZ k (A.deeper [011])->sp vs H Q E->
   Bd (fi (f9 P w) P w K mg base N Hl (af st) f Hb A outer s H E) (bf st) { nx:=λ_ H'=>Q .IX H',rt:=Q } (start N vs) H):bV P w K mg base (f9 P w) (k+1) f fd ps sp:=by
 obtain⟨oc,od,kV,doc,pm,an,Hb,ct,WR,rfl,lk,SN⟩:=F.ex;exact Yv lk SN S len λA outer s H vs Q E hr T5=>JO Hb A outer s H vs Q E hr T5
theorem af8 {R C:Fq} :Up (.ref R::cZ) (.ref C:: .ref R::cZ) "Exception":=
 #[by rw[GJ,GJ];rfl,by rw[GJ,GJ];rfl,by rw[GJ,GJ];rfl]
theorem CI {R C:Fq} :(F9 C:: .ref R::cZ).contains (.type "BaseException")=FS:=by rw[GJ,GJ];rfl
theorem pB {E:Fp->Fw->Prop}{Q:Flow->Fw->Prop}(hh:A.handled=FM)
  (H:F4 M A y (λv s1=> ∃e oe vs R C fI,v= .ref e/\XAt s1.heap R C fI/\s1.heap.get? e=FB oe/\oe.cls= .ref C/\oe.data= .fields vs/\vs[1]?=FB .none/\E (.ref e) s1) E s):
  F4 M A (raiseStmt env (FB y) FM) Q E s:=by
 unfold raiseStmt;refine FI (IS H (λv s1 h1=>?_) λ_ _ x=>x);obtain⟨e,oe,vs,R,C,fI,rfl,⟨Nn,mN,oI,NR,mR,⟨nm,q,bs,sn,sub,ab,col,dd,k0,k1,k2,k3,k5,hC⟩,_⟩,he,hc,hd,h1,hE⟩:=h1;have hcB:=CI (R:=R) (C:=C);obtain⟨hp,g,d,tk,os⟩:=s1
 repeat (first|(with_reducible refine GH he ?_;rw[hc])|with_reducible refine GH hC ?_|(with_reducible refine wpAny_isSubtype_exc hC ?_;rw[hcB])|with_reducible refine wpAny_field he hd h1 ?_|wp_step)
 exact wpAny_raiseNew_none hh hE
def rL (C p:Fq):HO:= .ext λh=> ∃T,h.get? p=FB (dq C T)
def kM (C d p:Fq):HO:= .ext λh=> ∃o vs,h.get? p=FB o/\o.cls= .ref C/\o.dict=FB d/\o.data= .fields vs/\vs[1]?=FB .none
def cn (d:Fq) (fs:Fh (FY×V)):HO:= .ext λh=> ∃mA,h.Ns1 d mA/\(∀f,fQ (fs.lookup f) (mA f))/\N6 mA (fs.map (·.1))
def dU (C:Fq) (g:Fh V->Fh (FY×V)->Prop):Sp:=λvs H Q _=> ∃(p:Fq) (us:Fh V) (fs:Fh (FY×V)),vs= .ref p::us/\g us fs/\H p=FB (rL C p)/\
 ∀d,H d=FM->Q .IX (aF (aF H d (cn d fs)) p (kM C d p))
def A3 (C:Fq) (g:Fh V->Fh (FY×V)->Prop) (E:XK) (t:TA):TS:=λ_ σ H=>t σ H λvs H1=>vs.length<=9/\ ∃fs,g vs fs/\ ∀d,H1 d=FM->E (.ref C) (FB d) (aF H1 d (cn d fs))
def qC (X:Cx) (E:XK):Prop:= ∀(pins:Fh (Fq×Jh)) (σ:St) (H:Hp) (s:Fw) (C d a:Fq),aE X pins σ H s->H a=FB (kM C d a)->X.P6.heap.objs.size<=a->E (.ref C) (FB d) (DF H [a])->X.xe (.ref a) s
theorem d8 {P:Gh}{w:GR}{K:Fm}{mg:FY->FA Fp}{base:Ha}{H0:Hp}{E:XK} :qC (fi (f9 P w) P w K mg base N Hl scope f cd A outer s0 H0 E) E:=by
 intro pins σ H s C d a I h z hE;obtain⟨⟨o,ws,x1,x2,x3,x4,x5⟩,_⟩:=I.IF _ _ h;refine zN (base:=base) I.ok.frames I.stack rfl x1 x4 x5 λh' L=>?_;refine sH I L (λb hb=>?_) (λb hb=>?_) Fy x2 x3 hE
 ·rw[FW.mp hb]
  exact z
 ·rw[FW.mp hb]
  exact .inr #[_,h]
section
variable {E:XK}{g:Fh V->Fh (FY×V)->Prop}
theorem oB {H1:Hp}(XR:qC X E) (XC:dG X.K R C fI) (F:bV X.prog X.w X.K X.mg X.base ye k fI fdI ps (dU C g)) (hr:bZ (k+1) X.A) (hb:gu X.K fdI ps [])
  (I1:aE X pins σ H1 s1) (r:a8 vs us) (lv:vs.length<=9) (hg:g vs fs) (qE: ∀d,H1 d=FM->E (.ref C) (FB d) (aF H1 d (cn d fs))):
  F4 (model X.prog X.w) X.A (call (.ref C) us) (λv s1=> ∃e oe vs R C fI,v= .ref e/\XAt s1.heap R C fI/\s1.heap.get? e=FB oe/\oe.cls= .ref C/\oe.data= .fields vs/\vs[1]?=FB .none/\X.xe (.ref e) s1) X.xe s1:=by
 obtain⟨h1,g1,d1,t1,Wz⟩:=s1;obtain⟨Nn,mN,oI,NR,mR,⟨nm,q,bs,sn,sub,ab,col,dd,k0,k1,k2,k3,k5,hC⟩,hn,XI,WZ,hI,hIc,_⟩:=XC.at_ h1 I1.NI;have lu:us.length<=9:=by rw[<-r.length];exact lv
 have fr:H1 (h1.objs.size+1)=FM:=I1.IF.fresh (LI _)
 have ge:((h1.push (eE us)).push (dq C h1.objs.size)).get? (h1.objs.size+1)=FB (dq C h1.objs.size):=by heap_get
 have I2:aE X pins σ (aF H1 (h1.objs.size+1) (rL C (h1.objs.size+1))) ⟨(h1.push (eE us)).push (dq C h1.objs.size),g1,d1,t1,Wz⟩:=
  I1.laid (t':=t1) (λb u z=>FJ _ (FJ _ z)) (LI _) #[#[_,ge],#[_,ge],λ_ _ ⟨T,z⟩ y=>#[T,y _ z]]
 have r2:a8 (V.ref (h1.objs.size+1)::vs) (F9 (h1.objs.size+1)::us):= .cons rfl r
 have T5:dU C g (V.ref (h1.objs.size+1)::vs) (aF H1 (h1.objs.size+1) (rL C (h1.objs.size+1)))
   (λv H'=>v= .IX/\ ∃d,(aF H1 (h1.objs.size+1) (rL C (h1.objs.size+1))) d=FM/\H'=aF (aF (aF H1 (h1.objs.size+1) (rL C (h1.objs.size+1))) d (cn d fs)) (h1.objs.size+1) (kM C d (h1.objs.size+1))) E0:=
  #[_,vs,fs,Go,hg,ae,λd hd=>#[Go,d,hd,Go]]
 have hl:(F9 (h1.objs.size+1)::us++[]).length=ps.length:=by
  have z:=r2.length;rw[F.len _ _ _ _ T5] at z;rw[GV];exact z.symm
 have bb:=hb #[(h1.push (eE us)).push (dq C h1.objs.size),g1,d1,t1,Wz] (F9 (h1.objs.size+1)::us) I2.NI hl;rw[GV] at bb;refine QW (C9 Rg af8 hC hn XI hI hIc (Nt (F.run _ X.stack _ _ #[F9 (h1.objs.size+1)::us,[]] (F9 (h1.objs.size+1)::us) _ _ E0 (hr.make C us []) (I2.aaK.make C us []) bb r2 T5) λr s' US=>?_) (by rw[Im];lia))
 cases r with
 |error e=>exact US.elim
 |ok fl=>
  cases fl with
  |next=>exact US.elim
  |brk=>exact US.elim
  |cont=>exact US.elim
  |ret u=>
   obtain⟨v,H',I3,rv,ev,d,hd,eH⟩:=I2.after US;subst ev;have np:d≠h1.objs.size+1:=λz=>by rw[z,ae] at hd;cases hd
   rw[ac np] at hd;have at3:H' (h1.objs.size+1)=FB (kM C d (h1.objs.size+1)):=by rw[eH];exact ae
   obtain⟨⟨o,ws,x1,x2,x3,x4,x5⟩,_⟩:=I3.IF _ _ at3;refine#[rv,_,o,ws,R,C,fI,Go,XC.at_ _ I3.NI,x1,x2,x4,x5,XR pins σ H' _ C d _ I3 at3 (FV I1.sz (LI _)) ?_];have z:DF H' [h1.objs.size+1]=aF H1 d (cn d fs):=by
    funext b
    by_cases hb:b=h1.objs.size+1
    ·rw[oN (by rw[hb];exact Fy),hb,ac np.symm,fr]
    ·rw[e6 (by simpa using hb),eH,ac hb]
     by_cases hbd:b=d
     ·rw[hbd,ae,ae]
     ·rw[ac hbd,ac hbd,ac hb]
   rw[z];exact qE d hd
theorem r6 (XR:qC X E) (XC:dG X.K R C fI) (F:bV X.prog X.w X.K X.mg X.base ye k fI fdI ps (dU C g)) (hr:bZ (k+1) X.A) (hg:Gl X x) (hm:X.mg x=FB (.ref C)) (hb:gu X.K fdI ps []) (ha:PA X (e::es) t)
  (Sj:(x == [003])=Gc:=by decide) (he:FU (e::es) X.env=[001]::FU es X.env:=by rfl) (M3:(Jf L3 (FU es X.env)).any (·.1)=Gc:=by rfl):
  PS X (.Raise (FB (.Call (.Name x np) (e::es) [] L3)) FM pos) (A3 C g E t):=by
 rw[04];rw[arm_exec_Raise];refine FI (MR (pB hr.hd (FI (b9 ?_ λv s1 hv=>FI (MR (Gb hv))))));refine JQ (gc I hg hm ?_ Sj);refine Ld (h₀:=X.base) I.ok.mod.VI XC.kp (b9 (ha L3 pins s σ H _ I h) λus s1 z=>?_) he M3;obtain⟨vs,H1,I1,r,lv,fs,hgv,qE⟩:=z;exact#[I1.NI,oB XR XC F hr hb I1 r lv hgv qE]
theorem eT (XR:qC X E) (XC:dG X.K R C fI) (F:bV X.prog X.w X.K X.mg X.base ye k fI fdI ps (dU C g)) (hr:bZ (k+1) X.A) (hg:Gl X x) (hm:X.mg x=FB (.ref C)) (hb:gu X.K fdI ps [])
  (Sj:(x == [003])=Gc:=by decide):PS X (.Raise (FB (.Call (.Name x np) [] [] L3)) FM pos) (A3 C g E yK):=by
 rw[04];obtain⟨lv,fs,hgv,qE⟩:=h;rw[arm_exec_Raise];refine FI (MR (pB hr.hd (FI (b9 ?_ λv s1 hv=>FI (MR (Gb hv))))));refine JQ (gc I hg hm ?_ Sj);exact OB (I.NI) XC.kp (oB XR XC F hr hb I .nil lv hgv qE)
end
end OS
namespace OS
open Vbemac
def bR (c:Jm):GA:=letter c||digit c
def eO (c:Jm):GA:=c !=10
def a7 (p:Jm->GA) (bs:Gv) (i:FH):FH:=i+((bs.drop i).takeWhile p).length
theorem eZ {bs:Gv}{i:FH}{c:Jm}(h:bs[i]?=FB c):bs.drop i=c::bs.drop (i+1):=by
 obtain⟨hi,e⟩:=Gq.mp h;rw[Hy hi,e]
theorem jX {p:Jm->GA}{bs:Gv}{i:FH}{c:Jm}(h:bs[i]?=FB c) (hp:p c=FS):a7 p bs i=a7 p bs (i+1):=by
 unfold a7;rw[eZ h,J3,Fv hp,FG];lia
theorem nv {p:Jm->GA}{bs:Gv}{i:FH}{c:Jm}(h:bs[i]?=FB c) (hp:p c=Gc):a7 p bs i=i:=by
 unfold a7;rw[eZ h,J3,Fs (by rw[hp];exact Fl)]
 rfl
theorem lF {p:Jm->GA}{bs:Gv}{i:FH}(h:bs.length<=i):a7 p bs i=i:=by
 unfold a7;rw[Tg h]
 rfl
theorem ou {p:Jm->GA}{bs:Gv}{i:FH}(h:i<=bs.length):a7 p bs i<=bs.length:=by
 unfold a7;have:=(Fh.takeWhile_sublist p (l:=bs.drop i)).length_le;rw[Me] at this;lia
def part (bs:Gv) (i j:FH):Gv:=(bs.drop i).take (j-i)
theorem wY {p:Jm->GA} : ∀l:Gv,l.takeWhile p=l.take (l.takeWhile p).length
 |[]=>rfl
 |a::l=>by
  rw[J3];split
  ·rw[FG,Fh.take_succ_cons,<-wY l]
  ·rfl
theorem ke (p:Jm->GA) (bs:Gv) (i:FH):(bs.drop i).takeWhile p=part bs i (a7 p bs i):=by
 unfold part a7;rw[Ie];exact wY _
theorem mP (p:Jm->GA) (bs:Gv) (i:FH):(bs.drop i).drop ((bs.drop i).takeWhile p).length=bs.drop (a7 p bs i):=by
 rw[OJ]
 rfl
theorem iG: ∀(w:Gv) (p:Pos),(∀c∈w,c≠10)->moved p w=(p.1,p.2+w.length)
 |[],p,_=>rfl
 |c::w,p,h=>by
  show moved (advance p c) w=_
  rw[iG w _ λd hd=>h d (Fx _ hd)];unfold advance;rw[Fs (h c Fy),FG];show(p.1,p.2+1+w.length)=_;rw[SJ,K4 1]
theorem qG {p:Jm->GA} : ∀(l:Gv),∀c∈l.takeWhile p,p c=FS
 |[],c,h=>nomatch h
 |a::l,c,h=>by
  rw[J3] at h;split at h
  ·rename_i q
   rcases FF.mp h with e|h
   ·rw[e];exact q
   ·exact qG l c h
  ·exact nomatch h
theorem oP {p:Jm->GA}(hp:p 10=Gc) (bs:Gv) (i:FH) (q:Pos):moved q ((bs.drop i).takeWhile p)=(q.1,q.2+(a7 p bs i-i)):=by
 rw[iG _ _ λc hc e=>by
  have:=qG _ c hc;rw[e,hp] at this;cases this]
 unfold a7;rw[Ie]
section
variable {bs:Gv}{i k:FH}{c:Jm}{q:Pos}
theorem k8 (h:bs[i]?=FB c) (hb:blank c=FS):lex (k+1) q (bs.drop i)=lex k (advance q c) (bs.drop (i+1)):=by
 rw[eZ h,lex,Fv hb]
theorem iM (h:bs[i]?=FB c) (hb:blank c=Gc) (PY:c=35):
  lex (k+1) q (bs.drop i)=lex k (q.1,q.2+(a7 eO bs i-i)) (bs.drop (a7 eO bs i)):=by
 have e:=eZ h
 have m:=oP (p:=eO) rfl bs i q
 have d:=mP eO bs i;rw[e] at m d;rw[e,lex,Fs (by rw[hb];exact Fl),Fv PY]
 show lex k (moved q ((c::bs.drop (i+1)).takeWhile eO)) ((c::bs.drop (i+1)).drop ((c::bs.drop (i+1)).takeWhile eO).length)=_
 rw[m,d]
theorem jW (h:bs[i]?=FB c) (hb:blank c=Gc) (PY: ¬c=35) (hl:letter c=FS):
  lex (k+1) q (bs.drop i)=if 24<a7 bR bs i-i then [(.bad,q)] else(.word (part bs i (a7 bR bs i)),q)::lex k (q.1,q.2+(a7 bR bs i-i)) (bs.drop (a7 bR bs i)):=by
 have e:=eZ h
 have m:=oP (p:=bR) [01] bs i q
 have d:=mP bR bs i
 have t:=ke bR bs i
 have n:((bs.drop i).takeWhile bR).length=a7 bR bs i-i:=by unfold a7;rw[Ie]
 rw[e] at m d t n;rw[e,lex,Fs (by rw[hb];exact Fl),Fs PY,Fv hl];show(if 24<((c::bs.drop (i+1)).takeWhile bR).length then _ else(Tok.word ((c::bs.drop (i+1)).takeWhile bR),q)::lex k (moved q ((c::bs.drop (i+1)).takeWhile bR)) ((c::bs.drop (i+1)).drop ((c::bs.drop (i+1)).takeWhile bR).length))=_
 rw[m,d,n,t]
def pK (bs:Gv) (j:FH):GA:=(bs[j]?).any letter
theorem yx (bs:Gv) (j:FH):(bs.drop j).head?=bs[j]?:=Fh.head?_drop
theorem mB (h:bs[i]?=FB c) (hb:blank c=Gc) (PY: ¬c=35) (hl:letter c=Gc) (hd:digit c=FS):
  lex (k+1) q (bs.drop i)=if 18<a7 digit bs i-i\/pK bs (a7 digit bs i)=FS then [(.bad,q)] else(.num (valueOf (part bs i (a7 digit bs i))),q)::lex k (q.1,q.2+(a7 digit bs i-i)) (bs.drop (a7 digit bs i)):=by
 have e:=eZ h
 have m:=oP (p:=digit) [01] bs i q
 have d:=mP digit bs i
 have t:=ke digit bs i
 have n:((bs.drop i).takeWhile digit).length=a7 digit bs i-i:=by unfold a7;rw[Ie]
 rw[e] at m d t n;rw[e,lex,Fs (by rw[hb];exact Fl),Fs PY,Fs (by rw[hl];exact Fl),Fv hd];show(if 18<((c::bs.drop (i+1)).takeWhile digit).length\/((((c::bs.drop (i+1)).drop ((c::bs.drop (i+1)).takeWhile digit).length).head?).any letter)=FS then _
  else(Tok.num (valueOf ((c::bs.drop (i+1)).takeWhile digit)),q)::lex k (moved q ((c::bs.drop (i+1)).takeWhile digit)) ((c::bs.drop (i+1)).drop ((c::bs.drop (i+1)).takeWhile digit).length))=_
 rw[m,d,n,t,yx]
 rfl
theorem oO {n:FH}{x:Gv} : ∀(L:Fh Gv),(∀s∈L,s.length=n)->L.find? (λs=>x.take s.length == s)=if x.take n∈L then FB (x.take n) else FM
 |[],_=>by simp
 |a::L,h=>by
  have ha:=h a Fy
  have ih:=oO (n:=n) (x:=x) L λs hs=>h s (Fx _ hs)
  rw[Hr,ha];by_cases e:x.take n=a
  ·rw[show(x.take n == a)=FS from by rw[e];exact Hf a,Fv (by rw[e];exact Fy),e]
  ·rw[show(x.take n == a)=Gc from beq_eq_false_iff_ne.mpr e]
   show L.find? _=_
   rw[ih];by_cases m:x.take n∈L
   ·rw[Fv m,Fv (Fx _ m)]
   ·rw[Fs m,Fs (λz=>(FF.mp z).elim e m)]
def zu:Fh Gv:=SIGNS.take 7
def BS:Fh Gv:=SIGNS.drop 7
theorem gv:SIGNS=zu++BS:=(TK 7 SIGNS).symm
theorem iI: ∀s∈zu,s.length=2:=by decide
theorem n8: ∀s∈BS,s.length=1:=by decide
theorem uG: ∀s∈SIGNS,∀d∈s,d≠10:=by decide
def bA (bs:Gv) (i:FH):FH:=if part bs i (i+2)∈SIGNS then i+(part bs i (i+2)).length else i+1
theorem gF (x:Gv):x∈SIGNS ↔ x∈zu\/x∈BS:=by rw[gv];exact F8
theorem zC (h:bs[i]?=FB c):(SIGNS.find? λs=>(bs.drop i).take s.length == s)=if part bs i (bA bs i)∈SIGNS then FB (part bs i (bA bs i)) else FM:=by
 have e2:(bs.drop i).take 2=part bs i (i+2):=by unfold part;rw[Ie]
 have e1:(bs.drop i).take 1=part bs i (i+1):=by unfold part;rw[Ie]
 have l1:(part bs i (i+1)).length=1:=by rw[<-e1,eZ h];rfl
 rw[gv,VV,oO zu iI,oO BS n8,e2,e1];by_cases m2:part bs i (i+2)∈zu
 ·have n2:=iI _ m2
  have s2:part bs i (i+2)∈SIGNS:=(gF _).mpr (.inl m2)
  have se:bA bs i=i+2:=by unfold bA;rw[Fv s2,n2]
  rw[Fv m2,se,<-gv,Fv s2]
  rfl
 ·have se:bA bs i=i+1:=by
   unfold bA;by_cases s2:part bs i (i+2)∈SIGNS
   ·rw[Fv s2,n8 _ (((gF _).mp s2).resolve_left m2)]
   ·rw[Fs s2]
  have n1: ¬part bs i (i+1)∈zu:=λz=>by
   have:=iI _ z;lia
  rw[Fs m2,se,<-gv,FA.none_or];by_cases m1:part bs i (i+1)∈BS
  ·rw[Fv m1,Fv ((gF _).mpr (.inr m1))]
  ·rw[Fs m1,Fs λz=>((gF _).mp z).elim n1 m1]
theorem pA (h:bs[i]?=FB c) (m:part bs i (bA bs i)∈SIGNS):(part bs i (bA bs i)).length=bA bs i-i:=by
 have e1:(part bs i (i+1)).length=1:=by unfold part;rw[Ie,eZ h];rfl
 unfold bA at m ⊢;split
 ·rename_i s2
  rw[Fv s2] at m;rcases(gF _).mp s2 with z|z
  ·rw[iI _ z,iI _ z];lia
  ·rw[n8 _ z,e1];lia
 ·rw[e1];lia
theorem kg (h:bs[i]?=FB c) (hb:blank c=Gc) (PY: ¬c=35) (hl:letter c=Gc) (hd:digit c=Gc):
  lex (k+1) q (bs.drop i)=if part bs i (bA bs i)∈SIGNS then(.sign (part bs i (bA bs i)),q)::lex k (q.1,q.2+(bA bs i-i)) (bs.drop (bA bs i)) else [(.bad,q)]:=by
 have f:=zC h
 have e:=eZ h
 have hle:i<=bA bs i:=by unfold bA;split<;>lia
 have dd: ∀n,(bs.drop i).drop n=bs.drop (i+n):=λn=>OJ
 rw[e] at f;rw[e,lex,Fs (by rw[hb];exact Fl),Fs PY,Fs (by rw[hl];exact Fl),Fs (by rw[hd];exact Fl),f];by_cases m:part bs i (bA bs i)∈SIGNS
 ·rw[Fv m,Fv m]
  show _::lex k (moved q (part bs i (bA bs i))) ((c::bs.drop (i+1)).drop (part bs i (bA bs i)).length)=_
  rw[iG _ _ (uG _ m),pA h m,<-e,dd,show i+(bA bs i-i)=bA bs i by lia]
 ·rw[Fs m,Fs m]
theorem Ee (h:bs.length<=i):lex (k+1) q (bs.drop i)=[(.eof,q)]:=by
 rw[Tg h,lex]
end
end OS
namespace OS
open Vbemac
open PySem (Str)
def ga:Tok->Prop
 | .word w=>w≠[]/\ ∀c∈w,bR c=FS
 | .sign s=>s∈SIGNS
 |_=>True
def Mid (x:Tok×Pos):Prop:=x.1≠ .eof/\x.1≠ .bad/\ga x.1
def jP (x:Tok×Pos):Prop:=x.1= .eof\/x.1= .bad
def fP (t:M0):Prop:= ∃XJ x,t=XJ++[x]/\jP x/\ ∀y∈XJ,Mid y
theorem fP.one (h:jP x):fP [x]:=#[[],x,Go,h,λ_ z=>nomatch z]
theorem fP.cons (h:Mid x) (w:fP t):fP (x::t):=by
 obtain⟨XJ,y,rfl,f,a⟩:=w;refine#[x::XJ,y,Go,f,λz hz=>?_];rcases FF.mp hz with e|hz
 ·rw[e];exact h
 ·exact a z hz
theorem fP.tail (w:fP (x::t)) (h: ¬jP x):Mid x/\fP t:=by
 obtain⟨XJ,y,e,f,a⟩:=w;cases XJ with
 |nil=>
  injection e with e1 e2;exact FP (e1▸f) h
 |cons z XJ=>
  injection e with e1 e2;exact#[e1▸a z Fy,XJ,y,e2,f,λv hv=>a v (Fx _ hv)]
theorem fP.ne (w:fP t):t≠[]:=by
 obtain⟨XJ,y,rfl,_⟩:=w;simp
theorem fM: ∀(k:FH) (q:Pos) (b:Gv),fP (lex k q b)
 |0,q,b=>by rw[lex];exact .one (.inl rfl)
 |k+1,q,[]=>by rw[lex];exact .one (.inl rfl)
 |k+1,q,c::r=>by
  have z:(c::r)[0]?=FB c:=rfl
  have d0:(c::r).drop 0=c::r:=rfl;rw[<-d0];by_cases hb:blank c=FS
  ·rw[k8 z hb];exact fM k _ _
  ·have hb:blank c=Gc:=by simpa using hb
   by_cases PY:c=35
   ·rw[iM z hb PY];exact fM k _ _
   ·by_cases hl:letter c=FS
    ·rw[jW z hb PY hl]
     split
     ·exact .one (.inr rfl)
     ·refine .cons #[by simp,by simp,?_,?_] (fM k _ _)
      ·rw[<-ke,d0,J3,Fv (by unfold bR;rw[hl];rfl)]
       simp
      ·rw[<-ke];exact qG _
    ·have hl:letter c=Gc:=by simpa using hl
     by_cases hd:digit c=FS
     ·rw[mB z hb PY hl hd]
      split
      ·exact .one (.inr rfl)
      ·exact .cons #[by simp,by simp,Hs] (fM k _ _)
     ·have hd:digit c=Gc:=by simpa using hd
      rw[kg z hb PY hl hd];split
      ·rename_i m
       exact .cons #[by simp,by simp,m] (fM k _ _)
      ·exact .one (.inr rfl)
theorem dH: ∀(k:FH) (q:Pos) (b:Gv),(lex k q b).length<=k+1
 |0,q,b=>by rw[lex];simp
 |k+1,q,[]=>by rw[lex];simp
 |k+1,q,c::r=>by
  have z:(c::r)[0]?=FB c:=rfl
  have d0:(c::r).drop 0=c::r:=rfl;rw[<-d0];by_cases hb:blank c=FS
  ·rw[k8 z hb];exact FV (dH k _ _) (by lia)
  ·have hb:blank c=Gc:=by simpa using hb
   by_cases PY:c=35
   ·rw[iM z hb PY];exact FV (dH k _ _) (by lia)
   ·by_cases hl:letter c=FS
    ·rw[jW z hb PY hl]
     split
     ·simp
     ·rw[FG];exact Hh (dH k _ _)
    ·have hl:letter c=Gc:=by simpa using hl
     by_cases hd:digit c=FS
     ·rw[mB z hb PY hl hd]
      split
      ·simp
      ·rw[FG];exact Hh (dH k _ _)
     ·have hd:digit c=Gc:=by simpa using hd
      rw[kg z hb PY hl hd];split
      ·rw[FG];exact Hh (dH k _ _)
      ·simp
theorem eJ {a b:Gv}(h:sb a=sb b):a=b:=by
 have e:(a.map Nr).toArray=(b.map Nr).toArray:=Gx FY.cps h
 have e:a.map Nr=b.map Nr:=by simpa using e
 exact Vw (λx y q=>QX.mp q) |>.mp e
theorem xM: ∀a∈SIGNS,∀b∈SIGNS,dM a=dM b->a=b:=by decide+kernel
theorem zS: ∀a∈SIGNS,∀c,(dM a).cps[0]?=FB c-> ∀d:FH,d<256->d=c->bR (OE d)=Gc:=by
 have h: ∀a∈SIGNS,∀d:FH,d<256->(dM a).cps[0]?=FB d->bR (OE d)=Gc:=by decide+kernel
 intro a ha c hc d hd e;subst e;exact h a ha d hd hc
theorem sJ {w s:Gv}(h0:w≠[]) (hw: ∀c∈w,bR c=FS) (hs:s∈SIGNS):sb w≠dM s:=λe=>by
 obtain⟨c,r,rfl⟩: ∃c r,w=c::r:=by cases w with|nil=>exact FP rfl h0|cons c r=>exact#[c,r,Go]
 have f:=zS s hs c.toNat (by rw[<-e];rfl) c.toNat (Xb c) rfl;rw[Vx,hw c Fy] at f;cases f
def va:Tok->FA FY
 | .word w=>FB (sb w)
 | .sign s=>FB (dM s)
 | .num _=>FM
 | .eof=>FB (sb [])
 | .bad=>FB (sb [])
def cX (x:FY) (w:Gv):Prop:=x=sb w/\w≠[]/\ ∀c∈w,bR c=FS
def d7 (x:FY) (s:Gv):Prop:=x=dM s/\s∈SIGNS
theorem AM: ∀s∈SIGNS,dM s≠sb []:=by decide+kernel
theorem BI (ok:ga k) {w:Gv}(h:cX x w):va k=FB x ↔ k= .word w:=by
 obtain⟨rfl,h0,h1⟩:=h;constructor
 ·intro e
  cases k with
  |word v=>exact Gx Tok.word (eJ (FL e))
  |sign s=>exact FP (FL e).symm (sJ h0 h1 ok)
  |num n=>cases e
  |eof=>exact FP (eJ (FL e)).symm h0
  |bad=>exact FP (eJ (FL e)).symm h0
 ·intro e;subst e;rfl
theorem ud (ok:ga k) (h:d7 x s):va k=FB x ↔ k= .sign s:=by
 obtain⟨rfl,hs⟩:=h;constructor
 ·intro e
  cases k with
  |word v=>exact FP (FL e) (sJ ok.1 ok.2 hs)
  |sign r=>exact Gx Tok.sign (xM r ok s hs (FL e))
  |num n=>cases e
  |eof=>exact FP (FL e).symm (AM s hs)
  |bad=>exact FP (FL e).symm (AM s hs)
 ·intro e;subst e;rfl
end OS
namespace OS
abbrev iA (p q:PySem.Pos):Prop:=(p.endLine == q.line)=FS
open PySem PySem.Spec L2
open PyProof.Rows hiding St
theorem aQ {X:Cx}{i:Int}{pos:Pos}(hg:Gl X x) (hm: ∃t,X.mg x=FB (.int i t)) (hd:(x == [003])=Gc:=by decide):PE X (.Name x pos) (tC (.int i)):=by
 obtain⟨t,hm⟩:=hm;exact rh hg hm #[t,Go] hd
theorem af9 {X:Cx}{i:FY}{pos:Pos}(hg:Gl X x) (hm: ∃t,X.mg x=FB (.str i t)) (hd:(x == [003])=Gc:=by decide):PE X (.Name x pos) (tC (.str i)):=by
 obtain⟨t,hm⟩:=hm;exact rh hg hm #[t,Go] hd
theorem pc.sq {K:Fm}{a:Fq}{H:Hp}(h:pc K a xs):rc K H a xs:= .inr h
theorem xR (r:Paired (λ(p:Fh be×V) (q:Fh be×Fq×Fp)=>p.1=q.1/\br p.2 q.2.2) aC xs) (k:Fh be):fQ (bO aC k) ((Rn xs k).map (·.2)):=by
 induction r with
 |nil=>exact Hs
 | @cons p q ps qs hq t ih=>
  unfold bO Rn at*;rw[Hr,Hr];by_cases e:q.1=k
  ·rw[show decide (p.1=k)=FS from GQ (hq.1.trans e),show decide (q.1=k)=FS from GQ e]
   exact hq.2
  ·rw[show decide (p.1=k)=Gc from Gg (λz=>e (hq.1.symm.trans z)),show decide (q.1=k)=Gc from Gg e]
   exact ih
section
variable {td ty:TE}
def aga (P:Gh) (w:GR) (K:Fm) (ty td:TE):TE:=λσ H Q=>ty σ H λy H1=>td σ H1 λx H2=> ∃a b k aC,x= .ref a/\z6 P w K a aC/\y= .ref b/\H2 b=FB (.tup (k.map kV))/\Q (.bl (bO aC k).isSome) H2
def aa1 (P:Gh) (w:GR) (K:Fm) (td ty:TE):TE:=λσ H Q=>td σ H λx H1=>ty σ H1 λy H2=> ∃a b k aC v,x= .ref a/\z6 P w K a aC/\y= .ref b/\H2 b=FB (.tup (k.map kV))/\bO aC k=FB v/\Q v H2
theorem wz (hu:X.A.units+1<P4) (hi:PE X i ty) (ho:PE X o td):PC X .In i o (aga X.prog X.w X.K ty td):=by
 rw[01];refine bin hi ho I h λv u s2 x y H2 I2 rx ry q=>?_;obtain⟨a,b,k,aC,ey,kd,ex,eb,q⟩:=q;subst ex;subst ey;cases rx;cases ry;obtain⟨xs,dd,rel⟩:=kd.at_;refine wpAny_in_heap (Ky hu) (jH I2.IF eb) kd.no (dd _ I2.NI) ?_;have z:=(xR rel k).MH;rw[Ip] at z;rw[<-z];exact#[.bl _,H2,I2.tok _,Go,q]
theorem BH (hu:X.A.units+1<P4) (ho:PE X o td) (hi:PE X i ty) (hs:EN i):PE X (.Subscript o i pos) (aa1 X.prog X.w X.K td ty):=by
 rw[01];refine wS Rf.lookup hs (b9 (ho pins s σ H _ I h) λu s1 ⟨x,H1,I1,rx,q1⟩=>b9 (hi pins s1 σ H1 _ I1 q1) λiv s2 ⟨y,H2,I2,ry,a,b,k,aC,v',ex,kd,ey,eb,l,q⟩=>?_);subst ex;subst ey;obtain rfl:u=F9 a:=rx;obtain rfl:iv=F9 b:=ry;obtain⟨xs,dd,rel⟩:=kd.at_;have z:=xR rel k;rw[l] at z;obtain⟨w',hw,Ug⟩:=fQ.some_of z;obtain⟨p,hp,hp2⟩:=Gs.mp hw;have D:=dd _ I2.NI;refine#[D.typeIs,Zg (Ky hu) (jH I2.IF eb) D hp ?_];rw[hp2];exact#[v',H2,I2.tok _,Ug,q]
end
section
variable {X:Cx}{st:Stmt}{t:TS}
def agb (t:TS):TS:=λD σ H=> ∃J:L2.St->Hp->Prop,t { D with nx:=J } σ H/\ ∀σ' H',J σ' H'->D.nx σ' H'
theorem Eh (h:PS X st t):PS X st (agb t):=by
 intro pins s σ H D I h0;obtain⟨J,h1,h2⟩:=h0;refine b9 (h pins s σ H { D with nx:=J } I h1) λf s1 q=>?_;cases f with
 |next=>
  obtain⟨σ',H',I',q⟩:=q;exact#[σ',H',I',h2 _ _ q]
 |brk=>exact q
 |cont=>exact q
 |ret u=>exact q
end
theorem jg:gV X (.builtin "isinstance") (λxs H Q=> ∃(x:V) (C:Fq) (t:Fp) (b:GA),xs=[x, .ref C]/\i4 X.K H x t/\HA X.K t (.ref C)=FB b/\Q (.bl b) H):=by
 intro pins s σ H xs us Q I r h;obtain⟨x,C,t,b,rfl,ty,e,q⟩:=h;obtain⟨u1,u2,rfl,r1,r2⟩:=vals2 r;cases r2;exact zc I r1 ty e λtk=>#[.bl b,H,I.tok _,Go,q]
theorem yj.of {K:Fm}{H:Hp}(t:yj K C) (e:H p=FB (.ins C dx fs)):i4 K H (.ref p) (.ref C):= .ins e t.cl t.ha t.hn t.htk t.hm
theorem aV {α β:Type}{F:α->β->Prop} : ∀ {l:Fh α}{m:Fh β},Paired F l m->l.length=m.length
 |_,_, .nil=>rfl
 |_,_, .cons r t=>Gx (· +1) (aV t)
def aa2 (N P:Fh FY) (sc:Scope):Prop:=sc.kind= .function/\sc.isCoroutine=Gc/\sc.isGenerator=Gc/\N.Nodup/\N.take P.length=P/\(∀x∈P,sc.names.lookup x=FB .local\/sc.names.lookup x=FB .cell)/\ ∀y∈sc.names,y.2≠ .free
instance (N P:Fh FY) (sc:Scope):Decidable (aa2 N P sc):=by unfold aa2;infer_instance
theorem ax {N P:Fh FY}(h:aa2 N P sc):ay N P sc:=#[h.1,h.2.1,h.2.2.1,h.2.2.2.1,h.2.2.2.2.1,h.2.2.2.2.2.1,h.2.2.2.2.2.2]
end OS
namespace OS
open PySem PySem.Spec L2
open PyProof.Rows hiding St
def _root_.L2.d9.to (D:d9) (X:Cx) (ss:Fh Stmt):d9:= { D with nx:=λσ H=>Bd X ss D σ H }
theorem ee {x m:FY}{p1 p2 p4:Pos}(hp:iA p2 p4) (hf:methodCallForm (args.length+0) (Jf p4 (FU args env)) (Lf p4 (Jy [] env))=FS):
  eval (.Call (.Attribute (.Name x p1) m p2) args [] p4) env=(do
   let ov<-eval (.Name x p1) env
   standAt p2.atName
   let (f,first)<-holding [ov] (Lu ov m (do return (<-P1 (.Name x p1) env).getD FS))
   NS p4 f first (Jf p4 (FU args env)) (Lf p4 (Jy [] env))):=by
 show(do
   let ov<-eval (.Name x p1) env
   standAt p2.atName
   methodCall (.Name x p1) m p2 p4 env ov (args.length+0) (Jf p4 (FU args env)) (Lf p4 (Jy [] env)))=_
 unfold methodCall calleeOf methodCallPos;rw[hf,hp]
 rfl
section
variable {H:Hp}{t:TS}
theorem iR:uz X ss (λD σ H=>Bd X ss D σ H):=λpins s σ H D I h=>by
 obtain⟨t,h,q⟩:=h;exact h pins s σ H D I q
theorem aR (h:PS X s t) (q:t (D.to X ss) σ H):Bd X (s::ss) D σ H:=#[_,ao h iR,q]
theorem eu (h:PS X s t) (q:t D σ H):Bd X [s] D σ H:=#[_,ah h,q]
theorem cf (q:D.nx σ H):Bd X [] D σ H:=#[_,bw,q]
end
inductive Pe (X:Cx) (e:HM) (σ:L2.St) (H:Hp) (Q:VK):Prop
 |mk (t:TE) (_:PE X e t) (_:t σ H Q):Pe X e σ H Q
inductive Pt (X:Cx) (e:HM) (σ:L2.St) (H:Hp) (Q:GA->Hp->Prop):Prop
 |mk (t:TT) (_:PT X e t) (_:t σ H Q):Pt X e σ H Q
inductive Pa (X:Cx) (e:Fh HM) (σ:L2.St) (H:Hp) (Q:Fh V->Hp->Prop):Prop
 |mk (t:TA) (_:PA X e t) (_:t σ H Q):Pa X e σ H Q
section
variable {H:Hp}{t:TS}{Q:VK}{R:GA->Hp->Prop}
theorem dA:PE X e (λσ H Q=>Pe X e σ H Q):=λpins s σ H Q I h=>by
 obtain⟨t,h,q⟩:=h;exact h pins s σ H Q I q
theorem jt:PT X e (λσ H Q=>Pt X e σ H Q):=λpins s σ H Q I h=>by
 obtain⟨t,h,q⟩:=h;exact h pins s σ H Q I q
theorem tm:PA X es (λσ H Q=>Pa X es σ H Q):=λpos pins s σ H Q I h=>by
 obtain⟨t,h,q⟩:=h;exact h pos pins s σ H Q I q
structure Sl (X:Cx) (i:FH) (y:FY):Prop where
 hi:X.N[i]?=FB y
 hx:Loc X.env.scope y
 hf:X.fn y=FS
theorem aN (i:FH) (nd:X.N.Nodup) (q:Pe X e σ H λv H'=>Bd X ss D (σ.set i (FB v)) H') (h:Sl X i y:=by exact#[Go,G9 rfl,Go]) (hs:Kp e (FB (.Name y p0)) p5.line X.env=pure Gc:=by rfl):Bd X (.Assign [.Name y p0] e p5::ss) D σ H:=
 aR (cr nd h.hi h.hx dA hs (.inl h.hf)) q
theorem bF (q:Pe X e σ H λ_ H'=>Bd X ss D σ H') (hs:Kp e FM p5.line X.env=pure Gc:=by rfl):Bd X (.Expr e p5::ss) D σ H:=aR (bj dA hs) q
theorem aM (q:Pe X e σ H D.rt):Bd X (.Return (FB e) p5::ss) D σ H:=aR (aJ dA) q
theorem bI (q:Pt X e σ H λb H'=>if b=FS then Bd X A (D.to X ss) σ H' else Bd X ss D σ H'):Bd X (.If e A [] p5::ss) D σ H:=aR (cv jt iR bw) q
theorem gi (N:L2.St->Hp->Prop) (rest: ∀σ H,N σ H->Bd X ss D σ H) (q:Pt X e σ H λb H'=>if b=FS then Bd X A { D with nx:=N } σ H' else N σ H'):Bd X (.If e A [] p5::ss) D σ H:=aR (Eh (cv jt iR bw)) #[N,q,rest]
theorem vJ (q:Bd X ss D σ H):Bd X [] (D.to X ss) σ H:=cf q
theorem dv (q:Pe X e σ H (vI R)) (he: ∀gU,isTrue e X.env gU=(do let v<-gU;standAt e.pos;holding [v] (truthy v)):=by intro _;rfl):Pt X e σ H R:=#[_,cT dA he,q]
theorem jr (q:Pt X e σ H λb H'=>R (!b) H'):Pt X (.UnaryOp .Not e p1) σ H R:=#[_,kR jt,q]
theorem Dj {f:HM}(q:Pt X e σ H λb H'=>if b=FS then Pt X f σ H' R else R Gc H'):Pt X (.BoolOp .And [e,f] p1) σ H R:=#[_,(rO jt (ml jt)).pt,q]
theorem agc {f:HM}(q:Pt X e σ H λb H'=>if b=FS then R FS H' else Pt X f σ H' R):Pt X (.BoolOp .Or [e,f] p1) σ H R:=#[_,(xm jt (rD jt)).pt,q]
theorem Yz {x:FY}(q:Q (.str x) H):Pe X (.Constant (.str x) j p1) σ H Q:=#[_,dJ,q]
theorem cM {x:Int}(q:Q (.int x) H):Pe X (.Constant (.int x) j p1) σ H Q:=#[_,ak,q]
theorem mT (q:Q .IX H):Pe X (.Constant .none j p1) σ H Q:=#[_,aaB,q]
theorem cE {Q:Fh V->Hp->Prop}(q:Q [] H):Pa X [] σ H Q:=#[_,ag,q]
theorem aO {Q:Fh V->Hp->Prop}(q:Pe X e σ H λv H1=>Pa X es σ H1 λvs H2=>Q (v::vs) H2) (hs:FU (e::es) X.env=[001]::FU es X.env:=by rfl):Pa X (e::es) σ H Q:=#[_,aa dA tm hs,q]
theorem bD (i:FH) {x:FY}(q:ir i σ H Q) (hN:X.N[i]?=FB x:=by rfl) (hv:oZ X.env.scope x:=by exact G9 rfl) (hd:(x == [003])=Gc:=by decide) (SN:(x == ("__classdict__":FY))=Gc:=by decide):Pe X (.Name x p1) σ H Q:=#[_,dX hN hv hd SN,q]
end
theorem Pt.mono {X:Cx}{e:HM}{σ:L2.St}{H:Hp}{Q Q':GA->Hp->Prop}(h:Pt X e σ H Q) (im: ∀b H,Q b H->Q' b H):Pt X e σ H Q':=by
 obtain⟨t,ht,q⟩:=h;refine#[λσ H Q'=> ∃Q:GA->Hp->Prop,(∀b H,Q b H->Q' b H)/\t σ H Q,λpins s σ H Q' I h=>?_,Q,im,q];obtain⟨Q,im,q⟩:=h;exact b9 (ht pins s σ H Q I q) λc s' ⟨H',I',q⟩=>#[H',I',im _ _ q]
theorem Pe.mono {X:Cx}{e:HM}{σ:L2.St}{H:Hp}{Q Q':VK}(h:Pe X e σ H Q) (im: ∀b H,Q b H->Q' b H):Pe X e σ H Q':=by
 obtain⟨t,ht,q⟩:=h;refine#[λσ H Q'=> ∃Q:VK,(∀b H,Q b H->Q' b H)/\t σ H Q,λpins s σ H Q' I h=>?_,Q,im,q];obtain⟨Q,im,q⟩:=h;exact b9 (ht pins s σ H Q I q) λc s' ⟨v,H',I',r,q⟩=>#[v,H',I',r,im _ _ q]
inductive aa3 (I:FH->L2.St->Hp->Prop) (m:FH) (σ:L2.St) (H:Hp):Prop
 |mk (k:FH) (_:k<m) (_:I k σ H):aa3 I m σ H
def _root_.L2.d9.lp (D:d9) (X:Cx) (ss:Fh Stmt) (N:L2.St->Hp->Prop):d9:= { D.to X ss with nx:=N,ct:=N,bk:=(D.to X ss).nx }
inductive isApp (L:Fq) (R:Hp->Prop) (v:V) (H:Hp):Prop
 |mk (xs:Fh V) (_:H L=FB (.lst xs)) (_:xs.length<Gk) (_:R (aF H L (.lst (xs++[v])))):isApp L R v H
section
variable {X:Cx}{ss A:Fh Stmt}{D:d9}{σ:L2.St}{H:Hp}{e f c:HM}{es:Fh HM}{Q:VK}{R:GA->Hp->Prop}{N:L2.St->Hp->Prop}{x y:FY}{p0 p1 p2 p3 p4 p5:Pos}{i:FH}{L:Fq}{xs:Fh V}{te:TE}
theorem f7 (hp:Ql (model X.prog X.w) X.A X.env X.xe) (I:FH->L2.St->Hp->Prop) (m:FH) (h0:I m σ H) (hs: ∀m σ H,I m σ H->Pt X c σ H λb H1=>if b=FS then Bd X A (D.lp X ss (aa3 I m)) σ H1 else Bd X ss D σ H1):Bd X (.While c A [] p5::ss) D σ H:=by
 refine aR (iL hp jt iR) #[I,#[m,h0],λm σ H h=>(hs m σ H h).mono λb H1 z=>?_];cases b with
 |true=>exact#[aa3 I m,λσ' H' ⟨k,h1,h2⟩=>#[k,h1,h2],z]
 |false=>exact z
theorem gt (q:N σ H):Bd X [] (D.lp X ss N) σ H:=cf q
theorem Dq (q:D.bk σ H):Bd X (.Break p5::A) D σ H:=aR Af q
theorem ki (i:FH) (hp:Ql (model X.prog X.w) X.A X.env X.xe) (nd:X.N.Nodup) (he:PE X e te) (hv: ∀R:VK,R (.ref L) H->te σ H R) (I:FH->L2.St->Hp->Prop) (h0:I 0 σ H) (hL: ∀j σ H,j<=xs.length->I j σ H->H L=FB (.lst xs))
  (hs: ∀j x σ H,xs[j]?=FB x->I j σ H->Bd X A (D.lp X ss (I (j+1))) (σ.set i (FB x)) H) (hd: ∀σ H,I xs.length σ H->Bd X ss D σ H) (hc:X.calm=FS:=by rfl) (h:Sl X i y:=by exact#[Go,G9 rfl,Go]) (hf: ∀x,KU e X.env x=pure x:=by intro _;rfl):Bd X (.For (.Name y p0) e A [] p5::ss) D σ H:=
 aR (rn hp hc (ib he) (fF nd h.hi h.hx (.inl h.hf)) iR hf) (hv _ #[L,Go,#[_,cw.of (hL 0 σ H (F6 _) h0)],tL I h0 (λj σ H hj h=>cw.of (hL j σ H hj h)) hs hd])
theorem vg (q:Pa X es σ H (Cs Q)):Pe X (.List es p1) σ H Q:=#[_,hZ tm,q]
theorem mw (q: ∀L,H L=FM->Q (.ref L) (aF H L (.lst []))):Pe X (.List [] p1) σ H Q:=vg (cE #[F6 _,q])
theorem iH (hl:X.mg "len"=FM) (hL:H L=FB (.lst xs)) (he:PE X e te) (hv: ∀Q:VK,Q (.ref L) H->te σ H Q) (q:Q (.int xs.length) H) (hg:Gl X "len":=by rfl) (KH:FU [e] X.env=[[001]]:=by rfl):Pe X (.Call (.Name "len" p1) [e] [] p2) σ H Q:=
 #[_,aY bv hg hl HF (aa he ag KH) [01] [01] KH rfl,hv _ #[L,xs,Go, .inl (cw.of hL),q]]
theorem cU {r:R2}(ho:lH X (IJ op) r) (q:Pe X e σ H λx H1=>Pe X f σ H1 λy H2=>r x y H2 (vI R)) (hm:behindInMarks op f=Gc:=by exact aK _):Pt X (.Compare e [op] [f] p1) σ H R:=#[_,aZ ho dA dA hm,q]
theorem AR {r:R2}(ho:lH X (P2 op) r) (q:Pe X e σ H λx H1=>Pe X f σ H1 λy H2=>r x y H2 Q):Pe X (.BinOp e op f p1) σ H Q:=#[_,bW ho dA dA,q]
theorem iP (he:PE X e te) (hv: ∀R:VK,R (.ref L) H->te σ H R) (hL:H L=FB (.lst xs)) (q:Pe X f σ H (isApp L λH'=>Bd X ss D σ H')) (hb:IM e "append" X.env (eval e X.env)=eval e X.env:=by rfl) (KH:FU [f] X.env=[(Gc,eval f X.env)]:=by rfl) (hp:iA p2 p4:=by rfl):
  Bd X (.Expr (.Call (.Attribute e "append" p2) [f] [] p4) p5::ss) D σ H:=by
 refine bF #[_,sj ID KZ K0 jc he (aa dA ag KH) hb (by rw[KH];rfl) hp KH rfl,hv _ #[.inl #[Go,_,cw.of hL],q.mono λv H1 z=>?_]];obtain⟨xs',h1,h2,h3⟩:=z;exact#[L,xs',v,Go,Go,h1,h2,h3]
end
theorem okL {P:Gh}{w:GR}{K:Fm}{mg:FY->FA Fp}{base:Ha}{x Hl:FY}{st:Stmt}{f:Fq}{fd:Gz}{N ps:Fh FY}{k:FH}{sp:Sp}(F:oY K x Hl st f fd)
  (S:ay N ps (af st)) (len: ∀vs H Q E,sp vs H Q E->vs.length=ps.length)
  (JO: ∀(Hb:Fp) (A:Hc) (outer:Fh Env) (s:Fw) (H:Hp) (vs:Fh V) (Q:VK) (E:XK),bZ k (A.deeper [011])->sp vs H Q E->
   let X:=fi (f9 P w) P w K mg base N Hl (af st) f Hb A outer s H E
   let D:d9:= { nx:=λ_ H'=>Q .IX H',rt:=Q }
   Bd X (bf st) D (start N vs) H):bV P w K mg base (f9 P w) (k+1) f fd ps sp:=fS F S len JO
section
variable {H:Hp}{Q:VK}{R:GA->Hp->Prop}{sp:Sp}{CX:pV}{E:XK}
theorem cx (q:Pt X e σ H λb H'=>if b=FS then Bd X A D σ H' else Bd X B D σ H'):Bd X [.If e A B p5] D σ H:=eu (cv jt iR iR) q
theorem aa4 {Z:Prop}(Ui:Z->Bd X B D σ H) (q:(Z->Bd X B D σ H)->Pt X e σ H λb H'=>if b=FS then Bd X A D σ H' else Bd X B D σ H'):Bd X [.If e A B p5] D σ H:=cx (q Ui)
theorem fm (q:Pe X e σ H λ_ H'=>D.nx σ H') (hs:Kp e FM p5.line X.env=pure Gc):Bd X [.Expr e p5] D σ H:=eu (bj dA hs) q
theorem ci (q:Pe X e σ H (dE X.K y Q)) (hb:IM e y X.env (eval e X.env)=eval e X.env):Pe X (.Attribute e y p1) σ H Q:=#[_,aj dA hb,q]
theorem k7 (q:Pe X e σ H λv H1=>Pe X f σ H1 λu H2=>CV X.K v u H2 Q) (hs:qJ f):Pe X (.Subscript e f p1) σ H Q:=#[_,cN bG dA dA hs,q]
theorem bL (q:Pa X (e::es) σ H λvs H1=>sp (vs++[]) H1 Q E) (G:bV X.prog X.w X.K X.mg X.base CX k fa fd ps sp) (hr:bZ k X.A) (d:CD X.K X.mg x fa fd ps) (up:dn CX X E) (hg:Gl X x:=by rfl) (hx:(x == [003])=Gc:=by decide) (he:FU (e::es) X.env=[001]::FU es X.env:=by rfl) (M3:(Jf p4 (FU es X.env)).any (·.1)=Gc:=by rfl):
  Pe X (.Call (.Name x p1) (e::es) [] p4) σ H Q:=#[_,aI G hr hg d up tm hx he M3,q]
theorem jw (q:Pe X e σ H λv H1=>Pe X f σ H1 λu H2=> ∃i j,v= .int i/\u= .int j/\R (decide (i=j)) H2):Pt X (.Compare e [.Eq] [f] p1) σ H R:=cU bX (q.mono λv H1 q=>q.mono λu H2 ⟨i,j,h1,h2,q'⟩=>by
 subst h1 h2;exact#[Go,_,Go,by rw[show decide (V.int i=V.int j)=decide (i=j) from decide_eq_decide.mpr #[λy=>V.int.inj y,λy=>by rw[y]]];exact q']) (aK _)
end
theorem df {c:Prop} [Decidable c] {A B:Prop}(h1:c->A) (h2: ¬c->B):if decide c=FS then A else B:=by
 by_cases h:c
 ·rw[Fv (GQ h)];exact h1 h
 ·rw[Fs (by rw[Gg h];exact Fl)];exact h2 h
abbrev kW:=Fq×HO
structure Ow (B:Hp) (L:Fh kW) (H:Hp):Prop where
 same:aS B H
 at_: ∀x∈L,H x.1=FB x.2/\B x.1=FM
 nd:(L.map λx:kW=>x.1).Nodup
section
variable {B H H':Hp}
theorem Ow.get (O:Ow B L H) (i:FH) {x:kW}(h:L[i]?=FB x):H x.1=FB x.2:=(O.at_ x (Hg h)).1
theorem Ow.grow (O:Ow B L H) (k:aS H H'):Ow B L H':=#[λb o e=>k b o (O.same b o e),λx h=>#[k _ _ (O.at_ x h).1,(O.at_ x h).2],O.nd]
theorem Ow.sub (O:Ow B L H) (h:L'.Sublist L):Ow B L' H:=#[O.same,λx z=>O.at_ x (h.subset z),O.nd.sublist (h.map _)]
theorem Ow.perm (O:Ow B L H) (h:L.Perm L'):Ow B L' H:=#[O.same,λx z=>O.at_ x (h.mem_iff.mpr z),(h.map _).nodup_iff.mp O.nd]
theorem Ow.set (O:Ow B (L1++(p,o)::L2) H) (e:H' p=FB o') (k: ∀b u,H b=FB u->b≠p->H' b=FB u):Ow B (L1++(p,o')::L2) H':=by
 have nd:=O.nd;rw[He,FX] at nd
 have z:=LN.mp nd
 have bp:=(O.at_ (p,o) (Ht _ Fy)).2;refine#[λb u h=>k b u (O.same b u h) λz=>(by rw[z,bp] at h;cases h),λx h=>?_,by rw[He,FX];exact nd]
 rcases F8.mp h with h|h
 ·have h1:=O.at_ x (Mp _ h)
  exact#[k _ _ h1.1 λy=>z.2.2 x.1 (La h) p Fy y,h1.2]
 ·rcases FF.mp h with h|h
  ·rw[h];exact#[e,bp]
  ·have h1:=O.at_ x (Ht _ (Fx _ h))
   exact#[k _ _ h1.1 λy=>(Gu.mp z.2.1).1 (by have h3:=La (f:=λx:kW=>x.1) h;rw[y] at h3;exact h3),h1.2]
theorem ow: ∀b u,H b=FB u->b≠p->aF H p o b=FB u:=λb u e n=>by rw[ac n];exact e
theorem Ow.put (O:Ow B (L1++(p,o)::L2) H):Ow B (L1++(p,o')::L2) (aF H p o'):=O.set ae ow
theorem Ow.adds (O:Ow B L H) (k:aS H H') (h: ∀x∈N,H x.1=FM/\H' x.1=FB x.2) (nd:(N.map λx:kW=>x.1).Nodup):Ow B (N++L) H':=by
 have hB: ∀ {b:Fq},H b=FM->B b=FM:=λ{b} e=>by
  cases z:B b with
  |none=>rfl
  |some o=>rw[O.same b o z] at e;cases e
 refine#[λb o e=>k b o (O.same b o e),λx z=>?_,?_]
 ·rcases F8.mp z with z|z
  ·exact#[(h x z).2,hB (h x z).1]
  ·exact#[k _ _ (O.at_ x z).1,(O.at_ x z).2]
 ·rw[He]
  refine LN.mpr #[nd,O.nd,λa ha b hb z=>?_];obtain⟨x,hx,rfl⟩:=LP.mp ha;obtain⟨y,hy,rfl⟩:=LP.mp hb;have:=(O.at_ y hy).1;rw[<-z,(h x hx).1] at this;cases this
end
abbrev cH.O {K:Fm}{mg:FY->FA Fp}{n:FY}{st:Stmt}{ps:Fh FY}{f:Fq}{fd:Gz}(_:cH K mg n st ps f fd) (P:Gh) (w:GR) (base:Ha) (k:FH) (sp:Sp):Prop:=bV P w K mg base (f9 P w) k f fd ps sp
abbrev cH.U {K:Fm}{mg:FY->FA Fp}{n:FY}{st:Stmt}{ps:Fh FY}{f:Fq}{fd:Gz}(_:cH K mg n st ps f fd) (P:Gh) (w:GR) (base:Ha) (k:FH) (sp:Sp):Prop:=bV P w K mg base ye k f fd ps sp
abbrev eI.O {K:Fm}{C:Fq}{n q:FY}{st:Stmt}{ps:Fh FY}{f:Fq}{fd:Gz}(_:eI K C n q st ps f fd) (P:Gh) (w:GR) (mg:FY->FA Fp) (base:Ha) (k:FH) (sp:Sp):Prop:=bV P w K mg base (f9 P w) k f fd ps sp
abbrev eI.U {K:Fm}{C:Fq}{n q:FY}{st:Stmt}{ps:Fh FY}{f:Fq}{fd:Gz}(_:eI K C n q st ps f fd) (P:Gh) (w:GR) (mg:FY->FA Fp) (base:Ha) (k:FH) (sp:Sp):Prop:=bV P w K mg base ye k f fd ps sp
abbrev cC (s:Stmt) (l:Fh FY):Prop:=ay l l (af s)
theorem agd:cC ab1 ["self","worth"]:=ax [00]
theorem age:cC ab2 ["self","name"]:=ax [00]
theorem agf:cC ab3 ["self","name","arguments"]:=ax [00]
theorem agg:cC ab4 ["self","sign","operand"]:=ax [00]
theorem agh:cC ab5 ["self","strength","operands","signs"]:=ax [00]
theorem agi:cC ab6 ["self","condition","chosen","otherwise"]:=ax [00]
theorem agj:cC ab7 ["self","name","first","last","body"]:=ax [00]
theorem agk:cC ab8 ["self","name","exp"]:=ax [00]
theorem agl:cC ab9 ["self","name","first","last","statements"]:=ax [00]
theorem agm:cC aca ["self","condition","statements","else_statements"]:=ax [00]
theorem agn:cC acb ["self","side","zone","quarter","price","to_price","amount"]:=ax [00]
theorem ago:cC acd ["self","name","exp"]:=ax [00]
theorem agp:cC ace ["self","name","side","zone","price","amounts","under","group"]:=ax [00]
theorem agq:cC acf ["self","name","exp"]:=ax [00]
theorem agr:cC acg ["self","name","parameters","exp"]:=ax [00]
theorem ags:cC ach ["self","name","statements"]:=ax [00]
theorem agt:cC aci ["self","desk","zone","quarter","side","low","high","amount"]:=ax [00]
theorem agu:cC acj ["self","desk","zone","side","price","group","parent","amounts"]:=ax [00]
theorem alf:cC s_M ["word"]:=ax [00]
theorem B4:ay ["orders","desk","own","steps","order"] ["orders","desk"] (af s_r):=ax [00]
theorem aa5:ay ["orders","side","order"] ["orders","side"] (af s_o):=ax [00]
theorem alg:cC s_N ["order"]:=ax [00]
theorem alh:cC s_p ["self","number"]:=ax [00]
theorem agv:cC ack ["self"]:=ax [00]
theorem ali:cC s_4 ["self","kind","line","column"]:=ax [00]
theorem alj:cC s_O ["self"]:=ax [00]
theorem alk:cC s_P ["self"]:=ax [00]
theorem agw:cC acm ["self"]:=ax [00]
theorem agx:cC acn ["self"]:=ax [00]
theorem agy:cC aco ["self"]:=ax [00]
theorem agz:cC acp ["self"]:=ax [00]
theorem alm:cC s_Q ["sign","right"]:=ax [00]
theorem aln:cC s_R ["sign","left","right"]:=ax [00]
theorem alo:cC s_S ["sign","left","right"]:=ax [00]
theorem agA:cC acq ["sign","number"]:=ax [00]
theorem agB:cC acr ["name","numbers"]:=ax [00]
theorem agC:cC acs ["strength","number"]:=ax [00]
theorem alp:cC s_T ["strength"]:=ax [00]
theorem agD:cC acu ["self","exp"]:=ax [00]
theorem agE:cC acv ["self"]:=ax [00]
theorem agF:cC acw ["self"]:=ax [00]
theorem agG:cC acx ["self","name","value"]:=ax [00]
theorem agH:cC acy ["self","name"]:=ax [00]
theorem agI:cC acz ["self","exp"]:=ax [00]
theorem agJ:cC acA ["self","value"]:=ax [00]
theorem agK:cC acB ["self","exp"]:=ax [00]
theorem alq:cC s_5 ["worker","exp","parts"]:=ax [00]
theorem alr:ay ["worker","call","parts","wanted","function"] ["worker","call","parts"] (af s_6):=ax [00]
theorem als:cC s_7 ["worker","unary","parts"]:=ax [00]
theorem alu:cC s_8 ["worker","chain","parts"]:=ax [00]
theorem alv:cC s_9 ["worker","chain","parts"]:=ax [00]
theorem agL:ay ["worker","chain","parts","right"] ["worker","chain","parts"] (af acC):=ax [00]
theorem agM:cC acD ["sign","left","right"]:=ax [00]
theorem alw:cC s_y ["value"]:=ax [00]
theorem agN:cC acE ["worker","choice","parts"]:=ax [00]
theorem agO:cC acF ["worker","summed","parts"]:=ax [00]
theorem agP:ay ["worker","summed","parts","turns","added"] ["worker","summed","parts"] (af acG):=ax [00]
theorem agQ:cC acH ["self","zones","quarters","low","high"]:=ax [00]
theorem agR:cC acI ["self","market"]:=ax [00]
theorem aa6:ay ["market","tops","expansion","top"] ["market","tops"] (af s_U):=ax [00]
theorem agS:cC acJ ["expansion","top"]:=ax [00]
theorem alx:cC s_z ["worker","given"]:=ax [00]
theorem agT:ay ["expansion","statements","statement"] ["expansion","statements"] (af s_k):=ax [00]
theorem aly:cC s_V ["expansion","statement"]:=ax [00]
theorem aa7:ay ["expansion","loop","worker","turn","last"] ["expansion","loop"] (af s_A):=ax [00]
theorem agU:cC s_D ["expansion","condition"]:=ax [00]
theorem agV:cC acK ["number","least","most"]:=ax [00]
theorem YA:ay ["expansion","step","worker","zone","quarter","low","high","amount","market","side"] ["expansion","step"] (af acL):=ax [00]
theorem alz:cC s_W ["expansion","order"]:=ax [00]
theorem YB:ay ["expansion","block","worker","zone","price","amounts","group","amount","parent","side"] ["expansion","block"] (af acM):=ax [00]
theorem agW:ay ["expansion","amounts","found","quarter"] ["expansion","amounts"] (af s_E):=ax [00]
theorem agX:cC acN ["expansion","block"]:=ax [00]
theorem agY:cC acO ["expansion","name","order"]:=ax [00]
theorem alA:cC s_F ["self","kind","value","line","column"]:=ax [00]
theorem alB:cC s_e ["byte"]:=ax [00]
theorem alC:cC s_h ["byte"]:=ax [00]
theorem agZ:cC s_G ["text","at"]:=ax [00]
theorem ag0:cC s_H ["text","at"]:=ax [00]
theorem ag1:cC s_I ["text","at"]:=ax [00]
theorem ag2:ay ["text","at","pair"] ["text","at"] (af s_J):=ax [00]
theorem ag3:ay ["text","at","end","glued"] ["text","at","end"] (af s_K):=ax [00]
theorem DN:ay ["part","worth","byte"] ["part"] (af s_t):=ax [00]
theorem aa8:ay ["kind","part","byte"] ["kind","part"] (af s_u):=ax [00]
theorem mh:ay ["text","found","line","line_start","at","end","kind"] ["text"] (af s_i):=ax [00]
theorem ag4:cC acP ["self","tokens"]:=ax [00]
theorem ag5:ay ["self","token"] ["self"] (af s_b):=ax [00]
theorem ag6:ay ["self","kind","token"] ["self","kind"] (af s_c):=ax [00]
theorem alD:cC s_q ["self","value"]:=ax [00]
theorem ag7:cC acQ ["self"]:=ax [00]
theorem ag8:cC acR ["self"]:=ax [00]
theorem ag9:ay ["self","token"] ["self"] (af s_X):=ax [00]
theorem aha:cC acS ["self"]:=ax [00]
theorem ahb:ay ["self","token"] ["self"] (af s_w):=ax [00]
theorem ahc:cC acT ["self","value"]:=ax [00]
theorem ahd:cC acU ["self","value"]:=ax [00]
theorem alE:cC s_B ["self"]:=ax [00]
theorem YC:ay ["self","name"] ["self"] (af acV):=ax [00]
theorem ahe:cC acW ["self","given"]:=ax [00]
theorem ahf:cC acX ["self","name"]:=ax [00]
theorem ahg:cC acY ["self","name"]:=ax [00]
theorem alF:cC s_f ["reader","depth"]:=ax [00]
theorem ahh:cC s_d ["reader","depth"]:=ax [00]
theorem ahi:ay ["reader","depth","inner","condition","chosen"] ["reader","depth"] (af acZ):=ax [00]
theorem ahj:ay ["reader","depth","strength","operands","signs"] ["reader","depth","strength"] (af s_x):=ax [00]
theorem aa9:ay ["reader","depth","inner","sign"] ["reader","depth"] (af s_l):=ax [00]
theorem ahk:ay ["reader","depth","name"] ["reader","depth"] (af ac0):=ax [00]
theorem ahl:ay ["reader","depth","inner","exp"] ["reader","depth"] (af ac1):=ax [00]
theorem ahm:ay ["reader","depth","inner","name","first","last","body"] ["reader","depth"] (af ac2):=ax [00]
theorem alG:ay ["reader","depth","inner","name","wanted","arguments"] ["reader","depth"] (af s_Y):=ax [00]
theorem ahn:cC ac3 ["reader","sign"]:=ax [00]
theorem aba:ay ["text","reader","tops"] ["text"] (af s_j):=ax [00]
theorem aho:cC ac4 ["reader"]:=ax [00]
theorem ahp:ay ["reader","name","exp"] ["reader"] (af ac5):=ax [00]
theorem alH:ay ["reader","exp"] ["reader"] (af s_s):=ax [00]
theorem ahq:ay ["reader","name","parameters","exp","parameter"] ["reader"] (af ac6):=ax [00]
theorem ahr:ay ["reader","function","parameters"] ["reader","function"] (af ac7):=ax [00]
theorem ahs:ay ["reader","function","name"] ["reader","function"] (af ac8):=ax [00]
theorem aht:ay ["reader","name"] ["reader"] (af ac9):=ax [00]
theorem ahu:ay ["reader","depth","statements","statement"] ["reader","depth"] (af s_m):=ax [00]
theorem ahv:cC ada ["reader","depth"]:=ax [00]
theorem alI:ay ["reader","name","exp"] ["reader"] (af s_Z):=ax [00]
theorem ahw:cC adb ["reader","depth"]:=ax [00]
theorem ahx:ay ["reader","depth","inner","name","first","last","statements"] ["reader","depth"] (af ade):=ax [00]
theorem ahy:ay ["reader","depth","inner","condition","statements","else_statements"] ["reader","depth"] (af adf):=ax [00]
theorem ahz:cC adg ["reader"]:=ax [00]
theorem alJ:cC s_n ["reader","word"]:=ax [00]
theorem alK:cC s_C ["reader","word"]:=ax [00]
theorem alL:ay ["reader","side","zone","quarter","price","to_price","amount"] ["reader"] (af s_1):=ax [00]
theorem alM:ay ["reader","name","side","zone","price","amounts","under","group"] ["reader"] (af s_2):=ax [00]
theorem ahA:ay ["reader","name","exp"] ["reader"] (af adh):=ax [00]
theorem ahB:cC adi ["reader"]:=ax [00]
theorem abb:ay ["text","byte"] ["text"] (af s_L):=ax [00]
theorem alN:cC s_3 ["price"]:=ax [00]
theorem YD:ay ["zones","quarters","low","high","counts"] ["zones","quarters","low","high"] (af adj):=ax [00]
theorem alO:cC s_g ["as_told"]:=ax [00]
theorem ahC:cC adk ["zones","quarters","low","high","text"]:=ax [00]
theorem yH:ay ["zones","quarters","low","high","text","expansion","refusal","count","answer","desk"] ["zones","quarters","low","high","text"] (af s_a):=ax [00]
variable {P:Gh}{w:GR}{K:Fm}{mg:FY->FA Fp}{base:Ha}{a:bi}
def jQ (bs:Fi):Fh V:=bs.map λc=>V.int (nb c)
theorem fG (bs:Fi):(jQ bs).length=bs.length:=by unfold jQ;rw[FE]
theorem fB {bs:Fi}{i:FH}{c:Jm}(h:bs[i]?=FB c):(jQ bs)[i]?=FB (V.int (nb c)):=by unfold jQ;rw[GB,h];rfl
theorem og {p:Jm->Prop}(h: ∀n:FH,n<256->p (OE n)) (c:Jm):p c:=by
 have:=h c.toNat (Xb c)
 rwa [Vx] at this
theorem sS (c:Jm):HU c=(decide ((48:Int)<=nb c)&&decide (nb c<=57)):=og (p:=λc=>HU c=(decide ((48:Int)<=nb c)&&decide (nb c<=57))) [00] c
theorem yo (c:Jm):Kr c=((decide ((65:Int)<=nb c)&&decide (nb c<=90))||((decide ((97:Int)<=nb c)&&decide (nb c<=122))||decide (nb c=95))):=
 og (p:=λc=>Kr c=((decide ((65:Int)<=nb c)&&decide (nb c<=90))||((decide ((97:Int)<=nb c)&&decide (nb c<=122))||decide (nb c=95)))) [00] c
inductive vr (p:Jm->GA) (vs:Fh V) (H:Hp) (Q:VK) (_E:XK):Prop
 |mk (c:Jm) (_:vs=[.int (nb c)]) (_:Q (.bl (p c)) H):vr p vs H Q _E
inductive xV (K:Fm) (p:Jm->GA) (vs:Fh V) (H:Hp) (Q:VK) (_E:XK):Prop
 |mk (l:Fq) (bs:Fi) (i:FH) (_:vs=[.ref l, .int i]) (_:cw K H l (jQ bs)) (_:i<=bs.length) (_:Q (.int (a7 p bs i:FH)) H):xV K p vs H Q _E
theorem Cy (c:Jm):eO c=!decide (V.int (nb c)=V.int 10):=og (p:=λc=>eO c=!decide (V.int (nb c)=V.int 10)) [00] c
theorem jB {i:FH}{lo hi n:Int}{σ:St}{H:Hp}{Q:VK}(hv:σ[i]?=FB (FB (.int n))) (q:Q (.bl (decide (lo<=n)&&decide (n<=hi))) H):
  vY (zt λi j=> .bl (decide (i<=j))) (zt λi j=> .bl (decide (i<=j))) (tC (.int lo)) (ir i) (tC (.int hi)) σ H Q:=by
 refine oE #[_,_,Go,Go,_,Go,?_] hv;by_cases h1:lo<=n
 ·rw[Fv (GQ h1)]
  rw[GQ h1,JB] at q;exact#[_,_,Go,Go,q]
 ·rw[Fs (by rw[Gg h1];exact Fl)]
  rw[Gg h1,Js] at q;exact q
theorem cj:decide (V.int i=V.int j)=decide (i=j):=decide_eq_decide.mpr #[λy=>V.int.inj y,λy=>by rw[y]]
theorem aP {A B:Prop}(h1:b=FS->A) (h2:b=Gc->B):if b=FS then A else B:=by
 cases b with
 |true=>exact ca (h1 rfl)
 |false=>exact bM (h2 rfl)
theorem DZ (T:aU K mg a):T.d_e.U P w base 1 (vr HU):=by
 refine T.d_e.F.ok alB [03] [02];obtain⟨c,rfl,q⟩:=h;refine#[_,(ah (aJ (iX eP eP ak (pv 0) ak))),?_];rw[sS] at q;exact jB rfl q
theorem abc (T:aU K mg a):T.d_h.U P w base 1 (vr Kr):=by
 refine T.d_h.F.ok alC [03] [02];obtain⟨c,rfl,q⟩:=h;refine#[_,(ah (aJ (AE (iX eP eP ak (pv 0) ak) (AE (iX eP eP ak (pv 0) ak) (jI (cc bX (pv 0) ak (aK _))))))),?_];rw[yo] at q;refine jB rfl #[_,Go,aP [015] λe=>?_]
 ·rw[e,Tx] at q
  exact q
 ·rw[e,Sv] at q
  refine jB rfl #[_,Go,aP [015] λe=>?_]
  ·rw[e,Tx] at q
   exact q
  ·rw[e,Sv] at q
   refine#[Go,?_];rw[cj];exact q
theorem alP (T:aU K mg a):T.d_G.U P w base 1 (xV K eO):=by
 refine T.d_G.F.ok agZ [03] [02];obtain⟨l,bs,i,rfl,hS,hi,q⟩:=h;refine#[_,(ao (iL KW (rO (aZ kG (pv 1) (aY bv (by rfl) T.J8 HF (aa (pv 0) ag)) (aK _)) (ml (aZ qc (cN bG (pv 0) (pv 1) [002]) (aQ (by rfl) T.QD) (aK _)))).pt (ah (kZ (i:=1) agZ.nd rfl (G9 rfl) ak lj)))
   (ah (aJ (pv 1)))),?_]
 refine#[λm σ H'=> ∃j:FH,m=bs.length-j/\σ=[FB (.ref l),FB (.int (j:FH))]/\H'=H/\j<=bs.length/\a7 eO bs j=a7 eO bs i,#[_,i,Go,Go,Go,hi,Go],?_];rintro m σ H' ⟨j,rfl,rfl,rfl,hj,ej⟩;refine#[_,_,Go, .inl hS,_,_,Go,Go,_,Go,?_];rw[fG];rw[05]
 ·have lt:j<bs.length:=by have:=Ga e;lia
  obtain⟨c,hc⟩: ∃c,bs[j]?=FB c:=#[_,HI lt];refine#[_,_,_,_,Go,Go,hS,bB (fB hc),Go,_,Go,?_];have st:eO c=!decide (V.int (nb c)=V.int 10):=Cy c;refine aP (λe2=>?_) λe2=>?_
  ·refine#[λσ' SE=>σ'=[FB (.ref l),FB (.int ((j+1:FH)))]/\SE=H',?_,_,Go,_,_,Go,Go,Go,Go]
   rintro σ' SE ⟨rfl,rfl⟩;exact#[_,by lia,j+1,Go,Go,Go,lt,by rw[<-ej,jX hc (st.trans e2)]]
  ·refine ?_
   rw[<-ej,nv hc (st.trans e2)] at q;exact q
 ·have ge:bs.length<=j:=by have:=Gf e;lia
  refine bM ?_;rw[<-ej,lF ge] at q;exact q
theorem alQ (T:aU K mg a):T.d_H.U P w base 2 (xV K bR):=by
 have G_h:=abc (P:=P) (w:=w) (base:=base) T
 have G_e:=DZ (P:=P) (w:=w) (base:=base) T;refine T.d_H.F.ok ag0 [03] [02];obtain⟨l,bs,i,rfl,hS,hi,q⟩:=h;refine#[_,(ao (iL KW (rO (aZ kG (pv 1) (aY bv (by rfl) T.J8 HF (aa (pv 0) ag)) (aK _)) (ml (xm (cT (aI G_h hr (by rfl) T.d_h.c aT (aa (cN bG (pv 0) (pv 1) [002]) ag))) (rD (cT (aI G_e hr (by rfl) T.d_e.c aT (aa (cN bG (pv 0) (pv 1) [002]) ag))))).pt)).pt (ah (kZ (i:=1) ag0.nd rfl (G9 rfl) ak lj)))
   (ah (aJ (pv 1)))),?_]
 refine#[λm σ H'=> ∃j:FH,m=bs.length-j/\σ=[FB (.ref l),FB (.int (j:FH))]/\H'=H/\j<=bs.length/\a7 bR bs j=a7 bR bs i,#[_,i,Go,Go,Go,hi,Go],?_];rintro m σ H' ⟨j,rfl,rfl,rfl,hj,ej⟩;refine#[_,_,Go, .inl hS,_,_,Go,Go,_,Go,?_];rw[fG];rw[05]
 ·have lt:j<bs.length:=by have:=Ga e;lia
  obtain⟨c,hc⟩: ∃c,bs[j]?=FB c:=#[_,HI lt];have go:bR c=FS-> ∃N:St->Hp->Prop,(∀σ' SE,N σ' SE-> ∃m',m'<bs.length-j/\ ∃j1:FH,m'=bs.length-j1/\σ'=[FB (.ref l),FB (.int (j1:FH))]/\SE=H'/\j1<=bs.length/\a7 bR bs j1=a7 bR bs i)/\
    N [FB (.ref l),FB (.int ((j+1:FH)))] H':=λy=>by
   refine#[λσ' SE=>σ'=[FB (.ref l),FB (.int ((j+1:FH)))]/\SE=H',?_,Go,Go];rintro σ' SE ⟨rfl,rfl⟩;exact#[_,by lia,j+1,Go,Go,Go,lt,by rw[<-ej,jX hc y]]
  refine#[_,_,_,_,Go,Go,hS,bB (fB hc),c,Go,_,Go,aP (λe2=>?_) λe2=>?_]
  ·obtain⟨N,n1,n2⟩:=go (by unfold bR;rw[e2];rfl)
   exact ca #[N,n1,_,Go,_,_,Go,Go,n2]
  ·refine#[_,_,_,_,Go,Go,hS,bB (fB hc),c,Go,_,Go,aP (λe3=>?_) λe3=>?_]
   ·obtain⟨N,n1,n2⟩:=go (by unfold bR;rw[e3,Qs])
    exact#[N,n1,_,Go,_,_,Go,Go,n2]
   ·refine ?_
    rw[<-ej,nv hc (by unfold bR;rw[e2,e3];rfl)] at q;exact q
 ·have ge:bs.length<=j:=by have:=Gf e;lia
  refine bM ?_;rw[<-ej,lF ge] at q;exact q
theorem alR (T:aU K mg a):T.d_I.U P w base 2 (xV K HU):=by
 have G_e:=DZ (P:=P) (w:=w) (base:=base) T;refine T.d_I.F.ok ag1 [03] [02];obtain⟨l,bs,i,rfl,hS,hi,q⟩:=h;refine#[_,(ao (iL KW (rO (aZ kG (pv 1) (aY bv (by rfl) T.J8 HF (aa (pv 0) ag)) (aK _)) (ml (cT (aI G_e hr (by rfl) T.d_e.c aT (aa (cN bG (pv 0) (pv 1) [002]) ag))))).pt (ah (kZ (i:=1) ag1.nd rfl (G9 rfl) ak lj)))
   (ah (aJ (pv 1)))),?_]
 refine#[λm σ H'=> ∃j:FH,m=bs.length-j/\σ=[FB (.ref l),FB (.int (j:FH))]/\H'=H/\j<=bs.length/\a7 HU bs j=a7 HU bs i,#[_,i,Go,Go,Go,hi,Go],?_];rintro m σ H' ⟨j,rfl,rfl,rfl,hj,ej⟩;refine#[_,_,Go, .inl hS,_,_,Go,Go,_,Go,?_];rw[fG];rw[05]
 ·have lt:j<bs.length:=by have:=Ga e;lia
  obtain⟨c,hc⟩: ∃c,bs[j]?=FB c:=#[_,HI lt];refine#[_,_,_,_,Go,Go,hS,bB (fB hc),c,Go,_,Go,aP (λe2=>?_) λe2=>?_]
  ·refine#[λσ' SE=>σ'=[FB (.ref l),FB (.int ((j+1:FH)))]/\SE=H',?_,_,Go,_,_,Go,Go,Go,Go]
   rintro σ' SE ⟨rfl,rfl⟩;exact#[_,by lia,j+1,Go,Go,Go,lt,by rw[<-ej,jX hc e2]]
  ·refine ?_
   rw[<-ej,nv hc e2] at q;exact q
 ·have ge:bs.length<=j:=by have:=Gf e;lia
  refine bM ?_;rw[<-ej,lF ge] at q;exact q
theorem gW (hg:Gl X x) (hm:X.mg x=FB (.ref p)) (hd:(x == [003])=Gc:=by decide):PE X (.Name x pos) (tC (.ref p)):=rh hg hm rfl hd
theorem mD {bs:Fi}{i j:FH} :vi (jQ bs) (FB (i:Int)) (FB (j:Int))=jQ (part bs i j):=by
 unfold vi part;rw[HT.UT,HT.UT,fG];unfold jQ;rw[<-Fh.map_drop,<-Fh.map_take]
 congr 1
 by_cases hi:i<=bs.length
 ·rw[XZ hi]
  by_cases hj:j<=bs.length
  ·rw[XZ hj]
  ·rw[W4 (show bs.length<=j by lia),JA (by rw[Me];lia),JA (by rw[Me];lia)]
 ·rw[W4 (show bs.length<=i by lia),Km (FN _),Km (show bs.length<=i by lia)]
  simp
theorem abd (h:kb x=kb y):x=y:=QX.mp (Oy (Ya h))
theorem Ev {x y:Fi}(h:x.map kb=y.map kb):x=y:=(Vw λ_ _ z=>abd z).mp h
theorem abe (w:Fi):(w.map kb).map kV=jQ w:=by unfold jQ;rw[JT];rfl
theorem wJ (w:Fi): ∀L:Fh Fi,bO (L.map λs=>(s.map kb,V.str (dM s))) (w.map kb)=if w∈L then FB (V.str (dM w)) else FM
 |[]=>by simp [bO]
 |s::L=>by
  rw[FX];by_cases e:s=w
  ·subst e
   rw[cg rfl,Fv Fy]
  ·rw[b8 (λz=>e (Ev z)),wJ w L]
   by_cases m:w∈L
   ·rw[Fv m,Fv (Fx _ m)]
   ·rw[Fs m,Fs λz=>(FF.mp z).elim (λy=>e y.symm) m]
theorem tz (w:Fi):bO dR (w.map kb)=if w∈GP then FB (V.str (dM w)) else FM:=wJ w GP
theorem ja (w:Fi):(bO dR (w.map kb)).isSome=decide (w∈GP):=by
 rw[tz];by_cases m:w∈GP
 ·rw[Fv m,GQ m];rfl
 ·rw[Fs m,Gg m];rfl
def eR (bs:Fi) (i:FH) (c:Jm):FH:=if Kr c=FS then a7 bR bs i else if HU c=FS then a7 HU bs i else bA bs i
inductive sD (K:Fm) (vs:Fh V) (H:Hp) (Q:VK) (_E:XK):Prop
 |mk (l:Fq) (bs:Fi) (i:FH) (c:Jm) (_:vs=[.ref l, .int i]) (_:cw K H l (jQ bs)) (_:bs[i]?=FB c) (_: ∀H',aS H H'->Q (.int (eR bs i c:FH)) H'):sD K vs H Q _E
theorem bC {H:Hp}(h:H p=TB):aS H (aF H p o):=λb u e=>by rw[ac (ai e h)];exact e
theorem alS (T:aU K mg a) (kS:z6 P w K a.Ke dR):T.d_J.U P w base 3 (sD K):=by
 have G_h:=abc (P:=P) (w:=w) (base:=base) T
 have G_e:=DZ (P:=P) (w:=w) (base:=base) T
 have G_H:=alQ (P:=P) (w:=w) (base:=base) T
 have G_I:=alR (P:=P) (w:=w) (base:=base) T;refine T.d_J.F.ok ag2 [03] [02];obtain⟨l,bs,i,c,rfl,hS,hc,q⟩:=h
 have hi:i<=bs.length:=K3 (Gq.mp hc).1;refine#[_,(ao (cv (cT (aI G_h [07] (by rfl) T.d_h.c aT (aa (cN bG (pv 0) (pv 1) [002]) ag))) (ah (aJ (aI G_H [07] (by rfl) T.d_H.c aT (aa (pv 0) (aa (pv 1) ag))))) bw)
   (ao (cv (cT (aI G_e [07] (by rfl) T.d_e.c aT (aa (cN bG (pv 0) (pv 1) [002]) ag))) (ah (aJ (aI G_I [07] (by rfl) T.d_I.c aT (aa (pv 0) (aa (pv 1) ag))))) bw)
   (ao (cr (i:=2) ag2.nd rfl (G9 rfl) (i5 gy (by rfl) T.Sg MS (aa (nZ rK (pv 0) (jf (pv 1)) (jf (bW dN (pv 1) ak))) ag)))
   (ah (aJ (dD (fD (wz (dz hr) (pv 2) (gW (by rfl) T.Se))) (bW dN (pv 1) (aY bv (by rfl) T.J8 HF (aa (pv 2) ag))) (bW dN (pv 1) ak))))))),?_]
 refine#[_,_,_,_,Go,Go,hS,bB (fB hc),c,Go,_,Go,aP [015] λe=>?_]
 ·refine#[l,bs,i,Go,hS,hi,?_]
  have z:=q H (aS.refl H);unfold eR at z;rw[Fv e] at z;exact z
 ·refine#[_,_,_,_,Go,Go,hS,bB (fB hc),c,Go,_,Go,aP (λe2=>?_) λe2=>?_]
  ·refine#[l,bs,i,Go,hS,hi,?_]
   have z:=q H (aS.refl H);unfold eR at z;rw[Fs (by rw[e];exact Fl),Fv e2] at z;exact z
  ·refine#[_,Go,_,_,Go,Go,_,Go,_,_,Go,hS,λp hp=>?_]
   refine#[p,_,Go, .inl #[cw.of ae,λt ht=>?_]];have cut:vi (jQ bs) (FB (i:Int)) (FB ((i:Int)+2))=jQ (part bs i (i+2)):=mD (j:=i+2);rw[cut] at ht ⊢;have sm:aS H (aF (aF H p (.lst (jQ (part bs i (i+2))))) t (.tup (jQ (part bs i (i+2))))):=(bC hp).trans (bC ht);have z:=q _ sm;unfold eR at z;rw[Fs (by rw[e];exact Fl),Fs (by rw[e2];exact Fl)] at z;unfold bA at z;refine#[a.Ke,t,(part bs i (i+2)).map kb,dR,Go,kS,Go,by rw[ae,abe],_,Go,aP (λe3=>?_) λe3=>?_]
   ·rw[ja] at e3
    rw[Fv (Ga e3)] at z;refine#[_,_,Go, .inr (rc.of ae),_,_,Go,Go,?_];rw[fG];exact z
   ·rw[ja] at e3
    rw[Fs (Gf e3)] at z;exact#[_,_,Go,Go,z]
def jh (bs:Fi) (i e:FH) (c:Jm):Int:=if Kr c=FS then(if e-i<=24 then 0 else 4) else if HU c=FS then(if 18<e-i\/pK bs e=FS then 4 else 1) else if part bs i e∈GP then 2 else 4
inductive pD (K:Fm) (vs:Fh V) (H:Hp) (Q:VK) (_E:XK):Prop
 |mk (l:Fq) (bs:Fi) (i e:FH) (c:Jm) (_:vs=[.ref l, .int i, .int e]) (_:cw K H l (jQ bs)) (_:bs[i]?=FB c) (_:i<=e) (_:e<=bs.length) (_: ∀H',aS H H'->Q (.int (jh bs i e c)) H'):pD K vs H Q _E
theorem alT (T:aU K mg a) (kS:z6 P w K a.Ke dR):T.d_K.U P w base 2 (pD K):=by
 have G_h:=abc (P:=P) (w:=w) (base:=base) T
 have G_e:=DZ (P:=P) (w:=w) (base:=base) T;refine T.d_K.F.ok ag3 [03] [02];obtain⟨l,bs,i,e,c,rfl,hS,hc,hie,he,q⟩:=h;refine#[_,(ao (cv (cT (aI G_h [07] (by rfl) T.d_h.c aT (aa (cN bG (pv 0) (pv 1) [002]) ag))) (ah (aJ (dD (aZ eP (bW cS (pv 2) (pv 1)) (aQ (by rfl) T.Q5) (aK _)) (aQ (by rfl) T.Ub) (aQ (by rfl) T.PK)))) bw)
   (ao (cv (cT (aI G_e [07] (by rfl) T.d_e.c aT (aa (cN bG (pv 0) (pv 1) [002]) ag))) (ao (cr (i:=3) ag3.nd rfl (G9 rfl) (oR (cc kG (pv 2) (aY bv (by rfl) T.J8 HF (aa (pv 0) ag)) (aK _)) (jI (aI G_h [07] (by rfl) T.d_h.c aT (aa (cN bG (pv 0) (pv 2) [002]) ag)))))
   (ah (aJ (dD (xm (cT (pv 3)) (rD (aZ gk (bW cS (pv 2) (pv 1)) (aQ (by rfl) T.Qc) (aK _)))).pt (aQ (by rfl) T.PK) (aQ (by rfl) T.PJ))))) bw)
   (ah (aJ (dD (fD (wz (dz hr) (i5 gy (by rfl) T.Sg MS (aa (nZ rK (pv 0) (jf (pv 1)) (jf (pv 2))) ag)) (gW (by rfl) T.Se))) (aQ (by rfl) T.Wo) (aQ (by rfl) T.PK)))))),?_]
 refine#[_,_,_,_,Go,Go,hS,bB (fB hc),c,Go,_,Go,aP (λe1=>?_) λe1=>?_]
 ·refine#[_,_,Go,Go,_,_,Go,Go,_,Go,?_]
  have z:=q H (aS.refl H);unfold jh at z;rw[Fv e1] at z;refine aP (λe2=>?_) λe2=>?_
  ·have:=Ga e2
   rw[Fv (by lia)] at z;exact z
  ·have:=Gf e2
   rw[Fs (by lia)] at z;exact z
 ·refine#[_,_,_,_,Go,Go,hS,bB (fB hc),c,Go,_,Go,aP (λe2=>?_) λe2=>?_]
  ·have z:=q H (aS.refl H)
   unfold jh at z;rw[Fs (by rw[e1];exact Fl),Fv e2] at z;have rest: ∀b:GA,pK bs e=b->afG (tIf (tOr (tB (ir 3)) (tZ (Yt (zt λi j=> .bl (decide (j<i))) (Yt (zt λi j=> .int (i-j)) (ir 2) (ir 1)) (tC (.int 18))))) (tC (.int 4)) (tC (.int 1))) { nx:=λ_ H'=>Q .IX H',rt:=Q } [FB (.ref l),FB (.int i),FB (.int e),FB (.bl b)] H:=λb hb=>by
    refine#[_,Go,aP (λe3=>?_) λe3=>?_]
    ·rw[Fv (.inr (hb.trans e3))] at z
     exact ca z
    ·refine#[_,_,Go,Go,_,_,Go,Go,_,Go,aP (λe4=>?_) λe4=>?_]
     ·have:=Ga e4
      rw[Fv (.inl (by lia))] at z;exact z
     ·have:=Gf e4
      rw[Fs (λy=>y.elim (λy=>by lia) λy=>by rw[hb,e3] at y;cases y)] at z;exact z
   refine#[_,_,Go, .inl hS,_,_,Go,Go,_,Go,?_];rw[fG];refine aP (λe3=>?_) λe3=>?_
   ·have lt:e<bs.length:=by have:=Ga e3;lia
    obtain⟨g,hg⟩: ∃g,bs[e]?=FB g:=#[_,HI lt];refine#[_,_,_,_,Go,Go,hS,bB (fB hg),g,Go,?_];exact rest (Kr g) (by unfold pK;rw[hg];rfl)
   ·have ge:bs.length<=e:=by have:=Gf e3;lia
    exact rest Gc (by unfold pK;rw[Jg ge];rfl)
  ·refine#[_,Go,_,Go,_,_,Go,hS,λp hp=>?_]
   refine#[p,_,Go, .inl #[cw.of ae,λt ht=>?_]];rw[mD] at ht ⊢;have sm:aS H (aF (aF H p (.lst (jQ (part bs i e)))) t (.tup (jQ (part bs i e)))):=(bC hp).trans (bC ht);have z:=q _ sm;unfold jh at z;rw[Fs (by rw[e1];exact Fl),Fs (by rw[e2];exact Fl)] at z;refine#[a.Ke,t,(part bs i e).map kb,dR,Go,kS,Go,by rw[ae,abe],_,Go,aP (λe3=>?_) λe3=>?_]
   ·rw[ja] at e3
    rw[Fv (Ga e3)] at z;exact z
   ·rw[ja] at e3
    rw[Fs (Gf e3)] at z;exact z
section
open Vbemac (valueOf)
theorem rF (l:Fi) (c:Jm):valueOf (l++[c])=10*valueOf l+(c.toNat-48):=by unfold valueOf;rw[Fh.foldl_append];rfl
theorem BK (h:HU c=FS):48<=nb c:=by
 rw[sS,G7] at h;exact Ga h.1
inductive xh (K:Fm) (vs:Fh V) (H:Hp) (Q:VK) (_E:XK):Prop
 |mk (l:Fq) (u:Fi) (_:vs=[.ref l]) (_:cw K H l (jQ u)) (_:(∀c∈u,HU c=FS)) (_:Q (.int (valueOf u:FH)) H):xh K vs H Q _E
def one (c:Jm):FY:=#[[c.toNat].toArray]
theorem qg: ∀w:Fi,TL.Td [] (w.map λc=>[c.toNat])=w.map Nr
 |[]=>rfl
 |[c]=>rfl
 |c::d::r=>by
  show [c.toNat]++([]++TL.Td [] ((d::r).map λc=>[c.toNat]))=_
  rw[qg (d::r)]
  rfl
theorem Ao (w:Fi):Vd ("":FY) (w.map one)=sb w:=by
 rw[TL.join_eq];refine TL.aaZ ?_;rw[TL.UW,JT];exact qg w
def BE:FY:="0123456789:;<=>?@ABCDEFGHIJKLMNOPQRSTUVWXYZ[\\]^_`abcdefghijklmnopqrstuvwxyz"
theorem yy:BE.length<=Gk:=by decide+kernel
theorem Bf (h:bR c=FS):Ab BE.cps.toList (nb c-48)=FB c.toNat:=by
 revert h;exact og (p:=λc=>bR c=FS->Ab BE.cps.toList (nb c-48)=FB c.toNat) [00] c
inductive BA (K:Fm) (vs:Fh V) (H:Hp) (Q:VK) (_E:XK):Prop
 |mk (k:Int) (l:Fq) (u:Fi) (_:vs=[.int k, .ref l]) (_:cw K H l (jQ u)) (_:u.length<=3000) (_:((k=0/\(∀c∈u,bR c=FS)/\ ∀H',aS H H'->Q (.str (sb u)) H')\/(k=1/\(∀c∈u,HU c=FS)/\ ∀H',aS H H'->Q (.int (valueOf u:FH)) H')\/
   (k=2/\u∈GP/\ ∀H',aS H H'->Q (.str (dM u)) H')\/(k=4/\ ∀H',aS H H'->Q (.str (sb [])) H'))):BA K vs H Q _E
theorem alU (T:aU K mg a):T.d_t.U P w base 1 (xh K):=by
 refine T.d_t.F.ok DN [03] [02];obtain⟨l,u,rfl,hS,hd,q⟩:=h;refine#[_,(ao (cr (i:=1) DN.nd rfl (G9 rfl) ak)
   (ao (rn KW rfl (ib (pv 0)) (fF (i:=2) DN.nd rfl (G9 rfl)) (ah (cr (i:=1) DN.nd rfl (G9 rfl) (bW cS (bW dN (bW Bp (pv 1) ak) (pv 2)) ak))))
   (ah (aJ (pv 1))))),?_]
 refine#[l,Go,#[_,hS],tL (K:=K) (a:=l) (xs:=jQ u) (λi σ H'=> ∃v:FA V,σ=[FB (.ref l),FB (.int (valueOf (u.take i):FH)),v]/\H'=H) #[FM,Go,Go] (λi σ H' _ ⟨_,_,e⟩=>by rw[e];exact hS) ?_ ?_]
 ·rintro i y σ H' hi ⟨v,rfl,rfl⟩
  obtain⟨c,hc,rfl⟩: ∃c,u[i]?=FB c/\y=V.int (nb c):=by
   unfold jQ at hi;rw[GB] at hi;cases e:u[i]? with
   |none=>rw[e] at hi;cases hi
   |some c=>rw[e] at hi;exact#[c,Go,(FL hi).symm]
  refine#[_,_,Go,Go, .inr #[by decide,by decide],_,_,Go,Go,_,_,Go,Go,FB (.int (nb c)),?_,Go];have g:=BK (hd c (Hg hc));have e:((valueOf (u.take (i+1)):FH):Int)=(valueOf (u.take i):FH)*10+nb c-48:=by
   rw[JS,hc];show((valueOf (u.take i++[c]):FH):Int)=_;rw[rF];have g':48<=c.toNat:=Int.ofNat_le.mp g;show((10*valueOf (u.take i)+(c.toNat-48):FH):Int)=(valueOf (u.take i):FH)*10+(c.toNat:Int)-48;lia
  rw[e]
  rfl
 ·rintro σ H' ⟨v,rfl,rfl⟩
  rw[fG,J6];exact q
theorem alV (T:aU K mg a) (kS:z6 P w K a.Ke dR):T.d_u.U P w base 2 (BA K):=by
 have G_t:=alU (P:=P) (w:=w) (base:=base) T;refine T.d_u.F.ok aa8 [03] [02];obtain⟨k,l,u,rfl,hS,NJ,h⟩:=h;refine#[_,(ao (cv (aZ bX (pv 0) (aQ (by rfl) T.Ub) (aK _)) (ah (aJ (D5 dJ (BM rfl aa8.nd (ib (pv 1)) (own:=[("byte",2)]) (iT (by show vh ["kind","part","byte"] (af s_u) _ [("byte",2)]=FS;decide+kernel)) (λ_ _ _ _ _=>fF (i:=2) aa8.nd rfl (G9 rfl)) (λ_ _ _ _ _=>wq) (λ_ _ _ _ _=>(cN aaN (af9 (by rfl) T.Uc) (bW cS (pv 2) ak) [002])))))) bw)
   (ao (cv (aZ bX (pv 0) (aQ (by rfl) T.PJ) (aK _)) (ah (aJ (aI G_t [07] (by rfl) T.d_t.c aT (aa (pv 1) ag)))) bw)
   (ao (cv (aZ bX (pv 0) (aQ (by rfl) T.Wo) (aK _)) (ah (aJ (BH (dz hr) (gW (by rfl) T.Se) (i5 gy (by rfl) T.Sg MS (aa (pv 1) ag)) [002]))) bw)
   (ah (aJ dJ))))),?_]
 refine [013];rw[cj];rcases h with⟨rfl,hw,q⟩|⟨rfl,hd,q⟩|⟨rfl,hs,q⟩|⟨rfl,q⟩
 ·refine ca ?_
  refine#[#[_,Go],l,Go,#[_,hS],λD hD=>?_];have sm:aS H (aF H D (.lst [])):=bC hD;refine ko (K:=K) (a:=l) (xs:=jQ u) (λi H'=>aS H H'/\H' D=FB (.lst (((u.take i).map one).map V.str))) #[sm,ae] (λi H' _ z=>z.1.seq hS) ?_ ?_
  ·rintro i y H' hi ⟨s1,QT⟩
   obtain⟨c,hc,rfl⟩: ∃c,u[i]?=FB c/\y=V.int (nb c):=by
    unfold jQ at hi;rw[GB] at hi;cases e:u[i]? with
    |none=>rw[e] at hi;cases hi
    |some c=>rw[e] at hi;exact#[c,Go,(FL hi).symm]
   refine#[Go,?_];unfold aaU;dsimp only;rw[Fv rfl];refine#[_,_,Go,Go,_,_,_,Go,Go,yy,Bf (hw c (Hg hc)),_,QT,?_,?_,?_]
   ·have z:=(Fh.length_take_le i u)
    rw[FE,FE];refine Gr (KR i u) ?_;exact Gr NJ [01]
   ·exact λb o e=>by rw[ac (ai e hD)];exact s1 b o e
   ·rw[ae,JS,hc]
    show FB (HO.lst (((u.take i).map one).map V.str++[V.str #[[c.toNat].toArray]]))=FB (HO.lst (((u.take i++[c]).map one).map V.str))
    rw[He,He]
    rfl
  ·rintro H' ⟨s1,QT⟩
   rw[fG,J6] at QT;refine#[_,D,u.map one,Go,Go, .inl (cw.of QT),?_,?_]
   ·have e:((u.map one).map (·.length)).sum=u.length:=by
     rw[JT];clear hS NJ hw q QT s1 sm
     induction u with
     |nil=>rfl
     |cons c r ih=>rw[FX,Zn,ih,FG];show 1+r.length=_;lia
    rw[e];show u.length+(u.map one).length*0<=16777216;lia
   ·rw[Ao]
    exact q H' s1
 ·refine bM [013]
  rw[cj];exact ca #[l,u,Go,hS,hd,q H (aS.refl H)]
 ·refine bM [013]
  rw[cj];refine bM [013];rw[cj];refine ca #[l,_,Go, .inl #[hS,λt ht=>?_]];refine#[a.Ke,t,u.map kb,dR,_,Go,kS,Go,by rw[ae,abe],(by rw[tz,Fv hs]),q _ (bC ht)]
 ·refine bM [013]
  rw[cj];refine bM [013];rw[cj];exact bM (q H (aS.refl H))
end
section
open Vbemac (valueOf)
def At (k v l c:V):Fh (FY×V):=Il "column" c (Il "line" l (Il "value" v (Il "kind" k [])))
def ik:GO->Int
 | .word _=>0
 | .num _=>1
 | .sign _=>2
 | .eof=>3
 | .bad=>4
def iy:GO->V
 | .word u=> .str (sb u)
 | .num n=> .int (n:FH)
 | .sign u=> .str (dM u)
 | .eof=> .str (sb [])
 | .bad=> .str (sb [])
inductive fX (C:Fq) (H:Hp) (p:Fq) (x:GO×GD):Prop
 |mk (dx:Fq) (_:H p=FB (.ins C dx (At (.int (ik x.1)) (iy x.1) (.int (x.2.1:FH)) (.int (x.2.2:FH))))):fX C H p x
inductive YE (C:Fq) (vs:Fh V) (H:Hp) (Q:VK) (_E:XK):Prop
 |mk (p dx:Fq) (k v l c:V) (_:vs=[.ref p,k,v,l,c]) (_:H p=FB (.ins C dx [])) (_: ∀H':Hp,H' p=FB (.ins C dx (At k v l c))->(∀b o,H b=FB o->b≠p->H' b=FB o)->Q .IX H'):YE C vs H Q _E
theorem BL (c:Jm):uA (.int (nb c)) [.int 9, .int 10, .int 13, .int 32]=SA c:=og (p:=λc=>uA (.int (nb c)) [.int 9, .int 10, .int 13, .int 32]=SA c) [00] c
inductive Dn (K:Fm) (C:Fq) (vs:Fh V) (H:Hp) (Q:VK) (_E:XK):Prop
 |mk (l:Fq) (bs:Fi) (_:vs=[.ref l]) (_:cw K H l (jQ bs)) (_:bs.length<=3000) (_: ∀(H':Hp) (q:Fq) (as:Fh Fq),aS H H'->H q=TB->H' q=FB (.lst (as.map V.ref))->Paired (fX C H') as (GW bs)->Q (.ref q) H'):Dn K C vs H Q _E
theorem fX.keep {H H':Hp}(h:fX C H p x) (k: ∀b o,H b=FB o->(∀xs,o≠ .lst xs)->H' b=FB o):fX C H' p x:=by
 obtain⟨dx,e⟩:=h;exact#[dx,k _ _ e λxs z=>nomatch z]
theorem fh {α β:Type}{F:α->β->Prop} : ∀ {l:Fh α}{m:Fh β}{x:α}{y:β},Paired F l m->F x y->Paired F (l++[x]) (m++[y])
 |_,_,_,_, .nil,h=> .cons h .nil
 |_,_,_,_, .cons r t,h=> .cons r (fh t h)
def YF (k:Int) (u:Fi) (v:V):Prop:=(k=0/\(∀c∈u,bR c=FS)/\v= .str (sb u))\/(k=1/\(∀c∈u,HU c=FS)/\v= .int (valueOf u:FH))\/(k=2/\u∈GP/\v= .str (dM u))\/(k=4/\v= .str (sb []))
theorem qZ (h:Kr c=FS):bR c=FS:=by unfold bR;rw[h];rfl
theorem Dh {p:Jm->GA} :i<=a7 p bs i:=by unfold a7;lia
theorem oS {p:Jm->GA}(h:bs[i]?=FB c) (hp:p c=FS):i<a7 p bs i:=by
 rw[jX h hp];exact Dh
theorem r9 {p:Jm->GA} : ∀c∈part bs i (a7 p bs i),p c=FS:=by
 rw[<-ke];exact qG _
theorem lQ:(part bs i j).length<=bs.length-i:=by
 unfold part;rw[QO,Me];lia
theorem oK (h:bs[i]?=FB c):i<bA bs i/\bA bs i<=bs.length:=by
 obtain⟨hi,_⟩:=Gq.mp h;have l1:0<(part bs i (i+2)).length:=by unfold part;rw[Ie,eZ h];exact FH.succ_pos _
 have l2:=lQ (bs:=bs) (i:=i) (j:=i+2);unfold bA;split<;>lia
theorem Aw (h:bs[i]?=FB c) (hb:SA c=Gc) (PY: ¬c=35):i<eR bs i c/\eR bs i c<=bs.length/\ ∃y:GO,jh bs i (eR bs i c) c=ik y/\YF (ik y) (part bs i (eR bs i c)) (iy y)/\
  ∀k q,Pd (k+1) q (bs.drop i)=if ik y=4 then [(y,q)] else(y,q)::Pd k (q.1,q.2+(eR bs i c-i)) (bs.drop (eR bs i c)):=by
 obtain⟨hi,_⟩:=Gq.mp h;unfold eR jh;cases hl:Kr c with
 |true=>
  rw[Fv rfl,Fv rfl];refine#[oS h (qZ hl),ou (K3 hi),?_];by_cases g:a7 bR bs i-i<=24
  ·refine#[.word (part bs i (a7 bR bs i)),Fv g, .inl #[Go,r9,Go],λk q=>?_]
   rw[jW h hb PY hl,Fs (by lia)];exact(Fs (by show¬(0:Int)=4;decide)).symm
  ·refine#[.bad,Fs g, .inr (.inr (.inr #[Go,Go])),λk q=>?_]
   rw[jW h hb PY hl,Fv (by lia)];exact(Fv rfl).symm
 |false=>
  rw[Fs Fl,Fs Fl];cases hd:HU c with
  |true=>
   rw[Fv rfl,Fv rfl];refine#[oS h hd,ou (K3 hi),?_];by_cases g:18<a7 HU bs i-i\/pK bs (a7 HU bs i)=FS
   ·refine#[.bad,Fv g, .inr (.inr (.inr #[Go,Go])),λk q=>?_]
    rw[mB h hb PY hl hd,Fv g];exact(Fv rfl).symm
   ·refine#[.num (valueOf (part bs i (a7 HU bs i))),Fs g, .inr (.inl #[Go,r9,Go]),λk q=>?_]
    rw[mB h hb PY hl hd,Fs g];exact(Fs (by show¬(1:Int)=4;decide)).symm
  |false=>
   rw[Fs Fl,Fs Fl];refine#[(oK h).1,(oK h).2,?_];by_cases g:part bs i (bA bs i)∈GP
   ·refine#[.sign (part bs i (bA bs i)),Fv g, .inr (.inr (.inl #[Go,g,Go])),λk q=>?_]
    rw[kg h hb PY hl hd,Fv g];exact(Fs (by show¬(2:Int)=4;decide)).symm
   ·refine#[.bad,Fs g, .inr (.inr (.inr #[Go,Go])),λk q=>?_]
    rw[kg h hb PY hl hd,Fs g];exact(Fv rfl).symm
theorem YG (h:nb c=nb d):c=d:=QX.mp (Oy h)
theorem tY:(as++[x]).map V.ref=as.map V.ref++[V.ref x]:=by rw[He];rfl
theorem Cv {K:Fm}{H:Hp}{Q:VK}{E:XK}(ok:YF k u v) (hS:cw K H l (jQ u)) (hl:u.length<=3000) (q: ∀H',aS H H'->Q v H'):BA K [.int k, .ref l] H Q E:=by
 refine#[k,l,u,Go,hS,hl,?_];rcases ok with⟨h,g,rfl⟩|⟨h,g,rfl⟩|⟨h,g,rfl⟩|⟨h,rfl⟩
 ·exact .inl #[h,g,q]
 ·exact .inr (.inl #[h,g,q])
 ·exact .inr (.inr (.inl #[h,g,q]))
 ·exact .inr (.inr (.inr #[h,q]))
theorem o8 (T:aU K mg a):T.d_F.U P w mg base 1 (YE a.Ju):=by
 refine T.d_F.F.ok alA [03] [02];obtain⟨p,dx,k,v,l,c,rfl,hp,q⟩:=h;refine#[_,(ao (b4 (pv 0) (pv 1) rfl)
   (ao (b4 (pv 0) (pv 2) rfl)
   (ao (b4 (pv 0) (pv 3) rfl)
   (ah (b4 (pv 0) (pv 4) rfl))))),?_]
 have l1:(Il "kind" k []).length<1000:=Gr (cV "kind" k []) [01]
 have l2:(Il "value" v (Il "kind" k [])).length<1000:=Gr (FV (cV "value" v _) (Hh (cV "kind" k []))) [01]
 have l3:(Il "line" l (Il "value" v (Il "kind" k []))).length<1000:=Gr (FV (cV "line" l _) (Hh (FV (cV "value" v _) (Hh (cV "kind" k []))))) [01];refine#[p,_,dx,_,Go,hp,T.IW,T.Ko,(by show 0<1000;decide),?_];refine#[p,_,dx,_,Go,ae,T.IW,T.JD,l1,?_];refine#[p,_,dx,_,Go,ae,T.IW,T.Np,l2,?_];refine#[p,_,dx,_,Go,ae,T.IW,T.Mm,l3,?_];refine q _ ae λb o e hb=>?_
 rw[ac hb,ac hb,ac hb,ac hb];exact e
structure ahD (C:Fq) (bs:Fi) (q:Fq) (H H':Hp) (i ln ls:FH) (as:Fh Fq):Prop where
 sm:aS H H'
 lst:H' q=FB (.lst (as.map V.ref))
 ahE:i<=bs.length
 ahF:ls<=i
 rest: ∃(ts:Fn) (k:FH),Paired (fX C H') as ts/\bs.length<i+k/\GW bs=ts++Pd k (ln,i-ls+1) (bs.drop i)/\as.length<=i
theorem xA {H5 H6:Hp}(hx:H6 x=FB (.ins C dx (At (.int (ik y.1)) (iy y.1) (.int (y.2.1:FH)) (.int (y.2.2:FH)))))
  (k: ∀b o,H5 b=FB o->H6 b=FB o) (p:Paired (fX C H5) as ts) (nq:x≠q) (hq:H6 q=FB (.lst (as.map V.ref))):
  Paired (fX C (aF H6 q (.lst ((as++[x]).map V.ref)))) (as++[x]) (ts++[y]):=by
 refine fh (Paired.Nq p λb z h=>?_) #[dx,by rw[ac nq];exact hx];refine fX.keep h λb' o e no=>?_;have ne:b'≠q:=λz=>by
  have w1:=k _ _ e;rw[z,hq] at w1;exact no _ (FL w1).symm
 rw[ac ne];exact k _ _ e
theorem alW (T:aU K mg a) (kS:z6 P w K a.Ke dR):T.d_i.U P w base 4 (Dn K a.Ju):=by
 have G_G:=alP (P:=P) (w:=w) (base:=base) T
 have G_J:=alS (P:=P) (w:=w) (base:=base) T kS
 have G_K:=alT (P:=P) (w:=w) (base:=base) T kS
 have G_u:=alV (P:=P) (w:=w) (base:=base) T kS
 have G_F:=o8 (P:=P) (w:=w) (base:=base) T;refine T.d_i.F.ok mh [03] [02];obtain⟨l,bs,rfl,hS,NJ,hQ⟩:=h;refine#[_,(ao (cr (i:=1) mh.nd rfl (G9 rfl) (hZ ag))
   (ao (cr (i:=2) mh.nd rfl (G9 rfl) ak)
   (ao (cr (i:=3) mh.nd rfl (G9 rfl) ak)
   (ao (cr (i:=4) mh.nd rfl (G9 rfl) ak)
   (ao (iL KW (aZ kG (pv 4) (aY bv (by rfl) T.J8 HF (aa (pv 0) ag)) (aK _)) (ah (cv (aZ lJ (cN bG (pv 0) (pv 4) [002]) (gW (by rfl) T.Wq) rfl) (ao (kZ (i:=4) mh.nd rfl (G9 rfl) ak lj)
   (ah (cv (aZ bX (cN bG (pv 0) (bW cS (pv 4) ak) [002]) (aQ (by rfl) T.QD) (aK _)) (ao (kZ (i:=2) mh.nd rfl (G9 rfl) ak lj)
   (ah (cr (i:=3) mh.nd rfl (G9 rfl) (pv 4)))) bw))) (ah (cv (aZ bX (cN bG (pv 0) (pv 4) [002]) (aQ (by rfl) T.Vn) (aK _)) (ah (cr (i:=4) mh.nd rfl (G9 rfl) (aI G_G [07] (by rfl) T.d_G.c aT (aa (pv 0) (aa (pv 4) ag))))) (ao (cr (i:=5) mh.nd rfl (G9 rfl) (aI G_J [07] (by rfl) T.d_J.c aT (aa (pv 0) (aa (pv 4) ag))))
   (ao (cr (i:=6) mh.nd rfl (G9 rfl) (aI G_K [07] (by rfl) T.d_K.c aT (aa (pv 0) (aa (pv 4) (aa (pv 5) ag)))))
   (ao (bj (sj ID KZ K0 jc (pv 1) (aa (g7 T.SX G_F [07] (by rfl) T.SU T.d_F.c.b .nil aT (aa (pv 6) (aa (aI G_u [07] (by rfl) T.d_u.c aT (aa (pv 6) (aa (nZ rK (pv 0) (jf (pv 4)) (jf (pv 5))) ag))) (aa (pv 2) (aa (bW dN (bW cS (pv 4) (pv 3)) ak) ag))))) ag)))
   (ao (cv (aZ bX (pv 6) (aQ (by rfl) T.PK) (aK _)) (ah (aJ (pv 1))) bw)
   (ah (cr (i:=4) mh.nd rfl (G9 rfl) (pv 5))))))))))))
   (ao (bj (sj ID KZ K0 jc (pv 1) (aa (g7 T.SX G_F [07] (by rfl) T.SU T.d_F.c.b .nil aT (aa (aQ (by rfl) T.Yj) (aa dJ (aa (pv 2) (aa (bW dN (bW cS (pv 4) (pv 3)) ak) ag))))) ag)))
   (ah (aJ (pv 1))))))))),?_]
 refine#[F6 _,λq hq=>#[λm σ H'=> ∃(i ln ls:FH) (as:Fh Fq) (v5 v6:FA V),m=bs.length-i/\σ=[FB (.ref l),FB (.ref q),FB (.int ln),FB (.int ls),FB (.int i),v5,v6]/\ahD a.Ju bs q H H' i ln ls as,#[_,0,1,0,[],FM,FM,Go,Go,#[bC hq,ae,F6 _,FN _,[],bs.length+1, .nil,by lia,Go,FN _]],?_]];rintro m σ H1 ⟨i,ln,ls,as,v5,v6,rfl,rfl,M⟩;have YH:=M.sm.seq hS;obtain⟨ts,k,pr,hk,tk,asl⟩:=M.rest;have ile:=M.ahE;have alX:=M.ahF;obtain⟨k,rfl⟩: ∃k',k=k'+1:=#[k-1,by lia];have ec:(i:Int)-(ls:Int)+1=((i-ls+1:FH):Int):=by lia
 refine#[_,_,Go, .inl YH,_,_,Go,Go,_,Go,?_];rw[fG];rw[05]
 ·have lt:i<bs.length:=by have:=Ga e;lia
  obtain⟨c,hc⟩: ∃c,bs[i]?=FB c:=#[_,HI lt];refine#[λσ' SE=> ∃(i' ln' ls':FH) (as':Fh Fq) (v5' v6':FA V),i<i'/\σ'=[FB (.ref l),FB (.ref q),FB (.int ln'),FB (.int ls'),FB (.int i'),v5',v6']/\ahD a.Ju bs q H SE i' ln' ls' as',?_,?_]
  ·rintro σ' SE ⟨i',ln',ls',as',v5',v6',lt',rfl,M'⟩
   have:=M'.ahE;exact#[_,by lia,i',ln',ls',as',v5',v6',Go,Go,M']
  refine#[_,_,_,_,Go,Go,YH,bB (fB hc),_,_,Go, .inr T.Wr.sq,Go,Go,_,Go,?_];show if uA (.int (nb c)) [.int 9, .int 10, .int 13, .int 32]=FS then _ else _
  rw[BL];refine aP (λhb=>?_) λhb=>?_
  ·refine#[_,Go,_,_,Go,Go,?_]
   refine#[_,_,Go,Go,_,_,_,V.int (nb c),Go,Go,YH,(by rw[Int.add_sub_cancel];exact bB (fB hc)),Go,_,Go,?_];rw[cj];have lx:=k8 (k:=k) (q:=(ln,i-ls+1)) hc hb;refine aP (λh10=>?_) λh10=>?_
   ·have c10:c=10:=YG (Ga h10)
    refine#[_,Go,_,_,Go,Go,i+1,ln+1,i+1,as,v5,v6,HQ i,Go,#[M.sm,M.lst,lt,FN _,ts,k,pr,by lia,?_,by lia]];rw[tk,lx,c10,QI]
    rfl
   ·have c10: ¬c=10:=λz=>FP (by rw[z];rfl) (Gf h10)
    refine#[i+1,ln,ls,as,v5,v6,HQ i,Go,#[M.sm,M.lst,lt,NL alX,ts,k,pr,by lia,?_,by lia]];rw[tk,lx,show i+1-ls+1=i-ls+1+1 by lia];unfold Vbemac.advance;rw[Fs c10]
  ·refine#[_,_,_,_,Go,Go,YH,bB (fB hc),Go,_,Go,?_]
   rw[cj];refine aP (λPY=>?_) λPY=>?_
   ·have c35:c=35:=YG (Ga PY)
    have g:i<a7 eO bs i:=oS hc (by rw[c35];rfl)
    have g2:a7 eO bs i<=bs.length:=ou ile;refine#[l,bs,i,Go,YH,ile,a7 eO bs i,ln,ls,as,v5,v6,g,Go,#[M.sm,M.lst,g2,by lia,ts,k,pr,by lia,?_,by lia]];rw[tk,iM hc hb c35]
    show ts++Pd k (ln,i-ls+1+(a7 eO bs i-i)) _=_
    rw[show i-ls+1+(a7 eO bs i-i)=a7 eO bs i-ls+1 by lia]
   ·have c35: ¬c=35:=λz=>FP (by rw[z];rfl) (Gf PY)
    obtain⟨g,g2,y,ky,vy,lx⟩:=Aw hc hb c35;have lx:=lx k (ln,i-ls+1);refine#[l,bs,i,c,Go,YH,hc,λH2 s2=>?_];refine#[l,bs,i,eR bs i c,c,Go,s2.seq YH,hc,K3 g,g2,λH3 s3=>?_];rw[ky];generalize eR bs i c=en at g g2 vy lx ky ⊢;have s13:aS H1 H3:=s2.trans s3;have hS3:=s13.seq YH;refine#[.inl #[Go,_,cw.of (s13 _ _ M.lst)],?_];refine#[_,Go,_,Go,_,_,Go,hS3,λp hp=>?_];rw[mD];refine Cv vy (cw.of ae) ?_ λH4 s4=>?_
    ·have:=lQ (bs:=bs) (i:=i) (j:=en)
     lia
    have s14:aS H1 H4:=s13.trans ((bC hp).trans s4);refine#[_,_,Go,Go,_,_,Go,Go,λx dx hx Vo ne=>#[x,dx,_,_,_,_,Go,ae,λH5 h5 k5=>#[Go,?_]]]
    have h5:H5 x=FB (.ins a.Ju dx (At (.int (ik y)) (iy y) (.int (ln:FH)) (.int ((i-ls+1:FH):Int)))):=by rw[<-ec];exact h5
    have s15:aS H1 H5:=λb o e=>k5 b o (by rw[ac (ai (s14 b o e) hx),ac (ai (s14 b o e) Vo)];exact s14 b o e) (ai (s14 b o e) hx)
    have nq:x≠q:=(ai (s14 _ _ M.lst) hx).symm
    have q5:=s15 _ _ M.lst
    have pn:=xA (y:=(y,ln,i-ls+1)) h5 s15 pr nq q5
    have sm5:aS H (aF H5 q (.lst ((as++[x]).map V.ref))):=λb o e=>by rw[ac (ai e hq)];exact s15 b o (M.sm b o e)
    refine#[q,_,_,Go,Go,q5,by rw[FE];exact Gr (FV asl (FV ile NJ)) [01],?_];rw[<-tY];refine [013];rw[cj];refine aP (λk4=>?_) λk4=>?_
    ·rw[Fv (Ga k4)] at lx
     refine(hQ _ q (as++[x]) sm5 hq ae ?_);rw[tk,lx];exact pn
    ·rw[Fs (Gf k4)] at lx
     refine#[en,ln,ls,as++[x],_,_,g,Go,#[sm5,ae,g2,by lia,ts++[(y,ln,i-ls+1)],k,pn,by lia,?_,by rw[FR,JF];lia]];rw[tk,lx,GN];show ts++(y,ln,i-ls+1)::Pd k (ln,i-ls+1+(en-i)) _=_;rw[show i-ls+1+(en-i)=en-ls+1 by lia]
     rfl
 ·have lx:=Ee (k:=k) (q:=(ln,i-ls+1)) (bs:=bs) (i:=i) (by have:=Gf e;lia)
  refine#[.inl #[Go,_,cw.of M.lst],?_];refine#[_,_,Go,Go,_,_,Go,Go,λx dx hx Vo ne=>#[x,dx,_,_,_,_,Go,ae,λH5 h5 k5=>#[Go,?_]]];have h5:H5 x=FB (.ins a.Ju dx (At (.int (ik .eof)) (iy .eof) (.int (ln:FH)) (.int ((i-ls+1:FH):Int)))):=by rw[<-ec];exact h5
  have s15:aS H1 H5:=λb o e=>k5 b o (by rw[ac (ai e hx),ac (ai e Vo)];exact e) (ai e hx)
  have nq:x≠q:=(ai M.lst hx).symm
  have q5:=s15 _ _ M.lst
  have pn:=xA (y:=(.eof,ln,i-ls+1)) h5 s15 pr nq q5
  have sm5:aS H (aF H5 q (.lst ((as++[x]).map V.ref))):=λb o e=>by rw[ac (ai e hq)];exact s15 b o (M.sm b o e)
  refine#[q,_,_,Go,Go,q5,by rw[FE];exact Gr (FV asl (FV ile NJ)) [01],?_];rw[<-tY];refine(hQ _ q (as++[x]) sm5 hq ae ?_);rw[tk,lx];exact pn
end
theorem Ez (K:Fm):VF K (.type "Exception") (.type "type") "__init__"=FB (.val (.builtin "Exception.__init__")):=by kernel_rfl
theorem abf:typeOf (.type "Exception")=pure (.type "type"):=by kernel_rfl
theorem Bh:Manifest.isStub "Exception"=Gc:=by decide+kernel
theorem AI:Lo "Exception"=FB (.type "Exception"):=by decide+kernel
theorem abg {H:Hp}{a:Fq}(h:H a=FB o):aF H a o=H:=by
 funext b
 by_cases e:b=a
 ·rw[e,ae,h]
 ·exact ac e
def Ay (C:Fq) (i:FH):TS:=λD σ H=> ∃p,σ[i]?=FB (FB (.ref p))/\H p=FB (rL C p)/\D.nx σ H
theorem vL (XC:dG X.K R C fI) (hg:Gl X "Exception") (hm:X.mg "Exception"=FM) (hx:PE X (.Name x p2) (ir i))
  (KH:FU [.Name x p2] X.env=[(Gc,eval (.Name x p2) X.env)]:=by rfl) (hs:Kp (.Call (.Attribute (.Name "Exception" p1) "__init__" Ly) [.Name x p2] [] L3) FM pos.line X.env=pure Gc:=by rfl)
  {pl:Sem GA}(ht:eval (.Call (.Attribute (.Name "Exception" p1) "__init__" Ly) [.Name x p2] [] L3) X.env=(do
   let ov<-eval (.Name "Exception" p1) X.env
   standAt Ly.atName
   let (f,first)<-holding [ov] (Lu ov "__init__" pl)
   NS L3 f first (Jf L3 (FU [.Name x p2] X.env)) (Lf L3 (Jy [] X.env))):=by rfl):
  PS X (.Expr (.Call (.Attribute (.Name "Exception" p1) "__init__" Ly) [.Name x p2] [] L3) pos) (Ay C i):=by
 rw[04];obtain⟨p,hp,hH,hD⟩:=h;refine wpAny_Expr_any ?_ I.quiet hs;refine LM (pl:=pl) (kT I hg hm AI ?_) ht;obtain⟨m,Fr⟩:=I.fr;refine PySem.W.method_type Fr I.mod.VI abf Bh (Ez X.K) rfl ?_;have I0:aE X pins σ H { s with toks:=s.toks+1 } :=I.tok _;refine OH (e:= .Name x p2) (rest:=[]) ?_ (by rw[KH];rfl) rfl;rw[KH];refine Lq (b9 (hx pins _ σ H (λv H'=>v= .ref p/\H'=H) I0 (oE #[Go,Go] hp)) λu s1 z=>?_);obtain⟨v,H',I1,rv,e1,e2⟩:=z;subst e1 e2;cases rv;refine LL ?_;obtain⟨h1,g1,d1,t1,Wz⟩:=s1;obtain⟨⟨T,hT⟩,_⟩:=I1.IF _ _ hH;obtain⟨Nn,mN,oI,NR,mR,⟨nm,q,bs,sn,sub,ab,col,dd,k0,k1,k2,k3,k5,hC⟩,_⟩:=XC.at_ h1 I1.NI;refine QW (zh Rg af8 hC hT ?_);have gx:((h1.push (eE [])).update p (IB (·.setIfInBounds 0 (.ref h1.objs.size)))).get? p=FB (dq C h1.objs.size):=
  JG _ (FJ _ hT) rfl
 have J:aE X pins σ (aF H' p (rL C p)) ⟨(h1.push (eE [])).update p (IB (·.setIfInBounds 0 (.ref h1.objs.size))),g1,d1,t1,Wz⟩:=
  I1.write (x:=p) (e:=p) (t':=t1) (by rw[hH];exact Hs) (.inl rfl) (λb u hb z=>by rw[Hm _ _ (IV hb)];exact FJ _ z) #[_,gx]
   #[#[_,gx],#[_,gx],λ_ _ ⟨T,z⟩ y=>#[T,y _ z]]
 rw[abg hH] at J;exact#[σ,H',J,hD]
section
variable {CX:pV}{sp:Sp}{E:XK}
theorem fj (hg:Gl X x) (hm:X.mg x=FB (.ref R)) (c:By X.K R m f) (F:bV X.prog X.w X.K X.mg X.base CX k f fd ps sp) (hr:bZ k X.A) (hb:gu X.K fd ps ds) (hd:a8 RE ds) (hx:dn CX X E) (ha:PA X (e::es) t)
  (Sj:(x == [003])=Gc:=by decide) (KH:FU (e::es) X.env=[001]::FU es X.env:=by rfl) (M3:(Jf pos (FU es X.env)).any (·.1)=Gc:=by rfl)
  (ht:eval (.Call (.Attribute (.Name x p1) m Ly) (e::es) [] pos) X.env=(do
   let ov<-eval (.Name x p1) X.env
   standAt Ly.atName
   let (f,first)<-holding [ov] (Lu ov m pl)
   NS pos f first (Jf pos (FU (e::es) X.env)) (Lf pos (Jy [] X.env))):=by rfl):
  PE X (.Call (.Attribute (.Name x p1) m Ly) (e::es) [] pos) (Aq sp RE E t):=by
 rw[01];refine LM (pl:=pl) (gc I hg hm ?_ Sj) ht;obtain⟨mm,Fr⟩:=I.fr;refine PySem.W.method_of_cls Fr I.mod.VI c.sp (PySem.W.cls_val Fr I.mod.VI c.ty c.rd c.fc rfl ?_);have I0:aE X pins σ H { s with toks:=s.toks+1 } :=I.tok _;refine Ld (first:=[]) (h₀:=X.base) I.ok.mod.VI c.kp (b9 (ha pos pins _ σ H _ I0 h) λus s1 ⟨vs,H1,I1,r,q⟩=>#[I1.NI,?_]) KH M3
 exact qN F hr hb hd hx I1 r q
end
theorem jl:("__setattr__":FY)∈c7:=by decide+kernel
theorem qa:("__getattribute__":FY)∈c7:=by decide+kernel
theorem n6:("__getattr__":FY)∈c7:=by decide+kernel
theorem XAt.la {R C fI:Fq}{B:String}{y:FA Fp}(X:XAt h R C fI) (m:mroOf (.type B)=pure cZ) (q:n∈c7) (l:HZ (.type B) n=pure y):LA h (.ref R::cZ) n y:=by
 obtain⟨_,_,_,_,_,_,_,_,_,_,_,⟨_,_,_,_,_,_,_,_,_,_,_,_,_,hR⟩,nR,qR⟩:=X;exact LA.own hR nR (qR n q) (LA.of m l)
section
variable {X:Cx}{pins:Fh (Fq×Jh)}{σ:St}{H:Hp}{s:Fw}{R C fI p d:Fq}{f:FY}{y:V}{u:Fp}{A:Hc}{E:Fp->Fw->Prop}{Q:Nj->Fw->Prop}{fs:Fh (FY×V)}{sa owner B:String}
theorem k9 {mA:FY->FA Fp}(n:h.Ns1 d mA) (r: ∀g,fQ (fs.lookup g) (mA g)) (wi:N6 mA (fs.map (·.1))):cy X.prog X.w H h d (cn d fs):=by
 obtain⟨o,es,ep,e,z⟩:=id n;exact#[#[mA,n,r,wi],#[o,e],λh1 h2 ⟨m,n1,q1⟩ k=>#[m,n1.at k,q1]]
theorem Dm (XC:dG X.K R C fI) (SF:MJ B cZ sa owner) (hf:f∈c7) (hB:HZ (.type B) f=pure FM) (I:aE X pins σ H s) (e:H p=FB (rL C p)) (ry:br y u)
  (h: ∀d s',H d=FM->aE X pins σ (aF (aF H d (cn d [(f,y)])) p (kM C d p)) s'->Q () s'):F4 (model X.prog X.w) A (Tr (.ref p) f u) Q E s:=by
 have XA:=XC.at_ _ I.NI;obtain⟨⟨T,hT⟩,_⟩:=I.IF _ _ e;obtain⟨h1,g1,d1,t1,Wz⟩:=s;obtain⟨Nn,mN,oI,NR,mR,⟨nm,q,bs,sn,sub,ab,col,dd,k0,k1,k2,k3,k5,hC⟩,VJ,XI,WZ,_⟩:=id XA;refine wC SF hC VJ (WZ _ jl) (XA.la SF.mro jl SF.slot.lookup) hT rfl λtk t=>CO SF hC VJ (WZ _ hf) (XA.la SF.mro hf hB) hT rfl rfl rfl λh' Uh k kx kn=>#[Go,?_]
 have fr:H h1.objs.size=FM:=I.IF.fresh (FN _)
 have np:h1.objs.size≠p:=λz=>by rw[z,e] at fr;cases fr
 refine h h1.objs.size _ fr ?_;have gd:(h1.push { cls:= .type "dict",data:= .dict [].toArray }).get? h1.objs.size=FB { cls:= .type "dict",data:= .dict [].toArray } :=Hk _ rfl;have n0:(h1.push { cls:= .type "dict",data:= .dict [].toArray }).Ns h1.objs.size (λ_=>FM):=#[_, [].toArray,_,gd,Go,(λe he=>FP he (by simp)),λ_=>rfl]
 have I1:aE X pins σ (aF H h1.objs.size (cn h1.objs.size [])) ⟨h1.push { cls:= .type "dict",data:= .dict [].toArray },g1,d1,Uh,Wz⟩:=
  I.laid (t':=Uh) (λb u z=>FJ _ z) (FN _) (k9 (Pb n0) (λ_=>Hs) λg hg=>FP rfl hg)
 have WA:(h1.push { cls:= .type "dict",data:= .dict [].toArray }).get? p=FB (dq C T):=FJ _ hT
 have gp:((h1.push { cls:= .type "dict",data:= .dict [].toArray }).update p λo=> { o with dict:=FB h1.objs.size }).get? p=FB { dq C T with dict:=FB h1.objs.size } :=JG _ WA rfl
 have I2:aE X pins σ (aF (aF H h1.objs.size (cn h1.objs.size [])) p (kM C h1.objs.size p)) ⟨(h1.push { cls:= .type "dict",data:= .dict [].toArray }).update p λo=> { o with dict:=FB h1.objs.size },g1,d1,Uh,Wz⟩:=
  I1.write (x:=p) (e:=p) (t':=Uh) (by rw[ac np.symm,e];exact Hs) (.inl rfl) (λb u hb z=>by rw[Hm _ _ (IV hb)];exact z) #[_,gp]
   #[#[_,_,gp,Go,Go,Go,Go],#[_,gp],λ_ _ ⟨o,vs,z,r⟩ k=>#[o,vs,k _ z,r]]
 obtain⟨od,_,_,hod,_⟩:=id kn;have I3:aE X pins σ (aF (aF (aF H h1.objs.size (cn h1.objs.size [])) p (kM C h1.objs.size p)) h1.objs.size (cn h1.objs.size [(f,y)])) ⟨h',g1,d1,Uh,Wz⟩:=by
  refine I2.write (x:=h1.objs.size) (e:=h1.objs.size) (t':=Uh) (by rw[ac np,ae];exact Hs) (.inl rfl) (λb v hb z=>?_) #[_,hod] (k9 kn (λg=>?_) λg hg=>?_)
  ·by_cases bp:b=p
   ·rw[bp] at z ⊢
    rw[gp] at z;rw[kx,<-z]
   ·rw[Hm _ _ (IV bp)] at z
    refine k b v bp ?_;rcases Ha.get?_push_cases z with⟨z1,_⟩|z1
    ·exact FP z1 hb
    ·exact z1
  ·show fQ (JC g [(f,y)]) (if g=f then FB u else FM)
   by_cases gf:g=f
   ·rw[gf,Fv rfl]
    simp only[JC,Hf];exact ry
   ·rw[Fs gf,JC,show(g == f)=Gc from beq_eq_false_iff_ne.mpr gf]
    exact Hs
  ·by_cases gf:g=f
   ·rw[gf];exact Fy
   ·exact FP (Fs gf) hg
 have eH:aF (aF (aF H h1.objs.size (cn h1.objs.size [])) p (kM C h1.objs.size p)) h1.objs.size (cn h1.objs.size [(f,y)])=aF (aF H h1.objs.size (cn h1.objs.size [(f,y)])) p (kM C h1.objs.size p):=by
  funext b
  by_cases b1:b=h1.objs.size
  ·rw[b1,ae,ac np,ae]
  ·by_cases b2:b=p
   ·rw[b2,ac np.symm,ae,ae]
   ·rw[ac b1,ac b2,ac b1,ac b2,ac b1]
 rw[eH] at I3;exact I3
theorem BB (XC:dG X.K R C fI) (SF:MJ B cZ sa owner) (hf:f∈c7) (hB:HZ (.type B) f=pure FM) (I:aE X pins σ H s) (e:H p=FB (kM C d p)) (ed:H d=FB (cn d fs)) (hl:fs.length<1000) (ry:br y u)
  (h: ∀s',aE X pins σ (aF H d (cn d (Il f y fs))) s'->Q () s'):F4 (model X.prog X.w) A (Tr (.ref p) f u) Q E s:=by
 have XA:=XC.at_ _ I.NI;obtain⟨⟨o,vs,x1,x2,x3,x4,x5⟩,_⟩:=I.IF _ _ e;obtain⟨⟨mA,n,r,wi⟩,_⟩:=I.IF _ _ ed;obtain⟨h1,g1,d1,t1,Wz⟩:=s;obtain⟨Nn,mN,oI,NR,mR,⟨nm,q,bs,sn,sub,ab,col,dd,k0,k1,k2,k3,k5,hC⟩,VJ,XI,WZ,_⟩:=id XA
 have dp:d≠p:=λz=>by
  obtain⟨o',es,ep,z1,z2,_⟩:=n;rw[z,x1] at z1;have y:=FL z1;rw[<-y,x4] at z2;cases z2
 have hz:(fs.map (·.1)).length<=1000:=by rw[FE];lia
 refine wC SF hC VJ (WZ _ jl) (XA.la SF.mro jl SF.slot.lookup) x1 x2 λtk t=>Dt SF hC VJ (WZ _ hf) (XA.la SF.mro hf hB) x1 x2 x3 n wi hz λh' Uh k kn=>#[Go,?_];obtain⟨od,_,_,hod,_⟩:=id kn;refine h _ (I.write (x:=d) (e:=d) (t':=Uh) (by rw[ed];exact Hs) (.inl rfl) k #[_,hod] (k9 kn (λg=>?_) λg hg=>?_))
 ·rw[iB]
  by_cases gf:g=f
  ·rw[Fv gf,Fv gf];exact ry
  ·rw[Fs gf,Fs gf];exact r g
 ·by_cases gf:g=f
  ·rw[gf];exact(gE f y fs).1
  ·refine(gE f y fs).2 g (wi g λz=>hg ?_)
   show(if g=f then FB u else mA g)=FM
   rw[Fs gf];exact z
theorem Fa {Q:Fp->Fw->Prop}{φ:Ha->Prop}(XC:dG X.K R C fI) (hf:f∈c7) (hB:HZ (.type "Exception") f=pure FM) (I:aE X pins σ H s)
  (e: ∃o vs,s.heap.get? p=FB o/\o.cls= .ref C/\o.dict=FB d/\o.data= .fields vs) (ed:H d=FB (cn d fs)) (l:fs.lookup f=FB v)
  (h: ∀u s',aE X pins σ H s'->br v u->Q u s'):F4 (model X.prog X.w) A (Tq (.ref p) f b) Q E s:=by
 have XA:=XC.at_ _ I.NI;obtain⟨o,vs,x1,x2,x3,x4⟩:=e;obtain⟨⟨mA,n,r,wi⟩,_⟩:=I.IF _ _ ed;obtain⟨h1,g1,d1,t1,Wz⟩:=s;obtain⟨Nn,mN,oI,NR,mR,⟨nm,q,bs,sn,sub,ab,col,dd,k0,k1,k2,k3,k5,hC⟩,VJ,XI,WZ,_⟩:=id XA
 have dp:d≠p:=λz=>by
  obtain⟨o',es,ep,z1,z2,_⟩:=n;rw[z,x1] at z1;have y:=FL z1;rw[<-y,x4] at z2;cases z2
 have nc: ∀c,o.data≠ .cls c:=λc z=>by rw[x4] at z;cases z
 have I0:h1.Inst p C mA:=#[o,x1,x2,nc, .inr #[d,x3,dp,n]];obtain⟨u,hu,ru⟩:=fQ.some_of (v:=v) (o:=mA f) (by rw[<-l];exact r f);exact DP CI (XA.la IE.mro qa af5) (XA.la IE.mro n6 af6) (hC) VJ (WZ _ qa) (WZ _ n6) (WZ _ hf) (XA.la IE.mro hf hB) I0 hu (PySem.W.handedOut_of (qp ru)) (h u _ (I.tok _) ru)
end
section
variable {ta tv:TE}
def sX0 (C:Fq) (ta tv:TE) (f:FY):TS:=λD σ H=>tv σ H λy H1=>ta σ H1 λx H2=> ∃p,x= .ref p/\H2 p=FB (rL C p)/\ ∀d,H2 d=FM->D.nx σ (aF (aF H2 d (cn d [(f,y)])) p (kM C d p))
def sX1 (C:Fq) (ta tv:TE) (f:FY):TS:=λD σ H=>tv σ H λy H1=>ta σ H1 λx H2=> ∃p d fs,x= .ref p/\H2 p=FB (kM C d p)/\H2 d=FB (cn d fs)/\fs.length<1000/\D.nx σ (aF H2 d (cn d (Il f y fs)))
theorem ahG (XC:dG X.K R C fI) (SF:MJ "Exception" cZ sa owner) (hf:f∈c7) (hB:HZ (.type "Exception") f=pure FM) (ha:PE X o ta) (hv:PE X Kx tv)
  (hs:Kp Kx (FB (.Attribute o f NK)) pos.line X.env=pure Gc):PS X (.Assign [.Attribute o f NK] Kx pos) (sX0 C ta tv f):=by
 rw[04];refine MA (b9 (hv pins s σ H _ I h) λu s1 ⟨y,H1,I1,ry,q⟩=>b9 (ha pins s1 σ H1 _ I1 q) λov s2 ⟨x,H2,I2,rx,p,ex,ea,q2⟩=>?_) hs;subst ex;obtain rfl:ov=F9 p:=rx;exact Dm XC SF hf hB I2 ea ry λd s3 hd I3=>#[σ,_,I3,q2 d hd]
theorem CP (XC:dG X.K R C fI) (SF:MJ "Exception" cZ sa owner) (hf:f∈c7) (hB:HZ (.type "Exception") f=pure FM) (ha:PE X o ta) (hv:PE X Kx tv)
  (hs:Kp Kx (FB (.Attribute o f NK)) pos.line X.env=pure Gc):PS X (.Assign [.Attribute o f NK] Kx pos) (sX1 C ta tv f):=by
 rw[04];refine MA (b9 (hv pins s σ H _ I h) λu s1 ⟨y,H1,I1,ry,q⟩=>b9 (ha pins s1 σ H1 _ I1 q) λov s2 ⟨x,H2,I2,rx,p,d,fs,ex,ea,ed,l,q2⟩=>?_) hs;subst ex;obtain rfl:ov=F9 p:=rx;exact BB XC SF hf hB I2 ea ed l ry λs3 I3=>#[σ,_,I3,q2]
end
abbrev yW (X:Cx) (pins:Fh (Fq×Jh)) (Ew:Fp->Fw->Prop):Cx:= { X with pn:=X.pn++pins,xe:=Ew }
abbrev DI (X:Cx) (a:Fq):Cx:= { X with A:=X.A.mark (FB (.ref a)),calm:=Gc,xe:=λ_ _=>False }
section
variable {H:Hp}{Ew:Fp->Fw->Prop}{a:Fq}
theorem A6 (I:aE X pins σ H s):aE (yW X pins Ew) [] σ H s:=
 #[#[I.ok.mod,I.ok.kind,I.ok.glob,I.ok.blt,I.ok.above,I.ok.inj,I.ok.has,I.ok.Ym,I.ok.hd,I.ok.frames,I.ok.Yn,I.ok.exf,I.ok.bs,I.ok.Ve,I.ok.Ta,I.ok.Tb,I.ok.funs,I.ok.WQ],I.os,I.bare,I.base,I.loc,I.cell,I.free,I.Mz,
  λp hp=>I.pin p (by rw[GV] at hp;exact hp),I.IF,I.len]
theorem eQ (I:aE (yW X pins Ew) UO σ H s):aE X pins σ H s:=
 #[#[I.ok.mod,I.ok.kind,I.ok.glob,I.ok.blt,I.ok.above,I.ok.inj,I.ok.has,I.ok.Ym,I.ok.hd,I.ok.frames,I.ok.Yn,I.ok.exf,I.ok.bs,I.ok.Ve,I.ok.Ta,I.ok.Tb,I.ok.funs,I.ok.WQ],I.os,I.bare,I.base,I.loc,I.cell,I.free,I.Mz,
  λp hp=>I.pin p (Mp _ hp),I.IF,I.len]
theorem xI (I:aE X pins σ H s):aE (DI X a) pins σ H s:=
 #[#[I.ok.mod,I.ok.kind,I.ok.glob,I.ok.blt,I.ok.above,I.ok.inj,I.ok.has,I.ok.Ym,λz=>HC z,I.ok.frames,I.ok.Yn,I.ok.exf,I.ok.bs,I.ok.Ve,I.ok.Ta,I.ok.Tb,I.ok.funs,I.ok.WQ],I.os,I.bare,I.base,I.loc,I.cell,I.free,I.Mz,
  I.pin,I.IF,I.len]
theorem yM (ok:X.Ok) (I:aE (DI X a) pins σ H s):aE X pins σ H s:=#[ok,I.os,I.bare,I.base,I.loc,I.cell,I.free,I.Mz,I.pin,I.IF,I.len]
theorem jS (h:SP (yW X pins Ew) UO D f s'):SP X pins D f s':=by
 cases f with
 |next=>obtain⟨σ',H',I,q⟩:=h;exact#[σ',H',eQ I,q]
 |brk=>obtain⟨σ',H',I,q⟩:=h;exact#[σ',H',eQ I,q]
 |cont=>obtain⟨σ',H',I,q⟩:=h;exact#[σ',H',eQ I,q]
 |ret u=>obtain⟨v,σ',H',I,r,q⟩:=h;exact#[v,σ',H',eQ I,r,q]
theorem zI (I:aE X pins σ H s) (hn:H a=FM) (z:X.P6.heap.objs.size<=a) (nl:a≠X.env.locals) (nc: ∀x c,X.env.cells.lookup x=FB c->c≠a) (np: ∀p∈X.pn++pins,p.1≠a)
  (new:cy X.prog X.w (aF H a o) s.heap a o):aE X pins σ (aF H a o) s:=by
 have ne: ∀b u,H b=FB u->b≠a:=λb u e y=>by rw[y,hn] at e;cases e
 refine I.step (h':=s.heap) (g':=s.gens) (t':=s.toks) (d':=s.drawn) (ch:=[a]) (λb hb=>?_) (λb o _ _ _ e _=>e) (λb o _ _ _ e _=>#[o.slots,e]) (λb o hb e y=>?_) (λb o _ e=>#[o,e]) (λb xs e=>?_) (λb o u e=>?_) (λb ps e=>#[[].toArray,?_]) (λm y=>y) (λb u e=>?_) I.bare
 ·rw[FW.mp hb];exact#[.inr z,nl,nc,np]
 ·rw[ac (λy=>hb (by rw[y];exact Fy))];exact y
 ·rw[ac (ne b _ e)];exact e
 ·rw[ac (ne b _ e)];exact e
 ·rw[ac (ne b _ e),e];simp
 ·by_cases hb:b=a
  ·rw[hb,ae] at e
   rw[hb,<-FL e];exact new
  ·rw[ac hb] at e
   exact(I.IF b u e).Sh (λc v _ q=>q) (λc q=>by rw[ac (ne c _ q)];exact q) λc xs q=>by rw[ac (ne c _ q)];exact q
theorem As {m:FY->FA Fp}(I:aE X pins σ H s) (hn:h'.Ns X.env.locals m) (hs:MT X.env.locals s.heap h'):aE X pins (Jt X.N.length FM) H { s with heap:=h',toks:=t } :=by
 have W:aE X pins (Jt X.N.length FM) H s:=I.weak (by rw[Ox];exact I.len.symm) λi v e=>by
  rw[LC] at e;split at e<;>cases e
 have nL: ∀b u,H b=FB u->b≠X.env.locals:=λb u e y=>by rw[y,I.free] at e;cases e
 obtain⟨ol,_,_,hol,_⟩:=id hn;refine#[W.ok,W.os,W.bare,#[λb o e n hb hx=>?_,λb o e n hb hx=>?_,W.base.free,λb o e hx=>?_,W.base.Rp,W.base.QZ,W.base.Rq],#[m,hn,λi x v _ e _=>?_],λx c e=>?_,W.free,W.Mz,λp hp=>?_,λb u e=>?_,W.len]
 ·exact(hs.2 b (Hi (Ge (F7 e) I.ok.above))).trans (W.base.keep b o e n hb hx)
 ·obtain⟨sl,y⟩:=W.base.slot b o e n hb hx
  exact#[sl,(hs.2 b (Hi (Ge (F7 e) I.ok.above))).trans y]
 ·obtain⟨o',y⟩:=W.base.there b o e hx
  exact#[o',(hs.2 b (Hi (Ge (F7 e) I.ok.above))).trans y]
 ·rw[LC] at e
  split at e<;>cases e
 ·obtain⟨v,o,y,yd⟩:=I.cell x c e
  exact#[v,o,(hs.2 c (I.Yo x c e)).trans y,yd]
 ·obtain⟨e1,e2,e3,e4⟩:=I.pin p hp
  exact#[(hs.2 p.1 e3).trans e1,e2,e3,e4]
 ·refine(I.IF b u e).Sh (λc v hc q=>(hs.2 c ?_).trans q) [05] λ_ _ q=>q
  rcases hc with y|y
  ·rw[y];exact nL b u e
  ·exact nL c _ y
end
structure Own (X:Cx) (pins:Fh (Fq×Jh)) (b:Fq):Prop where
 z:X.P6.heap.objs.size<=b
 nl:b≠X.env.locals
 nc: ∀x c,X.env.cells.lookup x=FB c->c≠b
 np: ∀p∈X.pn++pins,p.1≠b
theorem vp {X:Cx}{pins:Fh (Fq×Jh)}{σ:St}{H:Hp}{s:Fw}(I:aE X pins σ H s) (hb:s.heap.objs.size<=b):Own X pins b:=by
 refine#[FV I.sz hb,LU (Ge I.lt hb),λx c e z=>?_,λp hp z=>?_]
 ·obtain⟨v,q⟩:=I.cell x c e
  exact FP (Ge q.lt (by rw[z];exact hb)) (Ii _)
 ·exact FP (Ge (F7 (I.pin p hp).1) (by rw[z];exact hb)) (Ii _)
def kH (C d a:Fq):HO:= .ext λh=> ∃o vs,h.get? a=FB o/\o.cls= .ref C/\o.dict=FB d/\o.data= .fields vs
structure D4 (X:Cx) (pins:Fh (Fq×Jh)) (H:Hp) (h:Ha) (C d a:Fq):Prop where
 own:Own X pins a
 no:H a=FM
 ex: ∃oe vs T oT ts,h.get? a=FB oe/\oe.cls= .ref C/\oe.dict=FB d/\oe.data= .fields vs/\vs[1]?=FB (.ref T)/\T≠a/\H T=FM/\Own X pins T/\h.get? T=FB oT/\oT.data= .fields ts/\ts[3]?=FB .none
abbrev alY (X:Cx) (hs:Fh ExceptHandler) (Q:Flow->Fw->Prop):Fp->Fw->Prop:=λe s1=>F4 (model X.prog X.w) X.A (Qm e X.env) (λ_ s2=>F4 (model X.prog X.w) X.A (RP e FM) (λ_ s3=>F4 (model X.prog X.w) X.A (handleBy e X.env hs) Q X.xe s3) X.xe s2) X.xe s1
section
variable {Q:Flow->Fw->Prop}{Ek:XK}
theorem Fc (KH:X.stack=X.env::X.outer) (SD:X.env.frame=FB X.env.locals)
  (hh: ∀(C a d:Fq) (σ:St) (H:Hp) (s:Fw),aE X pins σ H s->D4 X pins H s.heap C d a->Ek (.ref C) (FB d) H->F4 (model X.prog X.w) X.A (handleBy (.ref a) X.env hs) Q X.xe s):
  dn (f9 X.prog X.w) (yW X pins (alY X hs Q)) Ek:=by
 intro UO σ H s e s' I h;obtain⟨C,a,d,H',rfl,os,bare,un,IF,za,ha,⟨oe,vs,T,oT,ts,x1,x2,x3,x4,x5,x6,x7,x8,x9,x10,x11⟩,hE⟩:=h;have J0:=I.Wu (ch:=[]) os un IF bare (λb z=>nomatch z)
 have J:aE X pins σ H' s':=eQ J0
 have oa:Own X pins a:=vp (eQ I) za
 have oT':Own X pins T:=vp (eQ I) x6
 have fr:X.A.frames=FB (X.env::X.outer):=by rw[J.ok.frames,KH]
 have st:s'.heap.FunFrames X.base (X.env::X.outer):=by rw[<-KH];exact J.stack
 show F4 (model X.prog X.w) X.A (Qm (.ref a) X.env) _ _ s'
 refine xX (base:=X.base) fr st SD x1 x4 x5 x7 x9 x10 x11 λh' L=>?_;have ck: ∀b∈[a,T],H' b=FM:=λb hb=>by
  rcases FF.mp hb with z|z
  ·rw[z];exact ha
  ·rw[FW.mp z];exact x8
 have fq:(X.env::X.outer).filterMap (·.frame)=rQ X.stack:=by rw[KH];rfl
 rw[fq] at L;have hk:ij X.prog X.w H' h':=λb u e=>by
  refine(J.IF b u e).Sh (λc v hc q=>L.keep c v (λz=>?_) (λz=>?_) q) [05] λ_ _ q=>q
  ·have y:=J.QS c z
   rcases hc with w1|w1
   ·rw[w1,e] at y;cases y
   ·rw[w1] at y;cases y
  ·have y:=ck c z
   rcases hc with w1|w1
   ·rw[w1,e] at y;cases y
   ·rw[w1] at y;cases y
 have K1:aE X pins σ H' { s' with heap:=h' } :=by
  refine J.call (g':=s'.gens) (t':=s'.toks) (d':=s'.drawn) (ch:=[a,T]) #[λb o e n hb hx=>L.keep b o hb hx e,λb o e n hb hx=>L.slot b o hb hx e,λb o e n hx=>n,λb o e hx=>L.there b o e,λ_ _ e=>e,λ_ _ _ e=>e,λb ps e=>#[[].toArray,by rw[e];simp]] hk J.bare λb hb=>?_;rcases FF.mp hb with z|z
  ·rw[z];exact#[.inr oa.z,oa.nl,oa.nc,oa.np]
  ·rw[FW.mp z];exact#[.inr oT'.z,oT'.nl,oT'.nc,oT'.np]
 obtain⟨ws,T2,oT2,ts2,y1,y2,y3,y4,y5,y6,y7⟩:=L.fly;exact hh C a d σ H' _ K1 #[oa,ha,_,ws,T2,oT2,ts2,y1,x2,x3,Go,y2,y4,J.IF.fresh y3,vp J y3,y5,y6,y7] hE
end
section
variable {a:Fq}{H:Hp}{th:TS}
def Cj (R G C:Fq):Prop:=G=C\/G=R
theorem Do (XC:dG X.K R C fI) (hG:Cj R G C) {E:Fp->Fw->Prop}{Q:GA->Fw->Prop}(I:aE X pins σ H s) (cm:D4 X pins H s.heap C d a) (q:Q FS s):F4 M A (excMatches (.ref a) (.ref G)) Q E s:=by
 obtain⟨Nn,mN,oI,NR,mR,⟨nm,qq,bs,sn,sub,ab,col,dd,k0,k1,k2,k3,k5,hC⟩,_,_,_,_,_,⟨nm',qq',bs',sn',amP,ab',amQ,WY,k0',k1',k2',k3',k5',hR⟩,_⟩:=XC.at_ _ I.NI;obtain⟨oe,vs,T,oT,ts,y1,y2,_⟩:=cm.ex;obtain⟨h1,g1,d1,t1,Wz⟩:=s;rcases hG with rfl|rfl
 ·exact wpAny_excMatches_sub_self hC y1 y2 (by rw[GJ];rfl) q
 ·have u1:(F9 G::cZ).contains (.type "BaseException")=FS:=by rw[GJ];rfl
  have u2:(F9 C:: .ref G::cZ).contains (.ref G)=FS:=by simp
  have f:=tc_notTuple;unfold excMatches
  repeat (first|(with_reducible refine GH y1 ?_;rw[y2])|with_reducible refine GH hR ?_|(with_reducible refine wpAny_isSubtype_exc hR ?_;rw[u1])|(with_reducible refine wpAny_isSubtype_exc hC ?_;rw[u2])|wp_step)
  exact q
theorem uJ {E:Fp->Fw->Prop}{Q:Nj->Fw->Prop}(I:aE X pins σ H s) (cm:D4 X pins H s.heap C d a)
  (h: ∀s',aE X pins σ H s'->(∃o vs,s'.heap.get? a=FB o/\o.cls= .ref C/\o.dict=FB d/\o.data= .fields vs)->Q () s'):F4 M A (RP (.ref a) FM) Q E s:=by
 obtain⟨oe,vs,T,oT,ts,y1,y2,y3,y4,y5,y6,y7,y8,y9,y10,y11⟩:=cm.ex;refine wpAny_setFlight_none y1 y4 y5 y9 y10 (KI.mp y11).1 (h _ (I.turned (it:=T) (t':=s.toks) (λb o hb e=>by rw[Hm _ _ (IV hb)];exact e) y7 y8.nl (.inr y8.z) y8.nc y8.np) ?_);exact#[oe,vs,by show(s.heap.update T _).get? a=_;rw[Hm _ _ y6];exact y1,y2,y3,y4]
theorem abh (XC:dG X.K R C fI) (hG:Cj R G C) (hg:Gl X x) (hm:X.mg x=FB (.ref G)) (hN:X.N.Nodup) (hi:X.N[i]?=FB n) (hl:X.env.scope.names.lookup n=FB .local) (hs:uz (DI X a) (b0::UY) th)
  (I:aE X pins σ H s) (cm:D4 X pins H s.heap C d a) (hr:th #[λ_ _=>False,D.rt,λ_ _=>False,λ_ _=>False] ((Jt X.N.length FM).set i (FB (.ref a))) (aF H a (kH C d a)))
  (Sj:(x == [003])=Gc:=by decide):
  F4 (model X.prog X.w) X.A (handleBy (.ref a) X.env [.ExceptHandler (FB (.Name x np)) (FB n) (b0::UY) ahH]) (SP X pins D) X.xe s:=by
 refine wpAny_handleBy_cons (codeAny_handlers_test ?_) (by intro q;cases q);refine gc (X:=DI X a) (xI I) hg hm ?_ Sj;refine Do XC hG I cm ?_;show LO _ _ _ _ _;refine codeAny_handlers_suite_as (uJ I cm λs1 I1 e1=>?_);have I2:aE X pins (Jt X.N.length FM) H s1:=I1.weak (by rw[Ox];exact I1.len.symm) λi v e=>by
  rw[LC] at e;split at e<;>cases e
 have I3:aE X pins (Jt X.N.length FM) (aF H a (kH C d a)) s1:=
  zI I2 cm.no cm.own.z cm.own.nl cm.own.nc cm.own.np #[e1,#[_,e1.choose_spec.choose_spec.1],λ_ _ ⟨o,vs,z,r⟩ k=>#[o,vs,k _ z,r]]
 refine kK (X:=DI X a) (v:= .ref a) (xI I3) hN hi (.inl hl) rfl (λs4 I4=>?_) (.inr hl);refine IS (hs pins s4 _ _ _ I4 hr) (λf s5 z=>?_) λ_ _ z=>z.elim;cases f with
 |next=>obtain⟨_,_,_,z⟩:=z;exact z.elim
 |brk=>obtain⟨_,_,_,z⟩:=z;exact z.elim
 |cont=>obtain⟨_,_,_,z⟩:=z;exact z.elim
 |ret u=>
  obtain⟨v,σ5,H5,I5,r5,q5⟩:=z;obtain⟨m,hn,_⟩:=id I5.loc;refine wpAny_nameGoes hl hn (by rw[I.ok.kind];rfl) λh' m' n' sb=>#[v,_,H5,As (yM I.ok I5) n' sb,r5,q5]
end
section
variable {tb th:TS}{Ek:XK}
def abi (Ek:XK) (m i:FH) (tb th:TS):TS:=λD σ H=>tb D σ H/\ ∀C d H' a,Ek (.ref C) (FB d) H'->H' a=FM->
 th #[λ_ _=>False,D.rt,λ_ _=>False,λ_ _=>False] ((Jt m FM).set i (FB (.ref a))) (aF H' a (kH C d a))
theorem BD (Ek:XK) (KH:X.stack=X.env::X.outer) (SD:X.env.frame=FB X.env.locals) (hE: ∀C d H,Ek (.ref C) (FB d) H-> ∃fI,dG X.K R C fI/\Cj R G C) (hg:Gl X x) (hm:X.mg x=FB (.ref G)) (hN:X.N.Nodup) (hi:X.N[i]?=FB n) (hl:X.env.scope.names.lookup n=FB .local)
  (hb: ∀pins Ew,dn (f9 X.prog X.w) (yW X pins Ew) Ek->uz (yW X pins Ew) body tb) (hs: ∀a,uz (DI X a) (b0::UY) th) (Sj:(x == [003])=Gc:=by decide):
  PS X (.Try body [.ExceptHandler (FB (.Name x np)) (FB n) (b0::UY) ahH] [] [] pos) (abi Ek X.N.length i tb th):=by
 rw[04];refine wpAny_Try_except ?_;have P:=Fc (hs:=[.ExceptHandler (FB (.Name x np)) (FB n) (b0::UY) ahH]) (Q:=SP X pins D) (Ek:=Ek) KH SD λC a d σ1 H1 s1 I1 cm hE1=>(hE C d H1 hE1).elim λfI ⟨XC,hG⟩=>abh (D:=D) XC hG hg hm hN hi hl (hs a) I1 cm (h.2 C d H1 a hE1 cm.no) Sj
 refine IS (hb pins _ P [] s σ H D (A6 I) h.1) (λf s1 z=>?_) λe s1 z=>z;cases f with
 |next=>exact Nf (jS z)
 |brk=>exact jS z
 |cont=>exact jS z
 |ret u=>exact jS z
def ahI (K:Fm) (te:TE) (f:FY):TE:=λσ H Q=>te σ H λx H1=> ∃R C fI a d fs v,dG K R C fI/\x= .ref a/\H1 a=FB (kH C d a)/\H1 d=FB (cn d fs)/\fs.lookup f=FB v/\Q v H1
theorem EQ {te:TE}{K:Fm}(hK:X.K=K) (hf:f∈c7) (hB:HZ (.type "Exception") f=pure FM) (he:PE X e te) (hb:IM e f X.env (eval e X.env)=eval e X.env):PE X (.Attribute e f pos) (ahI K te f):=by
 rw[01];subst hK;refine yc hb (b9 (he pins s σ H _ I h) λu s1 ⟨x,H1,I1,rx,R,C,fI,a,d,fs,v,XC,ex,ea,ed,l,q⟩=>?_);subst ex;obtain rfl:u=F9 a:=rx;obtain⟨z,_⟩:=I1.IF _ _ ea;exact Fa (φ:=λ_=>True) XC hf hB I1 z ed l λu' s2 I2 ru=>#[v,H1,I2,ru,q]
end
theorem mO:HZ (.type "Exception") "number"=pure FM:=by rw[KL,Jr];kernel_rfl
theorem CN:HZ (.type "Exception") "kind"=pure FM:=by rw[KL,Jr];kernel_rfl
theorem BF:HZ (.type "Exception") "line"=pure FM:=by rw[KL,Jr];kernel_rfl
theorem uK:HZ (.type "Exception") "column"=pure FM:=by rw[KL,Jr];kernel_rfl
abbrev AU (n l c:Int):Fh (FY×V):=[("number", .int (-3)),("kind", .int n),("line", .int l),("column", .int c)]
abbrev EC (n:Int):Fh (FY×V):=[("number", .int n)]
def ahJ:Fh V->Fh (FY×V)->Prop:=λus fs=> ∃n:Int,us=[.int n]/\fs=EC n
def abj:Fh V->Fh (FY×V)->Prop:=λus fs=> ∃n l c:Int,us=[.int n, .int l, .int c]/\fs=AU n l c
theorem bP (T:aU K mg a) (XC:dG K a.Hn C fI):T.WU.U P w mg base 1 (dU C ahJ):=by
 refine T.WU.F.ok alh (λvs H Q E h=>?_) [02]
 ·obtain⟨p,us,fs,rfl,⟨n,rfl,rfl⟩,_⟩:=h
  rfl
 ·obtain⟨p,us,fs,rfl,⟨n,rfl,rfl⟩,hp,q⟩:=h
  refine#[_,(ao (vL (C:=C) (fI:=fI) XC (by rfl) T.S8 (pv 0))
   (ah (ahG XC IE [00] mO (pv 0) (pv 1) rfl))),?_]
  exact#[p,Go,hp,p,Go,hp,λd hd=>q d hd]
theorem js (T:aU K mg a) (XC:XT K a):T.d_4.U P w mg base 2 (dU a.HW abj):=by
 have G:=bP (P:=P) (w:=w) (base:=base) T XC.fc;refine T.d_4.F.ok ali (λvs H Q E h=>?_) [02]
 ·obtain⟨p,us,fs,rfl,⟨n,l,c,rfl,rfl⟩,_⟩:=h
  rfl
 ·obtain⟨p,us,fs,rfl,⟨n,l,c,rfl,rfl⟩,hp,q⟩:=h
  refine#[_,(ao (bj (fj (by rfl) T.Ib XC.rm G [07] T.WU.c.b .nil aT (aa (pv 0) (aa (dO cK ak) ag))))
   (ao (CP XC.fc IE [00] CN (pv 0) (pv 1) rfl)
   (ao (CP XC.fc IE [00] BF (pv 0) (pv 2) rfl)
   (ah (CP XC.fc IE [00] uK (pv 0) (pv 3) rfl))))),?_]
  refine#[_,Go,p,_,EC (-3),Go,#[-3,Go,Go],hp,λd hd=>?_];have np:d≠p:=(ai hp hd).symm;have z:=q d hd;refine#[p,d,_,Go,ae,by rw[ac np,ae],by show 1<1000;decide,?_];refine#[p,d,_,Go,by rw[ac np.symm,ae],ae,by show 2<1000;decide,?_];refine#[p,d,_,Go,by rw[ac np.symm,ac np.symm,ae],ae,by show 3<1000;decide,?_];have eH: ∀f1 f2 f3 f4:Fh (FY×V),aF (aF (aF (aF (aF H d (cn d f1)) p (kM a.HW d p)) d (cn d f2)) d (cn d f3)) d (cn d f4)=aF (aF H d (cn d f4)) p (kM a.HW d p):=λf1 f2 f3 f4=>by
   funext b
   by_cases hb:b=d
   ·rw[hb,ae,ac np,ae]
   ·rw[ac hb,ac hb,ac hb]
    by_cases hb2:b=p
    ·rw[hb2,ae,ae]
    ·rw[ac hb2,ac hb,ac hb2,ac hb]
  show Q .IX _
  rw[eH];exact z
inductive tq:Fh FY->Fh Stmt->Prop
 |nil:tq [] []
 |cons {f:FY}{fs:Fh FY}{ss:Fh Stmt}{p1 p2 p3 p4:Pos}(_:tq fs ss):tq (f::fs) (.Assign [.Attribute (.Name "self" p1) f p2] (.Name f p3) p4::ss)
inductive lG (C:Fq) (fs:Fh FY) (vs:Fh V) (H:Hp) (Q:VK) (_E:XK):Prop
 |mk (p dx:Fq) (ws:Fh V) (_:vs= .ref p::ws) (_:ws.length=fs.length) (_:H p=FB (.ins C dx [])) (_: ∀H':Hp,H' p=FB (.ins C dx (fs.zip ws))->(∀b o,H b=FB o->b≠p->H' b=FB o)->Q .IX H'):lG C fs vs H Q _E
theorem rX {f:FY}{v:V} : ∀ {l:Fh (FY×V)},(∀x∈l,x.1≠f)->Il f v l=l++[(f,v)]
 |[],_=>rfl
 | (g,x)::r,h=>by
  unfold Il;rw[Fs (h _ Fy),rX λy hy=>h y (Fx _ hy)]
  rfl
theorem Ep {X:Cx}{D:d9}{p dx C:Fq}{σ:L2.St}(c:gG X.K C) (h0:X.N[0]?=FB ("self":FY)) (v0:oZ X.env.scope "self") (s0:σ[0]?=FB (FB (.ref p))):
  ∀ {fs:Fh FY}{ss:Fh Stmt},tq fs ss-> ∀ {k:FH}{ws:Fh V}{done:Fh (FY×V)}{H:Hp},(∀g∈fs,au X.K C g/\oZ X.env.scope g/\(g == [003])=Gc/\(g == ("__classdict__":FY))=Gc)->
   (∀i g,fs[i]?=FB g->X.N[k+i]?=FB g)->(∀i v,ws[i]?=FB v->σ[k+i]?=FB (FB v))->ws.length=fs.length->(done.map (·.1)++fs).Nodup->done.length+fs.length<1000->H p=FB (.ins C dx done)->
   (∀H':Hp,H' p=FB (.ins C dx (done++fs.zip ws))->(∀b o,H b=FB o->b≠p->H' b=FB o)->D.nx σ H')->Bd X ss D σ H:=by
 intro fs ss hi
 induction hi with
 |nil=>
  intro k ws done H _ _ _ hl _ _ hp q;refine cf (q H ?_ λb o e _=>e);rw[NY.mp hl,Fh.zip_nil_left,GV];exact hp
 | @cons f fs ss p1 p2 p3 p4 _ ih=>
  intro k ws done H hg hN hw hl nd len hp q;cases ws with
  |nil=>cases hl
  |cons v ws=>
   obtain⟨no,vf,d1,d2⟩:=hg f Fy;refine aR (b4 (dX h0 v0) (dX (hN 0 f rfl) vf d1 d2) rfl) (oE (oE #[p,C,dx,done,Go,hp,c,no,by lia,?_] s0) (hw 0 v rfl));have nf: ∀x∈done,x.1≠f:=λx hx e=>by
    have:=(LN.mp nd).2.2 x.1 (La hx) f Fy;exact this e
   rw[rX nf];refine ih (k:=k+1) (ws:=ws) (done:=done++[(f,v)]) (λg h=>hg g (Fx _ h)) (λi g e=>?_) (λi u e=>?_) (RD hl) ?_ ?_ ae λH' h1 h2=>?_
   ·rw[SJ,K4 1];exact hN (i+1) g e
   ·rw[SJ,K4 1];exact hw (i+1) u e
   ·rw[He,GN];exact nd
   ·rw[FR]
    have:done.length+(fs.length+1)<1000:=len
    show done.length+1+fs.length<1000
    lia
   ·refine q H' ?_ λb o e ne=>h2 b o (by rw[ac ne];exact e) ne
    rw[h1,GN]
    rfl
theorem c9 {x Hl:FY}{st:Stmt}{f:Fq}{fd:Gz}{C:Fq}{fs:Fh FY}(F:oY K x Hl st f fd) (S:ay ("self"::fs) ("self"::fs) (af st)) (c:gG K C) (no: ∀g∈fs,au K C g) (i:tq fs (bf st))
  (hd:(fs.length<1000/\ ∀g∈fs,(g == [003])=Gc/\(g == ("__classdict__":FY))=Gc):=by decide):bV P w K mg base ye 1 f fd ("self"::fs) (lG C fs):=by
 refine F.ok S (λvs H Q E h=>?_) [02]
 ·obtain⟨p,dx,ws,rfl,h,_⟩:=h
  exact Gx RU h
 ·obtain⟨p,dx,ws,rfl,hl,hp,q⟩:=h
  have vis: ∀g∈("self":FY)::fs,oZ (af st) g:=λg hg=>(S.par g hg).elim .inl λz=> .inr (.inl z)
  have e:L2.start ("self"::fs) (.ref p::ws)=FB (.ref p)::ws.map FB:=by
   unfold L2.start;rw[show(("self":FY)::fs).length-(V.ref p::ws).length=0 by rw[FG,FG,hl,QI]];exact GV _
  rw[e];refine Ep (C:=C) (p:=p) (dx:=dx) c rfl (vis _ Fy) rfl i (k:=1) (ws:=ws) (done:=[]) (λg hg=>#[no g hg,vis g (Fx _ hg),hd.2 g hg]) (λi g e=>by rw[K4];exact e) (λi v e=>?_) hl (Gu.mp S.nd).2 (by rw[Ku,K5];exact hd.1) hp λH' h1 h2=>q H' h1 h2;rw[K4,Fh.getElem?_cons_succ,GB,e]
  rfl
def qY (q kd fn ds bl:Fq) (n:FH):Fh (FY×V):=[("tokens", .ref q),("at", .int n),("known", .ref kd),("functions", .ref fn),("desks", .ref ds),("blocks", .ref bl)]
inductive YI (a:bi) (H:Hp) (q:Fq) (n:FH) (t:Fn):Prop
 |mk (as:Fh Fq) (all:Fn) (_:H q=FB (.lst (as.map V.ref))) (_:Paired (fX a.Ju H) as all) (_:all.drop n=t):YI a H q n t
structure mQ (a:bi) (H:Hp) (r q kd fn ds bl:Fq) (n:FH) (t:Fn):Prop where
 ins: ∃dr,H r=FB (.ins a.GI dr (qY q kd fn ds bl n))
 toks:YI a H q n t
def mI (C:Fq) (E:XK) (H:Hp) (n:FH) (x:GD):Prop:= ∀d,H d=FM->E (.ref C) (FB d) (aF H d (cn d (AU n x.1 x.2)))
theorem jk {α β:Type}{F:α->β->Prop} : ∀ {l:Fh α}{m:Fh β}{i:FH}{y:β},Paired F l m->m[i]?=FB y-> ∃x,l[i]?=FB x/\F x y
 |_,_,_,_, .nil,h=>by cases h
 |_,_,0,_, .cons r t,h=>#[_,Go,by obtain rfl:=FL h;exact r]
 |_,_,i+1,_, .cons r t,h=>jk (i:=i) t h
theorem yA {α:Type}{l t:Fh α}{x:α}(h:l.drop n=x::t):l[n]?=FB x:=by
 have:=Gx (λz:Fh α=>z[0]?) h
 simpa using this
theorem mQ.cur {a:bi}{H:Hp}{r q kd fn ds bl:Fq}{n:FH}{x:GO×GD}{t:Fn}(R:mQ a H r q kd fn ds bl n (x::t)):
  ∃(as:Fh Fq) (p:Fq),H q=FB (.lst (as.map V.ref))/\(as.map V.ref)[n]?=FB (.ref p)/\fX a.Ju H p x:=by
 obtain⟨as,all,h1,h2,h3⟩:=R.toks;obtain⟨p,e,k⟩:=jk h2 (yA h3);exact#[as,p,h1,by rw[GB,e];rfl,k]
inductive YJ (a:bi) (vs:Fh V) (H:Hp) (Q:VK) (E:XK):Prop
 |mk (r q kd fn ds bl:Fq) (n:FH) (x:GO×GD) (t:Fn) (_:vs=[.ref r]) (_:mQ a H r q kd fn ds bl n (x::t)) (_:(x.1= .bad->mI a.HW E H 1 x.2)) (_:(x.1≠ .bad-> ∀p,fX a.Ju H p x->Q (.ref p) H)):YJ a vs H Q E
inductive AY (a:bi) (vs:Fh V) (H:Hp) (_Q:VK) (E:XK):Prop
 |mk (r q kd fn ds bl:Fq) (n:FH) (x:GO×GD) (t:Fn) (m:FH) (_:vs=[.ref r, .int m]) (_:mQ a H r q kd fn ds bl n (x::t)) (_:mI a.HW E H (if x.1= .bad then 1 else m) x.2):AY a vs H _Q E
theorem pI:ik x=4 ↔ x= .bad:=by cases x<;>simp [ik]
theorem c8 (T:aU K mg a) (XC:XT K a):T.Wf.O P w mg base 4 (YJ a):=by
 have G:=js (P:=P) (w:=w) (base:=base) T XC;refine fS T.Wf.F ag5 [03] [02];obtain⟨r,q,kd,fn,ds,bl,n,x,t,rfl,R,hb,hg⟩:=h;obtain⟨dr,er⟩:=R.ins;obtain⟨as,p,eq,ep,tp⟩:=R.cur
 have tp':=tp;obtain⟨dx,et⟩:=tp';refine#[_,(ao (cr (i:=1) ag5.nd rfl (G9 rfl) (cN bG [000] [000] [002]))
   (ao (cv (aZ bX [010] (aQ (by rfl) T.PK) (aK _)) (ah (r6 d8 XC.fc G [07] (by rfl) T.Q0 T.d_4.c.b (aa (aQ (by rfl) T.Rw) (aa [010] (aa [010] ag))))) bw)
   (ah (aJ (pv 1))))),?_]
 refine#[r,_,dr,_,_,Go,er,T.Gj,T.L0,Go,r,_,dr,_,_,Go,er,T.Gj,T.KP,Go,q,_,n, .ref p,Go,Go,cw.of eq,bB ep,?_];refine#[p,_,dx,_,_,Go,et,T.IW,T.Ko,Go,Go,_,Go,?_];rw[cj];rw[05]
 ·have xb:=pI.mp (Ga e)
  exact#[p,_,dx,_,_,Go,et,T.IW,T.Np,Go,p,_,dx,_,_,Go,et,T.IW,T.Mm,Go,(by show 3<=9;decide),_,#[_,_,_,Go,Go],hb xb]
 ·have xb:x.1≠ .bad:=λz=>Gf e (pI.mpr z)
  exact(hg xb p tp)
inductive rT (a:bi) (b:GO->GA) (vs:Fh V) (H:Hp) (Q:VK) (E:XK):Prop
 |mk (r q kd fn ds bl:Fq) (n:FH) (x:GO×GD) (t:Fn) (_:vs=[.ref r]) (_:mQ a H r q kd fn ds bl n (x::t)) (_:(x.1= .bad->mI a.HW E H 1 x.2)) (_:(x.1≠ .bad->Q (.bl (b x.1)) H)):rT a b vs H Q E
def me (v:FY) (k:GO):GA:=decide (iy k= .str v)
inductive Al (a:bi) (vs:Fh V) (H:Hp) (Q:VK) (E:XK):Prop
 |mk (r q kd fn ds bl:Fq) (n:FH) (x:GO×GD) (t:Fn) (v:FY) (_:vs=[.ref r, .str v]) (_:mQ a H r q kd fn ds bl n (x::t)) (_:(x.1= .bad->mI a.HW E H 1 x.2)) (_:(x.1≠ .bad->Q (.bl (me v x.1)) H)):Al a vs H Q E
def past (a:bi) (H:Hp) (r q kd fn ds bl:Fq) (n:FH) (H':Hp):Prop:= ∃dr,H r=FB (.ins a.GI dr (qY q kd fn ds bl n))/\H'=aF H r (.ins a.GI dr (qY q kd fn ds bl (n+1)))
inductive CT (a:bi) (vs:Fh V) (H:Hp) (Q:VK) (E:XK):Prop
 |mk (r q kd fn ds bl:Fq) (n:FH) (x:GO×GD) (t:Fn) (_:vs=[.ref r]) (_:mQ a H r q kd fn ds bl n (x::t)) (_:(x.1= .bad->mI a.HW E H 1 x.2)) (_:(x.1≠ .bad-> ∀H',past a H r q kd fn ds bl n H'->Q (iy x.1) H')):CT a vs H Q E
inductive uk (a:bi) (vs:Fh V) (H:Hp) (Q:VK) (E:XK):Prop
 |mk (r q kd fn ds bl:Fq) (n:FH) (x:GO×GD) (t:Fn) (v:FY) (_:vs=[.ref r, .str v]) (_:mQ a H r q kd fn ds bl n (x::t)) (_:(x.1= .bad->mI a.HW E H 1 x.2)) (_:(x.1≠ .bad->me v x.1=Gc->mI a.HW E H 2 x.2)) (_:(x.1≠ .bad->me v x.1=FS-> ∀H',past a H r q kd fn ds bl n H'->Q .IX H')):uk a vs H Q E
inductive xr (a:bi) (vs:Fh V) (H:Hp) (Q:VK) (E:XK):Prop
 |mk (r q kd fn ds bl:Fq) (n:FH) (x:GO×GD) (t:Fn) (v:FY) (_:vs=[.ref r, .str v]) (_:mQ a H r q kd fn ds bl n (x::t)) (_:(x.1= .bad->mI a.HW E H 1 x.2)) (_:(x.1≠ .bad->me v x.1=Gc->Q (.bl Gc) H)) (_:(x.1≠ .bad->me v x.1=FS-> ∀H',past a H r q kd fn ds bl n H'->Q (.bl FS) H')):xr a vs H Q E
theorem mQ.step {a:bi}{H H':Hp}(R:mQ a H r q kd fn ds bl n (x::t)) (h:past a H r q kd fn ds bl n H'):mQ a H' r q kd fn ds bl (n+1) t:=by
 obtain⟨dr,e,rfl⟩:=h;obtain⟨as,all,h1,h2,h3⟩:=R.toks;refine#[#[dr,ae],as,all,?_,Paired.Nq h2 λb z k=>?_,?_]
 ·have ne:q≠r:=λz=>by rw[z,e] at h1;cases h1
  rw[ac ne];exact h1
 ·obtain⟨dx,ez⟩:=k
  have ne:b≠r:=λz=>by
   rw[z,e] at ez;have:=Gx OL (HO.ins.inj (FL ez)).2.2;cases this
  exact#[dx,by rw[ac ne];exact ez]
 ·have:=Gx (Fh.drop 1) h3
  rw[OJ] at this;exact this
theorem BN:aaH (iy x) (.str v)=FS:=by cases x<;>rfl
def l0:GO->GA
 | .num _=>FS
 |_=>Gc
def Ci:GO->GA
 | .eof=>FS
 |_=>Gc
theorem fH (T:aU K mg a) (XC:XT K a):T.Wg.O P w mg base 5 (AY a):=by
 have G:=js (P:=P) (w:=w) (base:=base) T XC
 have Uj:=c8 (P:=P) (w:=w) (base:=base) T XC;refine fS T.Wg.F ag6 [03] [02];obtain⟨r,q,kd,fn,ds,bl,n,x,t,m,rfl,R,hf⟩:=h;obtain⟨dr,er⟩:=R.ins;refine#[_,(ao (cr (i:=2) ag6.nd rfl (G9 rfl) (bS (pv 0) T.Gj T.Wf.c Uj [07] aA))
   (ah (r6 d8 XC.fc G [07] (by rfl) T.Q0 T.d_4.c.b (aa (pv 1) (aa (aj (pv 2) rfl) (aa (aj (pv 2) rfl) ag)))))),?_]
 refine#[r,dr,_,Go,er,Go,r,q,kd,fn,ds,bl,n,x,t,Go,R,λb=>by rw[Fv b] at hf;exact hf,λnb p tp=>?_];rw[Fs nb] at hf;obtain⟨dx,et⟩:=tp;exact#[p,_,dx,_,_,Go,et,T.IW,T.Np,Go,p,_,dx,_,_,Go,et,T.IW,T.Mm,Go,(by show 3<=9;decide),_,#[_,_,_,Go,Go],hf]
theorem mr (T:aU K mg a) (XC:XT K a):T.d_q.O P w mg base 5 (Al a):=by
 have Uj:=c8 (P:=P) (w:=w) (base:=base) T XC;refine fS T.d_q.F alD [03] [02];obtain⟨r,q,kd,fn,ds,bl,n,x,t,v,rfl,R,hb,hg⟩:=h;obtain⟨dr,er⟩:=R.ins;refine#[_,(ah (aJ (cc bX (aj (bS (pv 0) T.Gj T.Wf.c Uj [07] aA) rfl) (pv 1) (aK _)))),?_];refine#[r,dr,_,Go,er,Go,r,q,kd,fn,ds,bl,n,x,t,Go,R,hb,λnb p tp=>?_]
 obtain⟨dx,et⟩:=tp;exact#[p,_,dx,_,_,Go,et,T.IW,T.JD,Go,BN,hg nb]
theorem yw (T:aU K mg a) (XC:XT K a):T.Z8.O P w mg base 5 (rT a Ci):=by
 have Uj:=c8 (P:=P) (w:=w) (base:=base) T XC;refine fS T.Z8.F ag7 [03] [02];obtain⟨r,q,kd,fn,ds,bl,n,x,t,rfl,R,hb,hg⟩:=h;obtain⟨dr,er⟩:=R.ins;refine#[_,(ah (aJ (cc bX (aj (bS (pv 0) T.Gj T.Wf.c Uj [07] aA) rfl) (aQ (by rfl) T.Yj) (aK _)))),?_];refine#[r,dr,_,Go,er,Go,r,q,kd,fn,ds,bl,n,x,t,Go,R,hb,λnb p tp=>?_]
 obtain⟨dx,et⟩:=tp;refine#[p,_,dx,_,_,Go,et,T.IW,T.Ko,Go,Go,?_];have z:=hg nb;rw[cj];have e:decide (ik x.1=3)=Ci x.1:=by cases x.1<;>rfl
 rw[e];exact z
theorem rg (T:aU K mg a) (XC:XT K a):T.Z9.O P w mg base 5 (rT a l0):=by
 have Uj:=c8 (P:=P) (w:=w) (base:=base) T XC;refine fS T.Z9.F ag8 [03] [02];obtain⟨r,q,kd,fn,ds,bl,n,x,t,rfl,R,hb,hg⟩:=h;obtain⟨dr,er⟩:=R.ins;refine#[_,(ah (aJ (cc bX (aj (bS (pv 0) T.Gj T.Wf.c Uj [07] aA) rfl) (aQ (by rfl) T.PJ) (aK _)))),?_];refine#[r,dr,_,Go,er,Go,r,q,kd,fn,ds,bl,n,x,t,Go,R,hb,λnb p tp=>?_]
 obtain⟨dx,et⟩:=tp;refine#[p,_,dx,_,_,Go,et,T.IW,T.Ko,Go,Go,?_];have z:=hg nb;rw[cj];have e:decide (ik x.1=1)=l0 x.1:=by cases x.1<;>rfl
 rw[e];exact z
theorem qW (T:aU K mg a) (XC:XT K a):T.d_w.O P w mg base 5 (CT a):=by
 have Uj:=c8 (P:=P) (w:=w) (base:=base) T XC;refine fS T.d_w.F ahb [03] [02];obtain⟨r,q,kd,fn,ds,bl,n,x,t,rfl,R,hb,hg⟩:=h;obtain⟨dr,er⟩:=R.ins;refine#[_,(ao (cr (i:=1) ahb.nd rfl (G9 rfl) (bS (pv 0) T.Gj T.Wf.c Uj [07] aA))
   (ao (gR (pv 0) ak oh)
   (ah (aJ [010])))),?_]
 refine#[r,dr,_,Go,er,Go,r,q,kd,fn,ds,bl,n,x,t,Go,R,hb,λnb p tp=>?_];obtain⟨dx,et⟩:=tp;have ne:p≠r:=λz=>by
  rw[z,er] at et;have:=Gx OL (HO.ins.inj (FL et)).2.2;cases this
 refine#[r,_,dr,_,_,Go,er,T.Gj,T.KP,Go,_,_,Go,Go,dr,_,er,(by show 6<1000;decide),?_];exact#[p,_,dx,_,_,Go,(by rw[ac ne];exact et),T.IW,T.JD,Go,hg nb _ #[dr,er,Go]]
def abk:Fh V:=[.str "const", .str "fun", .str "desk", .str "let", .str "for", .str "in", .str "if", .str "then", .str "else", .str "sell", .str "buy", .str "zone", .str "quarter", .str "price", .str "to", .str "amount", .str "block", .str "under", .str "group", .str "sum"]
def cR:GO->GA
 | .word u=>!uA (.str (sb u)) abk
 |_=>Gc
inductive Bg (a:bi) (vs:Fh V) (H:Hp) (Q:VK) (E:XK):Prop
 |mk (r q kd fn ds bl:Fq) (n:FH) (x:GO×GD) (t:Fn) (_:vs=[.ref r]) (_:mQ a H r q kd fn ds bl n (x::t)) (_:(x.1= .bad->mI a.HW E H 1 x.2)) (_:(x.1≠ .bad->cR x.1=Gc->mI a.HW E H 2 x.2)) (_:(x.1≠ .bad->cR x.1=FS->Q .IX H)):Bg a vs H Q E
inductive xW (a:bi) (vs:Fh V) (H:Hp) (Q:VK) (E:XK):Prop
 |mk (r q kd fn ds bl:Fq) (n:FH) (x y:GO×GD) (t:Fn) (_:vs=[.ref r]) (_:mQ a H r q kd fn ds bl n (x::y::t)) (_:Q (.bl (l0 y.1)) H):xW a vs H Q E
theorem yI (T:aU K mg a) (XC:XT K a):T.aab.O P w mg base 6 (uk a):=by
 have G_q:=mr (P:=P) (w:=w) (base:=base) T XC
 have Vp:=fH (P:=P) (w:=w) (base:=base) T XC;refine fS T.aab.F ahc [03] [02];obtain⟨r,q,kd,fn,ds,bl,n,x,t,v,rfl,R,hb,hf,hg⟩:=h;obtain⟨dr,er⟩:=R.ins;refine#[_,(ao (cv (kR (cT (cB (pv 0) T.Gj T.d_q.c G_q [07] aA (aa (pv 1) ag)))) (ah (bj (cB (pv 0) T.Gj T.Wg.c Vp [07] aA (aa (aQ (by rfl) T.O3) ag)))) bw)
   (ah (gR (pv 0) ak oh))),?_]
 refine#[r,dr,_,Go,er,Go,r,q,kd,fn,ds,bl,n,x,t,v,Go,R,hb,λnb=>[021]];cases e:me v x.1 with
 |false=>
  refine ca ?_;exact#[r,dr,_,Go,er,Go,r,q,kd,fn,ds,bl,n,x,t,2,Go,R,by rw[Fs nb];exact hf nb e]
 |true=>
  refine bM ?_;exact#[r,_,dr,_,_,Go,er,T.Gj,T.KP,Go,_,_,Go,Go,dr,_,er,(by show 6<1000;decide),hg nb e _ #[dr,er,Go]]
theorem oC (T:aU K mg a) (XC:XT K a):T.d_X.O P w mg base 5 (rT a cR):=by
 have Uj:=c8 (P:=P) (w:=w) (base:=base) T XC;refine fS T.d_X.F ag9 [03] [02];obtain⟨r,q,kd,fn,ds,bl,n,x,t,rfl,R,hb,hg⟩:=h;obtain⟨dr,er⟩:=R.ins;refine#[_,(ao (cr (i:=1) ag9.nd rfl (G9 rfl) (bS (pv 0) T.Gj T.Wf.c Uj [07] aA))
   (ah (aJ (oR (cc bX [010] (aQ (by rfl) T.Ub) (aK _)) (jI (cc kj [010] (gW (by rfl) T.S6) rfl)))))),?_]
 refine#[r,dr,_,Go,er,Go,r,q,kd,fn,ds,bl,n,x,t,Go,R,hb,λnb p tp=>?_];obtain⟨dx,et⟩:=tp;have z:=hg nb;refine#[p,_,dx,_,_,Go,et,T.IW,T.Ko,Go,Go,_,Go,?_];rw[cj];cases e:x.1 with
 |word u=>
  rw[e] at z et;refine ca ?_;refine#[p,_,dx,_,_,Go,et,T.IW,T.JD,Go,_,_,Go, .inr T.S7.sq,Go,Go,z]
 |num m=>rw[e] at z;exact bM z
 |sign u=>rw[e] at z;exact bM z
 |eof=>rw[e] at z;exact bM z
 |bad=>exact FP e nb
theorem g8 (T:aU K mg a) (XC:XT K a):T.d_B.O P w mg base 6 (Bg a):=by
 have G_X:=oC (P:=P) (w:=w) (base:=base) T XC
 have Vp:=fH (P:=P) (w:=w) (base:=base) T XC;refine fS T.d_B.F alE [03] [02];obtain⟨r,q,kd,fn,ds,bl,n,x,t,rfl,R,hb,hf,hg⟩:=h;obtain⟨dr,er⟩:=R.ins;refine#[_,(ah (cv (kR (cT (bS (pv 0) T.Gj T.d_X.c G_X [07] aA))) (ah (bj (cB (pv 0) T.Gj T.Wg.c Vp [07] aA (aa (aQ (by rfl) T.O3) ag)))) bw)),?_];refine#[r,dr,_,Go,er,Go,r,q,kd,fn,ds,bl,n,x,t,Go,R,hb,λnb=>[021]]
 cases e:cR x.1 with
 |false=>
  refine ca ?_;exact#[r,dr,_,Go,er,Go,r,q,kd,fn,ds,bl,n,x,t,2,Go,R,by rw[Fs nb];exact hf nb e]
 |true=>exact bM (hg nb e)
theorem jY (T:aU K mg a):T.aaa.U P w mg base 1 (xW a):=by
 refine T.aaa.F.ok aha [03] [02];obtain⟨r,q,kd,fn,ds,bl,n,x,y,t,rfl,R,z⟩:=h;obtain⟨dr,er⟩:=R.ins;obtain⟨as,all,h1,h2,h3⟩:=R.toks;have h4:all[n+1]?=FB y:=by
  have:=Gx (λz:Fn=>z[1]?) h3
  simpa [K4] using this
 obtain⟨p,e,dx,et⟩:=jk h2 h4;have ep:(as.map V.ref)[n+1]?=FB (.ref p):=by rw[GB,e];rfl
 refine#[_,(ah (aJ (cc bX (aj (cN bG [000] (bW dN [000] ak) [002]) rfl) (aQ (by rfl) T.PJ) (aK _)))),?_];refine#[r,_,dr,_,_,Go,er,T.Gj,T.L0,Go,r,_,dr,_,_,Go,er,T.Gj,T.KP,Go,_,_,Go,Go,q,_,((n+1:FH):Int), .ref p,Go,Go,cw.of h1,bB ep,p,_,dx,_,_,Go,et,T.IW,T.Ko,Go,Go,?_];rw[cj];have e:decide (ik y.1=1)=l0 y.1:=by cases y.1<;>rfl
 rw[e];exact z
abbrev nk (u:Fi):be:=Io (sb u)
def has (aC:Fh (be×V)) (u:Fi):GA:=(bO aC (nk u)).isSome
inductive BG (a:bi) (vs:Fh V) (H:Hp) (Q:VK) (E:XK):Prop
 |mk (r q kd fn ds bl:Fq) (n:FH) (x:GO×GD) (t:Fn) (kk ff:Fh (be×V)) (_:vs=[.ref r]) (_:mQ a H r q kd fn ds bl n (x::t)) (_:H kd=FB (.dK kk)) (_:H fn=FB (.dK ff)) (_:(x.1= .bad->mI a.HW E H 1 x.2)) (_:(x.1≠ .bad->cR x.1=Gc->mI a.HW E H 2 x.2)) (_:(∀u,x.1= .word u->cR x.1=FS->(has kk u||has ff u)=FS->mI a.HW E H 4 x.2)) (_:(∀u,x.1= .word u->cR x.1=FS->(has kk u||has ff u)=Gc-> ∀H',past a H r q kd fn ds bl n H'->Q (.str (sb u)) H')):BG a vs H Q E
inductive xi (a:bi) (vs:Fh V) (H:Hp) (Q:VK) (E:XK):Prop
 |mk (r q kd fn ds bl g:Fq) (n:FH) (x:GO×GD) (t:Fn) (gg:Fh (be×V)) (_:vs=[.ref r, .ref g]) (_:mQ a H r q kd fn ds bl n (x::t)) (_:H g=FB (.dK gg)) (_:(x.1= .bad->mI a.HW E H 1 x.2)) (_:(x.1≠ .bad->cR x.1=Gc->mI a.HW E H 2 x.2)) (_:(∀u,x.1= .word u->cR x.1=FS->has gg u=FS->mI a.HW E H 4 x.2)) (_:(∀u,x.1= .word u->cR x.1=FS->has gg u=Gc-> ∀H',past a H r q kd fn ds bl n H'->Q (.str (sb u)) H')):xi a vs H Q E
inductive xS (a:bi) (vs:Fh V) (H:Hp) (Q:VK) (_E:XK):Prop
 |mk (r dr q kd fn ds bl:Fq) (n:FH) (u:Fi) (kk:Fh (be×V)) (_:vs=[.ref r, .str (sb u)]) (_:H r=FB (.ins a.GI dr (qY q kd fn ds bl n))) (_:H kd=FB (.dK kk)) (_:kk.length<Gk) (_:Q .IX (aF H kd (.dK (dB kk (nk u) (.bl FS))))):xS a vs H Q _E
inductive sX (a:bi) (vs:Fh V) (H:Hp) (Q:VK) (_E:XK):Prop
 |mk (r dr q kd fn ds bl:Fq) (n:FH) (u:Fi) (kk:Fh (be×V)) (_:vs=[.ref r, .str (sb u)]) (_:H r=FB (.ins a.GI dr (qY q kd fn ds bl n))) (_:H kd=FB (.dK kk)) (_:has kk u=FS) (_:Q .IX (aF H kd (.dK (fE kk (nk u))))):sX a vs H Q _E
theorem A9 (T:aU K mg a):T.aaf.U P w mg base 1 (xS a):=by
 refine T.aaf.F.ok ahf [03] [02];obtain⟨r,dr,q,kd,fn,ds,bl,n,u,kk,rfl,er,ek,lk,hq⟩:=h;refine#[_,(ah (g9 (dz hr) [000] (pv 1) tM rfl)),?_];exact#[r,_,dr,_,_,Go,er,T.Gj,T.Kk,Go,kd,_,Go,tR.k (k:=nk u) ek lk,hq]
theorem pH (T:aU K mg a):T.Xk.U P w mg base 1 (sX a):=by
 refine T.Xk.F.ok ahg [03] [02];obtain⟨r,dr,q,kd,fn,ds,bl,n,u,kk,rfl,er,ek,hk,hq⟩:=h;obtain⟨v,ev⟩:=K8.mp hk;refine#[_,(ah (bj (CL [000] (pv 1) #[Go,Go,Go,Go]))),?_];exact#[r,_,dr,_,_,Go,er,T.Gj,T.Kk,Go,kd,Go, .inl #[kk, .inl ek],kk,nk u,v,ek,Go,ev,hq]
theorem kC (T:aU K mg a) (XC:XT K a):T.aad.O P w mg base 7 (BG a):=by
 have G_B:=g8 (P:=P) (w:=w) (base:=base) T XC
 have Uj:=c8 (P:=P) (w:=w) (base:=base) T XC
 have Vp:=fH (P:=P) (w:=w) (base:=base) T XC
 have G_w:=qW (P:=P) (w:=w) (base:=base) T XC;refine fS T.aad.F YC [03] [02];obtain⟨r,q,kd,fn,ds,bl,n,⟨x,xp⟩,t,kk,ff,rfl,R,ek,ef,hb,hn,h4,hg⟩:=h;obtain⟨dr,er⟩:=R.ins;refine#[_,(ao (bj (bS (pv 0) T.Gj T.d_B.c G_B [07] aA))
   (ao (cr (i:=1) YC.nd rfl (G9 rfl) (aj (bS (pv 0) T.Gj T.Wf.c Uj [07] aA) rfl))
   (ao (cv (xm (fD (nI (dz hr) (pv 1) [000])) (rD (fD (nI (dz hr) (pv 1) [000])))).pt (ah (bj (cB (pv 0) T.Gj T.Wg.c Vp [07] aA (aa (aQ (by rfl) T.O4) ag)))) bw)
   (ah (aJ (bS (pv 0) T.Gj T.d_w.c G_w [07] aA)))))),?_]
 refine#[r,dr,_,Go,er,Go,r,q,kd,fn,ds,bl,n,(x,xp),t,Go,R,hb,hn,λnb e=>?_];cases x with
 |word u=>
  refine#[r,dr,_,Go,er,Go,r,q,kd,fn,ds,bl,n,(.word u,xp),t,Go,R,hb,λ_ p ⟨dx,et⟩=>#[p,_,dx,_,_,Go,et,T.IW,T.JD,Go,?_]];have ahK:(has kk u||has ff u)=FS->mI a.HW E H 4 xp:=h4 u rfl e
  have good:(has kk u||has ff u)=Gc-> ∀H',past a H r q kd fn ds bl n H'->Q (.str (sb u)) H':=hg u rfl e
  refine#[r,_,dr,_,_,Go,er,T.Gj,T.Kk,Go,kd,_,Go,gz.k (k:=nk u) ek,_,Go,aP (λe1=>?_) λe1=>?_]
  ·refine ca ?_
   refine#[r,dr,_,Go,er,Go,r,q,kd,fn,ds,bl,n,(.word u,xp),t,4,Go,R,?_];rw[Fs nb];exact ahK (by unfold has;rw[e1];rfl)
  ·refine#[r,_,dr,_,_,Go,er,T.Gj,T.IY,Go,fn,_,Go,gz.k (k:=nk u) ef,_,Go,aP (λe2=>?_) λe2=>?_]
   ·refine#[r,dr,_,Go,er,Go,r,q,kd,fn,ds,bl,n,(.word u,xp),t,4,Go,R,?_]
    rw[Fs nb];exact ahK (by unfold has;rw[e1,e2];rfl)
   ·exact#[r,dr,_,Go,er,Go,r,q,kd,fn,ds,bl,n,(.word u,xp),t,Go,R,hb,λ_=>good (by unfold has;rw[e1,e2];rfl)]
 |num m=>cases e
 |sign u=>cases e
 |eof=>cases e
 |bad=>exact FP rfl nb
theorem vb:gV X (.type "dict") (λxs H Q=> ∃a aC,xs=[.ref a]/\DH X.prog X.w X.K a aC/\ ∀p,H p=FM->Q (.ref p) (aF H p (.dK aC))):=by
 intro pins s σ H xs us Q I rv h;obtain⟨a,aC,rfl,kd,q⟩:=h;obtain⟨u,rfl,ru⟩:=rv.one;obtain rfl:u=F9 a:=ru;obtain⟨vs,dd,rel⟩:=kd.at_;refine kt_call_dict kd.no (dd _ I.NI) (by rw[<-rel.length];exact kd.len) λh' WY hs=>?_;refine#[.ref s.heap.objs.size,_,I.laid (a:=s.heap.objs.size) (o:= .dK aC) (t':=s.toks) (λb q hq=>?_) (FN _) (vU kd.len (beq_eq_false_iff_ne.mpr (IV (Hi I.big))) rel WY),Go,q _ (I.IF.fresh (FN _))];exact(hs.2 b (Hi (F7 hq))).trans (FJ _ hq)
structure abl (a:bi) (H H':Hp) (r dr q kd fn ds bl:Fq):Prop where
 ins:H' r=FB (.ins a.GI dr (qY q kd fn ds bl 0))
 kd0:H kd=FM
 fn0:H fn=FM
 ds0:H ds=FM
 bl0:H bl=FM
 kd1:H' kd=FB (.dK [])
 fn1:H' fn=FB (.dK dy)
 ds1:H' ds=FB (.dK [])
 bl1:H' bl=FB (.dK [])
 Qh:kd≠fn/\kd≠ds/\kd≠bl/\fn≠ds/\fn≠bl/\ds≠bl
 kept: ∀b o,H b=FB o->b≠r->H' b=FB o
inductive uu (a:bi) (vs:Fh V) (H:Hp) (Q:VK) (_E:XK):Prop
 |mk (r dr q:Fq) (_:vs=[.ref r, .ref q]) (_:H r=FB (.ins a.GI dr [])) (_: ∀(H':Hp) (kd fn ds bl:Fq),abl a H H' r dr q kd fn ds bl->Q .IX H'):uu a vs H Q _E
theorem bN {H:Hp}{a p:Fq}(h:aF H a o p=FM):p≠a/\H p=FM:=by
 by_cases e:p=a
 ·rw[e,ae] at h;cases h
 ·rw[ac e] at h;exact#[e,h]
theorem mK (T:aU K mg a) (kF:DH P w K a.Ho dy):T.Z7.U P w mg base 1 (uu a):=by
 refine T.Z7.F.ok ag4 [03] [02];obtain⟨r,dr,q,rfl,er,hq⟩:=h;refine#[_,(ao (b4 (pv 0) (pv 1) rfl)
   (ao (b4 (pv 0) ak rfl)
   (ao (b4 (pv 0) fk rfl)
   (ao (b4 (pv 0) (i5 vb (by rfl) T.Ws boot_dict (aa (gW (by rfl) T.Nb) ag)) rfl)
   (ao (b4 (pv 0) fk rfl)
   (ah (b4 (pv 0) fk rfl))))))),?_]
 refine#[r,_,dr,_,Go,er,T.Gj,T.L0,(by show 0<1000;decide),?_];refine#[r,_,dr,_,Go,ae,T.Gj,T.KP,(by show 1<1000;decide),?_];intro kd hkd;obtain⟨n1,hkd⟩:=bN hkd;obtain⟨_,hkd⟩:=bN hkd;refine#[r,_,dr,_,Go,(by rw[ac n1.symm,ae]),T.Gj,T.Kk,(by show 2<1000;decide),?_];refine#[a.Ho,dy,Go,kF,λfn UP=>?_];obtain⟨n2,UP⟩:=bN UP;obtain⟨n2k,UP⟩:=bN UP;obtain⟨_,UP⟩:=bN UP;obtain⟨_,UP⟩:=bN UP;refine#[r,_,dr,_,Go,(by rw[ac n2.symm,ae]),T.Gj,T.IY,(by show 3<1000;decide),?_];intro ds UZ;obtain⟨n3,UZ⟩:=bN UZ;obtain⟨n3f,UZ⟩:=bN UZ;obtain⟨_,UZ⟩:=bN UZ;obtain⟨n3k,UZ⟩:=bN UZ;obtain⟨_,UZ⟩:=bN UZ;obtain⟨_,UZ⟩:=bN UZ;refine#[r,_,dr,_,Go,(by rw[ac n3.symm,ae]),T.Gj,T.Oq,(by show 4<1000;decide),?_];intro bl SG;obtain⟨n4,SG⟩:=bN SG;obtain⟨n4d,SG⟩:=bN SG;obtain⟨_,SG⟩:=bN SG;obtain⟨n4f,SG⟩:=bN SG;obtain⟨_,SG⟩:=bN SG;obtain⟨n4k,SG⟩:=bN SG;obtain⟨_,SG⟩:=bN SG;obtain⟨_,SG⟩:=bN SG;refine#[r,_,dr,_,Go,(by rw[ac n4.symm,ae]),T.Gj,T.JZ,(by show 5<1000;decide),?_];refine hq _ kd fn ds bl #[ae,hkd,UP,UZ,SG,?_,?_,?_,?_,#[n2k.symm,n3k.symm,n4k.symm,n3f.symm,n4f.symm,n4d.symm],λb o e nb=>?_]
 ·rw[ac n1,ac n4k.symm,ac n1,ac n3k.symm,ac n1,ac n2k.symm,ac n1,ae]
 ·rw[ac n2,ac n4f.symm,ac n2,ac n3f.symm,ac n2,ae]
 ·rw[ac n3,ac n4d.symm,ac n3,ae]
 ·rw[ac n4,ae]
 ·rw[ac nb,ac (ai e SG),ac nb,ac (ai e UZ),ac nb,ac (ai e UP),ac nb,ac (ai e hkd),ac nb,ac nb]
  exact e
theorem db {A:Type}{p:A->Prop} : ∀g∈([]:Fh A),p g:=λ_ z=>nomatch z
theorem az {A:Type}{p:A->Prop}{f:A}{fs:Fh A}(h:p f) (r: ∀g∈fs,p g): ∀g∈f::fs,p g:=Fh.forall_mem_cons.mpr #[h,r]
inductive NB (X:Cx) (c:FY) (C:Fq) (fs:Fh FY):Prop
 |mk {f:Fq}{fd:Gz}(M:Mk X.K C f) (F:bV X.prog X.w X.K X.mg X.base ye 1 f fd ("self"::fs) (lG C fs)) (b:gu X.K fd ("self"::fs) []) (hm:X.mg c=FB (.ref C)):NB X c C fs
theorem yl (T:aU X.K X.mg a):NB X "Number" a.L7 ["worth"]:=#[T.Vi,c9 T.ae7.F agd T.P7 (az T.N0 db) (.cons .nil),T.ae7.c.b,T.RF]
theorem EM (T:aU X.K X.mg a):NB X "Name" a.Od ["name"]:=#[T.Xy,c9 T.ae8.F age T.RW (az T.Pp db) (.cons .nil),T.ae8.c.b,T.UE]
theorem Ec (T:aU X.K X.mg a):NB X "Call" a.NT ["name","arguments"]:=#[T.Xz,c9 T.ae9.F agf T.QR (az T.Pq (az T.M5 db)) [016],T.ae9.c.b,T.UG]
theorem Bo (T:aU X.K X.mg a):NB X "Unary" a.Lc ["sign","operand"]:=#[T.Wh,c9 T.afa.F agg T.Pu (az T.OQ (az T.NC db)) [016],T.afa.c.b,T.SQ]
theorem Du (T:aU X.K X.mg a):NB X "Chain" a.JW ["strength","operands","signs"]:=#[T.Wi,c9 T.afb.F agh T.ND (az T.LF (az T.M6 (az T.Of db))) (.cons [016]),T.afb.c.b,T.SR]
theorem yn (T:aU X.K X.mg a):NB X "Choice" a.Kz ["condition","chosen","otherwise"]:=#[T.Vj,c9 T.afc.F agi T.P8 (az T.Mu (az T.NF (az T.Mv db))) (.cons [016]),T.afc.c.b,T.RG]
theorem abm (T:aU X.K X.mg a):NB X "Sum" a.Oe ["name","first","last","body"]:=#[T.aao,c9 T.afd.F agj T.P9 (az T.Qw (az T.Pw (az T.Qx (az T.Qy db)))) (.cons (.cons [016])),T.afd.c.b,T.ZK]
theorem abn (T:aU X.K X.mg a):NB X "Let" a.L8 ["name","exp"]:=#[T.aap,c9 T.afe.F agk T.RY (az T.Og (az T.Q1 db)) [016],T.afe.c.b,T.T6]
theorem abo (T:aU X.K X.mg a):NB X "For" a.Ny ["name","first","last","statements"]:=#[T.aaq,c9 T.aff.F agl T.Qa (az T.Qz (az T.Px (az T.QA (az T.M7 db)))) (.cons (.cons [016])),T.aff.c.b,T.Wb]
theorem ahL (T:aU X.K X.mg a):NB X "If" a.QL ["condition","statements","else_statements"]:=#[T.afu,c9 T.afg.F agm T.SW (az T.N3 (az T.NG (az T.LQ db))) (.cons [016]),T.afg.c.b,T.Yg]
theorem Ff (T:aU X.K X.mg a):NB X "Step" a.Lj ["side","zone","quarter","price","to_price","amount"]:=#[T.XB,c9 T.afh.F agn T.MC (az T.Py (az T.Pz (az T.N4 (az T.OR (az T.LY (az T.Oh db)))))) (.cons (.cons (.cons (.cons [016])))),T.afh.c.b,T.UH]
theorem vM (T:aU X.K X.mg a):NB X "Amounts" a.Ln ["name","exp"]:=#[T.T8,c9 T.afi.F ago T.O0 (az T.N5 (az T.Oi db)) [016],T.afi.c.b,T.T7]
theorem Da (T:aU X.K X.mg a):NB X "Block" a.JN ["name","side","zone","price","amounts","under","group"]:=#[T.Wj,c9 T.afj.F agp T.K6 (az T.OT (az T.OU (az T.OV (az T.Oj (az T.NH (az T.Ol (az T.ML db))))))) (.cons (.cons (.cons (.cons (.cons [016]))))),T.afj.c.b,T.Wc]
theorem Cu (T:aU X.K X.mg a):NB X "Const" a.MB ["name","exp"]:=#[T.Wl,c9 T.afk.F agq T.Q2 (az T.OW (az T.PB db)) [016],T.afk.c.b,T.SS]
theorem zo (T:aU X.K X.mg a):NB X "Market" a.Kj ["zones","quarters","low","high"]:=#[T.Vl,c9 T.aft.F agQ T.RH (az T.Ml (az T.Ll (az T.Nm (az T.LH db)))) (.cons (.cons [016])),T.aft.c.b,T.Vg]
theorem rf (T:aU X.K X.mg a):NB X "StepOrder" a.HB ["desk","zone","quarter","side","low","high","amount"]:=#[T.R8,c9 T.afn.F agt T.LG (az T.M9 (az T.PD (az T.Om (az T.Na (az T.Qb (az T.PF (az T.Mw db))))))) (.cons (.cons (.cons (.cons (.cons [016]))))),T.afn.c.b,T.NV]
theorem o5 (T:aU X.K X.mg a):NB X "BlockOrder" a.HS ["desk","zone","side","price","group","parent","amounts"]:=#[T.Rt,c9 T.afo.F agu T.K7 (az T.MN (az T.O2 (az T.MO (az T.OF (az T.OG (az T.Oo (az T.LR db))))))) (.cons (.cons (.cons (.cons (.cons [016]))))),T.afo.c.b,T.Rr]
theorem abp (T:aU X.K X.mg a):NB X "Fun" a.ON ["name","parameters","exp"]:=#[T.aar,c9 T.afl.F agr T.Q3 (az T.QB (az T.M8 (az T.Q4 db))) (.cons [016]),T.afl.c.b,T.Wd]
theorem DL (T:aU X.K X.mg a):NB X "Desk" a.NU ["name","statements"]:=#[T.XD,c9 T.afm.F ags T.RZ (az T.R7 (az T.MM db)) [016],T.afm.c.b,T.UI]
inductive bJ (M:Fq->Prop) (H:Hp) (C:Fq) (fs:Fh (FY×V)) (v:V):Prop
 |mk (p dx:Fq) (_:v= .ref p) (_: ¬M p) (_:H p=FB (.ins C dx fs)):bJ M H C fs v
inductive b5 (M:Fq->Prop) (H:Hp) (xs:Fh V) (v:V):Prop
 |mk (p:Fq) (_:v= .ref p) (_: ¬M p) (_:H p=FB (.lst xs)):b5 M H xs v
def dg (M:Fq->Prop) (H H':Hp):Prop:= ∀b o,H b=FB o-> ¬M b->H' b=FB o
def fA (M M':Fq->Prop) (H H':Hp):Prop:= ∀b o,H b=FB o-> ¬M b-> ¬M' b/\H' b=FB o
theorem dg.two {M:Fq->Prop}{H H':Hp}(k:dg M H H'):fA M M H H':=λb o e m=>#[m,k b o e m]
def Nd (o:HO):Prop:=(∃xs,o= .lst xs)\/ ∃C d fs,o= .ins C d fs/\fs.length≠5
def lA (M M':Fq->Prop) (H H':Hp):Prop:= ∀b o,H b=FB o-> ¬M b->Nd o-> ¬M' b/\H' b=FB o
theorem fA.three {M M':Fq->Prop}{H H':Hp}(k:fA M M' H H'):lA M M' H H':=λb o e m _=>k b o e m
theorem bJ.HV {M M':Fq->Prop}{H H':Hp}(k:lA M M' H H') (h:bJ M H C fs v) (hl:fs.length≠5:=by intro z;cases z):bJ M' H' C fs v:=by
 obtain⟨p,dx,e,m,z⟩:=h;have:=k _ _ z m (.inr #[_,_,_,Go,hl]);exact#[p,dx,e,this.1,this.2]
theorem b5.HV {M M':Fq->Prop}{H H':Hp}(k:lA M M' H H') (h:b5 M H xs v):b5 M' H' xs v:=by
 obtain⟨p,e,m,z⟩:=h;have:=k _ _ z m (.inl #[_,Go]);exact#[p,e,this.1,this.2]
theorem bJ.keep {M M':Fq->Prop}{H H':Hp}(k:fA M M' H H') (h:bJ M H C fs v):bJ M' H' C fs v:=by
 obtain⟨p,dx,e,m,z⟩:=h;exact#[p,dx,e,(k _ _ z m).1,(k _ _ z m).2]
theorem b5.keep {M M':Fq->Prop}{H H':Hp}(k:fA M M' H H') (h:b5 M H xs v):b5 M' H' xs v:=by
 obtain⟨p,e,m,z⟩:=h;exact#[p,e,(k _ _ z m).1,(k _ _ z m).2]
mutual
def aw (a:bi) (M:Fq->Prop) (H:Hp):Fz->V->Prop
 | .num n,v=>bJ M H a.L7 [("worth", .int (n:FH))] v
 | .name x,v=>bJ M H a.Od [("name", .str (sb x))] v
 | .call f l,v=> ∃q us,bJ M H a.NT [("name", .str (sb f)),("arguments",q)] v/\b5 M H us q/\cu a M H l us
 | .neg e,v=> ∃u,bJ M H a.Lc [("sign", .str "-"),("operand",u)] v/\aw a M H e u
 | .not e,v=> ∃u,bJ M H a.Lc [("sign", .str "!"),("operand",u)] v/\aw a M H e u
 | .sums e r,v=> ∃q g u us ss,bJ M H a.JW [("strength", .int 3),("operands",q),("signs",g)] v/\b5 M H (u::us) q/\b5 M H ss g/\aw a M H e u/\dF a M H r us ss
 | .prods e r,v=> ∃q g u us ss,bJ M H a.JW [("strength", .int 4),("operands",q),("signs",g)] v/\b5 M H (u::us) q/\b5 M H ss g/\aw a M H e u/\dF a M H r us ss
 | .cmp op x y,v=> ∃q g u1 u2,bJ M H a.JW [("strength", .int 2),("operands",q),("signs",g)] v/\b5 M H [u1,u2] q/\b5 M H [.str (dM op)] g/\aw a M H x u1/\aw a M H y u2
 | .both e l,v=> ∃q g u us,bJ M H a.JW [("strength", .int 1),("operands",q),("signs",g)] v/\b5 M H (u::us) q/\b5 M H (us.map λ_=> .str "&&") g/\aw a M H e u/\cu a M H l us
 | .either e l,v=> ∃q g u us,bJ M H a.JW [("strength", .int 0),("operands",q),("signs",g)] v/\b5 M H (u::us) q/\b5 M H (us.map λ_=> .str "||") g/\aw a M H e u/\cu a M H l us
 | .pick c x y,v=> ∃u1 u2 u3,bJ M H a.Kz [("condition",u1),("chosen",u2),("otherwise",u3)] v/\aw a M H c u1/\aw a M H x u2/\aw a M H y u3
 | .sum x lo hi e,v=> ∃u1 u2 u3,bJ M H a.Oe [("name", .str (sb x)),("first",u1),("last",u2),("body",u3)] v/\aw a M H lo u1/\aw a M H hi u2/\aw a M H e u3
def cu (a:bi) (M:Fq->Prop) (H:Hp):Kc->Fh V->Prop
 | .nil,us=>us=[]
 | .cons e l,us=> ∃u vs,us=u::vs/\aw a M H e u/\cu a M H l vs
def dF (a:bi) (M:Fq->Prop) (H:Hp):QK->Fh V->Fh V->Prop
 | .nil,us,ss=>us=[]/\ss=[]
 | .cons op e r,us,ss=> ∃u vs ts,us=u::vs/\ss= .str (dM op)::ts/\aw a M H e u/\dF a M H r vs ts
end
section
variable {M M':Fq->Prop}{H H':Hp}
mutual
theorem aw.HV (k:lA M M' H H'): ∀(e:Fz) {v:V},aw a M H e v->aw a M' H' e v
 | .num n,v,h=>by unfold aw at h ⊢; exact h.HV k
 | .name x,v,h=>by unfold aw at h ⊢; exact h.HV k
 | .call f l,v,h=>by
  unfold aw at h ⊢;obtain⟨q,us,h1,h2,h3⟩:=h;exact#[q,us,h1.HV k,h2.HV k,cu.HV k l h3]
 | .neg e,v,h=>by
  unfold aw at h ⊢;obtain⟨u,h1,h2⟩:=h;exact#[u,h1.HV k,aw.HV k e h2]
 | .not e,v,h=>by
  unfold aw at h ⊢;obtain⟨u,h1,h2⟩:=h;exact#[u,h1.HV k,aw.HV k e h2]
 | .sums e r,v,h=>by
  unfold aw at h ⊢;obtain⟨q,g,u,us,ss,h1,h2,h3,h4,h5⟩:=h;exact#[q,g,u,us,ss,h1.HV k,h2.HV k,h3.HV k,aw.HV k e h4,dF.HV k r h5]
 | .prods e r,v,h=>by
  unfold aw at h ⊢;obtain⟨q,g,u,us,ss,h1,h2,h3,h4,h5⟩:=h;exact#[q,g,u,us,ss,h1.HV k,h2.HV k,h3.HV k,aw.HV k e h4,dF.HV k r h5]
 | .cmp op x y,v,h=>by
  unfold aw at h ⊢;obtain⟨q,g,u1,u2,h1,h2,h3,h4,h5⟩:=h;exact#[q,g,u1,u2,h1.HV k,h2.HV k,h3.HV k,aw.HV k x h4,aw.HV k y h5]
 | .both e l,v,h=>by
  unfold aw at h ⊢;obtain⟨q,g,u,us,h1,h2,h3,h4,h5⟩:=h;exact#[q,g,u,us,h1.HV k,h2.HV k,h3.HV k,aw.HV k e h4,cu.HV k l h5]
 | .either e l,v,h=>by
  unfold aw at h ⊢;obtain⟨q,g,u,us,h1,h2,h3,h4,h5⟩:=h;exact#[q,g,u,us,h1.HV k,h2.HV k,h3.HV k,aw.HV k e h4,cu.HV k l h5]
 | .pick c x y,v,h=>by
  unfold aw at h ⊢;obtain⟨u1,u2,u3,h1,h2,h3,h4⟩:=h;exact#[u1,u2,u3,h1.HV k,aw.HV k c h2,aw.HV k x h3,aw.HV k y h4]
 | .sum x lo hi e,v,h=>by
  unfold aw at h ⊢;obtain⟨u1,u2,u3,h1,h2,h3,h4⟩:=h;exact#[u1,u2,u3,h1.HV k,aw.HV k lo h2,aw.HV k hi h3,aw.HV k e h4]
theorem cu.HV (k:lA M M' H H'): ∀(l:Kc) {us:Fh V},cu a M H l us->cu a M' H' l us
 | .nil,us,h=>by unfold cu at h ⊢; exact h
 | .cons e l,us,h=>by
  unfold cu at h ⊢;obtain⟨u,vs,h1,h2,h3⟩:=h;exact#[u,vs,h1,aw.HV k e h2,cu.HV k l h3]
theorem dF.HV (k:lA M M' H H'): ∀(r:QK) {us ss:Fh V},dF a M H r us ss->dF a M' H' r us ss
 | .nil,us,ss,h=>by unfold dF at h ⊢; exact h
 | .cons op e r,us,ss,h=>by
  unfold dF at h ⊢;obtain⟨u,vs,ts,h1,h2,h3,h4⟩:=h;exact#[u,vs,ts,h1,h2,aw.HV k e h3,dF.HV k r h4]
end
theorem aw.Ic (k:fA M M' H H') (e:Fz) (h:aw a M H e v):aw a M' H' e v:=aw.HV k.three e h
end
inductive ui (a:bi) (vs:Fh V) (H:Hp) (Q:VK) (E:XK):Prop
 |mk (r q kd fn ds bl:Fq) (n:FH) (x:GO×GD) (t:Fn) (d:FH) (_:vs=[.ref r, .int d]) (_:mQ a H r q kd fn ds bl n (x::t)) (_:(d=12->mI a.HW E H (if x.1= .bad then 1 else 6) x.2)) (_:(d≠12->Q (.int ((d+1:FH):Int)) H)):ui a vs H Q E
inductive sC (a:bi) (vs:Fh V) (H:Hp) (Q:VK) (E:XK):Prop
 |mk (r q kd fn ds bl:Fq) (n:FH) (x:GO×GD) (t:Fn) (v:FY) (_:vs=[.ref r, .str v]) (_:mQ a H r q kd fn ds bl n (x::t)) (_:(x.1= .bad->mI a.HW E H 1 x.2)) (_:(x.1≠ .bad->me v x.1=FS->mI a.HW E H 5 x.2)) (_:(x.1≠ .bad->me v x.1=Gc->Q .IX H)):sC a vs H Q E
theorem alZ (T:aU K mg a) (XC:XT K a):T.d_f.O P w base 6 (ui a):=by
 have Vp:=fH (P:=P) (w:=w) (base:=base) T XC;refine fS T.d_f.F alF [03] [02];obtain⟨r,q,kd,fn,ds,bl,n,x,t,d,rfl,R,hf,hg⟩:=h;obtain⟨dr,er⟩:=R.ins;refine#[_,(ao (cv (aZ bX (pv 1) (aQ (by rfl) T.Rx) (aK _)) (ah (bj (cB (pv 0) T.Gj T.Wg.c Vp [07] aA (aa (aQ (by rfl) T.Q6) ag)))) bw)
   (ah (aJ (bW dN (pv 1) ak)))),?_]
 refine [013];rw[cj];rw[05]
 ·have:=Ga e
  exact#[r,dr,_,Go,er,Go,r,q,kd,fn,ds,bl,n,x,t,6,Go,R,hf (by lia)]
 ·have:=Gf e
  exact#[_,_,Go,Go,hg (by lia)]
theorem ahM (T:aU K mg a) (XC:XT K a):T.aag.O P w base 6 (sC a):=by
 have G_q:=mr (P:=P) (w:=w) (base:=base) T XC
 have Vp:=fH (P:=P) (w:=w) (base:=base) T XC;refine fS T.aag.F ahn [03] [02];obtain⟨r,q,kd,fn,ds,bl,n,x,t,v,rfl,R,hb,hf,hg⟩:=h;obtain⟨dr,er⟩:=R.ins;refine#[_,(ah (cv (cT (cB (pv 0) T.Gj T.d_q.c G_q [07] aA (aa (pv 1) ag))) (ah (bj (cB (pv 0) T.Gj T.Wg.c Vp [07] aA (aa (aQ (by rfl) T.SY) ag)))) bw)),?_];refine#[r,dr,_,Go,er,Go,r,q,kd,fn,ds,bl,n,x,t,v,Go,R,hb,λnb=>#[_,Go,aP [015] λe=>?_]]
 ·exact#[r,dr,_,Go,er,Go,r,q,kd,fn,ds,bl,n,x,t,5,Go,R,by rw[Fs nb];exact hf nb e]
 ·exact hg nb e
def jx (a:bi) (M:Fq->Prop) (H:Hp):FA Fz->V->Prop
 |none,v=>v= .IX
 |some e,v=>aw a M H e v
def kE (b:GA):V:= .str (if b=FS then "buy" else "sell")
inductive sI (a:bi) (M:Fq->Prop) (H:Hp) (x:Fi×Fz) (v:V):Prop
 |mk (u:V) (_:bJ M H a.Ln [("name", .str (sb x.1)),("exp",u)] v) (_:aw a M H x.2 u):sI a M H x v
def ii:FA Fi->V
 |none=> .IX
 |some u=> .str (sb u)
mutual
def a9 (a:bi) (M:Fq->Prop) (H:Hp):Hj->V->Prop
 | .bind x e,v=> ∃u,bJ M H a.L8 [("name", .str (sb x)),("exp",u)] v/\aw a M H e u
 | .loop x lo hi l,v=> ∃u1 u2 q us,bJ M H a.Ny [("name", .str (sb x)),("first",u1),("last",u2),("statements",q)] v/\aw a M H lo u1/\aw a M H hi u2/\b5 M H us q/\bE a M H l us
 | .cond c x y,v=> ∃u q us g ws,bJ M H a.QL [("condition",u),("statements",q),("else_statements",g)] v/\aw a M H c u/\b5 M H us q/\bE a M H x us/\b5 M H ws g/\bE a M H y ws
 | .step b z qu p top am,v=> ∃u1 u2 u3 u4 u5,bJ M H a.Lj [("side",kE b),("zone",u1),("quarter",u2),("price",u3),("to_price",u4),("amount",u5)] v/\aw a M H z u1/\aw a M H qu u2/\aw a M H p u3/\jx a M H top u4/\aw a M H am u5
 | .block nm b z p x am un g,v=> ∃u1 u2 u3 u4,bJ M H a.JN [("name",ii nm),("side",kE b),("zone",u1),("price",u2),("amounts",u3),("under",ii un),("group",u4)] v/\aw a M H z u1/\aw a M H p u2/\sI a M H (x,am) u3/\jx a M H g u4
def bE (a:bi) (M:Fq->Prop) (H:Hp):Jn->Fh V->Prop
 | .nil,us=>us=[]
 | .cons s l,us=> ∃u vs,us=u::vs/\a9 a M H s u/\bE a M H l vs
end
section
variable {M M':Fq->Prop}{H H':Hp}
theorem jx.Ic (k:fA M M' H H'): ∀(e:FA Fz) {v:V},jx a M H e v->jx a M' H' e v
 |none,v,h=>h
 |some e,v,h=>aw.Ic k e h
theorem sI.Ic (k:fA M M' H H') (h:sI a M H x v):sI a M' H' x v:=by
 obtain⟨u,h1,h2⟩:=h;exact#[u,h1.keep k,aw.Ic k _ h2]
mutual
theorem a9.Ic (k:fA M M' H H'): ∀(s:Hj) {v:V},a9 a M H s v->a9 a M' H' s v
 | .bind x e,v,h=>by
  unfold a9 at h ⊢;obtain⟨u,h1,h2⟩:=h;exact#[u,h1.keep k,aw.Ic k e h2]
 | .loop x lo hi l,v,h=>by
  unfold a9 at h ⊢;obtain⟨u1,u2,q,us,h1,h2,h3,h4,h5⟩:=h;exact#[u1,u2,q,us,h1.keep k,aw.Ic k lo h2,aw.Ic k hi h3,h4.keep k,bE.Ic k l h5]
 | .cond c x y,v,h=>by
  unfold a9 at h ⊢;obtain⟨u,q,us,g,ws,h1,h2,h3,h4,h5,h6⟩:=h;exact#[u,q,us,g,ws,h1.keep k,aw.Ic k c h2,h3.keep k,bE.Ic k x h4,h5.keep k,bE.Ic k y h6]
 | .step b z qu p top am,v,h=>by
  unfold a9 at h ⊢;obtain⟨u1,u2,u3,u4,u5,h1,h2,h3,h4,h5,h6⟩:=h;exact#[u1,u2,u3,u4,u5,h1.keep k,aw.Ic k z h2,aw.Ic k qu h3,aw.Ic k p h4,jx.Ic k top h5,aw.Ic k am h6]
 | .block nm b z p x am un g,v,h=>by
  unfold a9 at h ⊢;obtain⟨u1,u2,u3,u4,h1,h2,h3,h4,h5⟩:=h;exact#[u1,u2,u3,u4,h1.keep k,aw.Ic k z h2,aw.Ic k p h3,h4.Ic k,jx.Ic k g h5]
theorem bE.Ic (k:fA M M' H H'): ∀(l:Jn) {us:Fh V},bE a M H l us->bE a M' H' l us
 | .nil,us,h=>by unfold bE at h ⊢; exact h
 | .cons s l,us,h=>by
  unfold bE at h ⊢;obtain⟨u,vs,h1,h2,h3⟩:=h;exact#[u,vs,h1,a9.Ic k s h2,bE.Ic k l h3]
end
end
def gS (ps:Fh Fi):Fh V:=ps.map λp=>V.str (sb p)
def e9 (a:bi) (M:Fq->Prop) (H:Hp):Hv->V->Prop
 | .const x e,v=> ∃u,bJ M H a.MB [("name", .str (sb x)),("exp",u)] v/\aw a M H e u
 | .func x ps e,v=> ∃q u,bJ M H a.ON [("name", .str (sb x)),("parameters",q),("exp",u)] v/\b5 M H (gS ps) q/\aw a M H e u
 | .desk x l,v=> ∃q us,bJ M H a.NU [("name", .str (sb x)),("statements",q)] v/\b5 M H us q/\bE a M H l us
theorem e9.Ic {a:bi}{M M':Fq->Prop}{H H':Hp}(k:fA M M' H H'): ∀(x:Hv) {v:V},e9 a M H x v->e9 a M' H' x v
 | .const x e,v,⟨u,h1,h2⟩=>#[u,h1.keep k,aw.Ic k e h2]
 | .func x ps e,v,⟨q,u,h1,h2,h3⟩=>#[q,u,h1.keep k,h2.keep k,aw.Ic k e h3]
 | .desk x l,v,⟨q,us,h1,h2,h3⟩=>#[q,us,h1.keep k,h2.keep k,bE.Ic k l h3]
inductive Fk where
 |e (x:Fz)
 |o (x:FA Fz)
 |am (x:Fi×Fz)
 |st (x:Hj)
 |sts (x:Jn)
 |ps (x:Fh Fi)
 |top (x:Hv)
inductive mJ (a:bi) (M:Fq->Prop) (H:Hp) (l:Jn) (v:V):Prop
 |mk (us:Fh V) (_:b5 M H us v) (_:bE a M H l us):mJ a M H l v
def jm (a:bi) (M:Fq->Prop) (H:Hp) (x:Fk×V):Prop:=match x.1 with
 | .e e=>aw a M H e x.2
 | .o e=>jx a M H e x.2
 | .am e=>sI a M H e x.2
 | .st e=>a9 a M H e x.2
 | .sts e=>mJ a M H e x.2
 | .ps e=>b5 M H (gS e) x.2
 | .top e=>e9 a M H e x.2
theorem jm.Ic {a:bi}{M M':Fq->Prop}{H H':Hp}(k:fA M M' H H'): ∀ {x:Fk×V},jm a M H x->jm a M' H' x
 | (.e e,v),h=>aw.Ic k e h
 | (.o e,v),h=>jx.Ic k e h
 | (.am e,v),h=>sI.Ic k h
 | (.st e,v),h=>a9.Ic k e h
 | (.sts e,v),⟨us,h1,h2⟩=>#[us,h1.keep k,bE.Ic k e h2]
 | (.ps e,v),h=>b5.keep k h
 | (.top e,v),h=>e9.Ic k e h
end OS
namespace OS
open Vbemac
abbrev fz:=Gv->FA Int
abbrev dS:=Exp×Fh Int
inductive Mc where
 |go (ts:Fh dS) (sc:Fh fz) (n:FH)
 |done (a:Int) (sc:Fh fz) (n:FH)
 |err (c:Int)
def eN (ts:Fh dS) (sc:Fh fz) (n:FH) (a:Int):Mc:=match ts with
 |[]=> .done a sc n
 | (e,ps)::r=> .go ((e,ps++[a])::r) sc n
def j9 (e:Exp) (ts:Fh dS) (sc:Fh fz):FH->Mc
 |0=> .err (-13)
 |n+1=> .go ((e,[])::ts) sc n
def lK:Exps->Fh Exp
 | .nil=>[]
 | .cons e l=>e::lK l
def DJ:Rest->Fh Exp
 | .nil=>[]
 | .cons _ e r=>e::DJ r
def Ad:Rest->Fh Gv
 | .nil=>[]
 | .cons op _ r=>op::Ad r
def fN (sc:Fh fz):fz:=sc.getLastD λ_=>FM
def look (sc:Fh fz) (x:Gv):FA Int:=match sc.headD (λ_=>FM) x with
 |some a=>FB a
 |none=>fN sc x
def pb (sc:Fh fz) (y:Gv) (a:Int):Fh fz:=match sc with
 |[]=>[]
 |s::r=>(λx=>if x=y then FB a else s x)::r
def vd (ps:Fh Gv) (l:Fh Int):fz:=λx=>((ps.zip l).find? λa=>a.1 == x).map λa=>a.2
def fU (s:FH) (op:Gv) (a b:Int):Except Int Int:=if s=2 then .ok (truth (compare op a b)) else match arith op a b 0 with
 | .error c=> .error c
 | .ok (v,_)=> .ok v
def jo (s:FH) (a:Int):GA:=if s=1 then a == 0 else a !=0
def mE (s:FH):Int:=if s=1 then 0 else 1
def o9 (s:FH) (ops:Fh Exp) (e:Exp) (ps:Fh Int) (r:Fh dS) (sc:Fh fz) (n:FH):FA Mc:=
 if ps.getLast?.any (jo s)=FS then FB (eN r sc n (mE s)) else match ops[ps.length]? with
 |some o=>FB (j9 o ((e,ps)::r) sc n)
 |none=>FB (eN r sc n (1-mE s))
def lB (s:FH) (ops:Fh Exp) (sgs:Fh Gv) (e:Exp) (ps:Fh Int) (r:Fh dS) (sc:Fh fz) (n:FH):FA Mc:=
 let k:=ps.length
 let ps':FA (Except Int (Fh Int)):=if 1<k then(match sgs[k-2]?,ps[k-2]?,ps[k-1]? with
  |some op,some a,some b=>FB (match fU s op a b with
   | .error c=> .error c
   | .ok v=> .ok (ps.take (k-1)++[v]))
  |_,_,_=>FM) else FB (.ok ps)
 match ps' with
 |none=>FM
 |some (.error c)=>FB (.err c)
 |some (.ok ps)=>match ops[ps.length]? with
  |some o=>FB (j9 o ((e,ps)::r) sc n)
  |none=>ps.getLast?.map λa=>eN r sc n a
def gM (e:Exp) (y:Gv) (b:Exp) (p q:Int) (acc:Fh Int) (r:Fh dS) (sc:Fh fz) (n:FH):FA Mc:=
 let t:=acc.length
 let al0:Except Int (Fh Int):=if 1<t then(match checked (acc.getD (t-2) 0+acc.getD (t-1) 0) 0 with
  | .error c=> .error c
  | .ok (v,_)=> .ok (acc.take (t-1)++[v])) else .ok acc
 match al0 with
 | .error c=>FB (.err c)
 | .ok acc=>if p+(t:Int)<=q then(match n with
   |0=>FB (.err (-13))
   |n+1=>(match sc with
    |[]=>FM
    |h::tl=>FB (j9 b ((e,p::q::acc)::r) (pb (h::tl) y (p+(t:Int))) n)))
  else FB (eN r sc n (acc.getLast?.getD 0))
def eD (F:Funs):Mc->FA Mc
 | .go ((e,ps)::r) sc n=>(match e with
  | .num a=>FB (eN r sc n (a:FH))
  | .name x=>(look sc x).map (eN r sc n)
  | .call f l=>(match (lK l)[ps.length]? with
   |some o=>FB (j9 o ((e,ps)::r) sc n)
   |none=>match F.find? λg=>g.1 == f with
    |none=>if ps.length=(lK l).length then FB (eN r sc n (builtIn f ps)) else FM
    |some g=>if ps.length=(lK l).length then FB (j9 g.2.2 ((e,ps)::r) (vd g.2.1 ps::sc) n) else(match sc with
     |[]=>FM
     |_::tl=>(ps[(lK l).length]?).map λa=>eN r tl n a))
  | .neg a=>(match ps with
   |[]=>FB (j9 a ((e,ps)::r) sc n)
   |b::_=>FB (eN r sc n (-b)))
  | .not a=>(match ps with
   |[]=>FB (j9 a ((e,ps)::r) sc n)
   |b::_=>FB (eN r sc n (truth (b == 0))))
  | .sums a l=>lB 3 (a::DJ l) (Ad l) e ps r sc n
  | .prods a l=>lB 4 (a::DJ l) (Ad l) e ps r sc n
  | .cmp op a b=>lB 2 [a,b] [op] e ps r sc n
  | .both a l=>o9 1 (a::lK l) e ps r sc n
  | .either a l=>o9 0 (a::lK l) e ps r sc n
  | .pick c a b=>(match ps with
   |[]=>FB (j9 c ((e,ps)::r) sc n)
   |[p]=>FB (j9 (if p≠0 then a else b) ((e,ps)::r) sc n)
   |[_,v]=>FB (eN r sc n v)
   |_=>FM)
  | .sum y lo hi b=>(match ps with
   |[]=>FB (j9 lo ((e,ps)::r) sc n)
   |[_]=>FB (j9 hi ((e,ps)::r) sc n)
   |p::q::acc=>gM e y b p q acc r sc n))
 |_=>FM
inductive lO (F:Funs) (f:Mc->Prop):Mc->FH->Prop
 |here {m:Mc} :f m->lO F f m 0
 |step {m m':Mc}{j:FH} :eD F m=FB m'->lO F f m' j->lO F f m (j+1)
def HE (F:Funs) (f:Mc->Prop) (m:Mc):Prop:= ∃j,lO F f m j
theorem HE.step {f:Mc->Prop}(h:eD F m=FB m') (k:HE F f m'):HE F f m:=let ⟨j,k⟩:=k;#[j+1, .step h k]
mutual
def WS:Fh Gv->Fh (Gv×FH)->Exp->Prop
 |_,_, .num n=>n<1000000000000000000
 |V,_, .name x=>x∈V
 |V,F, .call f l=>(∃p,(F.find? λg=>g.1 == f)=FB p/\(lK l).length=p.2)/\nM V F l
 |V,F, .neg e=>WS V F e
 |V,F, .not e=>WS V F e
 |V,F, .sums e r=>WS V F e/\(∃op a s,r= .cons op a s)/\uI ["+","-"] V F r
 |V,F, .prods e r=>WS V F e/\(∃op a s,r= .cons op a s)/\uI ["*","/","%"] V F r
 |V,F, .cmp op a b=>op∈(["==","!=","<=",">=","<",">"].map text)/\WS V F a/\WS V F b
 |V,F, .both e l=>WS V F e/\(∃a s,l= .cons a s)/\nM V F l
 |V,F, .either e l=>WS V F e/\(∃a s,l= .cons a s)/\nM V F l
 |V,F, .pick c a b=>WS V F c/\WS V F a/\WS V F b
 |V,F, .sum y lo hi e=>y∉V/\WS V F lo/\WS V F hi/\WS (y::V) F e
def nM:Fh Gv->Fh (Gv×FH)->Exps->Prop
 |_,_, .nil=>True
 |V,F, .cons e l=>WS V F e/\nM V F l
def uI:Fh String->Fh Gv->Fh (Gv×FH)->Rest->Prop
 |_,_,_, .nil=>True
 |L,V,F, .cons op e r=>op∈L.map text/\WS V F e/\uI L V F r
end
abbrev dC (a:Int):Prop:= -BIG<=a/\a<=BIG
structure Ag (S:Scope) (V:Fh Gv) (v:Env) (sc:Fh fz):Prop where
 val: ∀x∈V,look sc x=FB (valueIn v x)
 bot: ∀x∈S.consts.map (·.1),fN sc x=FB (valueIn S.consts x)
 low:sc.length=1-> ∀x∈S.consts.map (·.1),x∈V
 big: ∀x,dC (valueIn v x)
structure ahN (S:Scope) (F:Fh (Gv×FH)) (g:Gv×Fh Gv×Exp):Prop where
 ws: ∃Kg Fg,WS (g.2.1++Kg) Fg g.2.2/\(∀x∈Kg,x∈S.consts.map (·.1))/\ ∀f p,(Fg.find? λh=>h.1 == f)=FB p->(F.find? λh=>h.1 == f)=FB p
 nd:g.2.1.Nodup
 le:g.2.1.length<=6
structure gA (S:Scope) (F:Fh (Gv×FH)):Prop where
 all: ∀f p,(F.find? λh=>h.1 == f)=FB p->(∃g,(S.funs.find? λh=>h.1 == f)=FB g/\g.2.1.length=p.2/\ahN S F g)\/((S.funs.find? λh=>h.1 == f)=FM/\(BUILT.find? λh=>h.1 == f)=FB p)
 ahO: ∀x,dC (valueIn S.consts x)
def Sub (G F:Fh (Gv×FH)):Prop:= ∀f p,(G.find? λh=>h.1 == f)=FB p->(F.find? λh=>h.1 == f)=FB p
section
variable {h:fz}
theorem ie {a:Int} :valueIn ((y,a)::v) x=if x=y then a else valueIn v x:=by
 unfold valueIn;rw[Hr];by_cases e:x=y
 ·rw[Fv e,e,show(y == y)=FS from Hf y]
  rfl
 ·rw[Fs e,show(y == x)=Gc from beq_eq_false_iff_ne.mpr λz=>e z.symm]
theorem oA {a:Int} :fN ((λz=>if z=y then FB a else h z)::tl) x=if x=y/\tl=[] then FB a else fN (h::tl) x:=by
 cases tl with
 |nil=>
  unfold fN;by_cases e:x=y
  ·rw[Fv #[e,Go]];exact Fv e
  ·rw[Fs λz=>e z.1];exact Fs e
 |cons t r=>rw[Fs λz=>by cases z.2];rfl
theorem Ag.set (A:Ag S V v (h::tl)) {a:Int}(ny:y∉V) (ba:dC a):Ag S (y::V) ((y,a)::v) (pb (h::tl) y a):=by
 refine#[λx hx=>?_,λx hx=>?_,λl x hx=>Fx _ (A.low l x hx),λx=>?_]
 ·rw[ie]
  unfold pb look;by_cases e:x=y
  ·rw[Fv e]
   show(match (if x=y then FB a else h x) with|some a=>FB a|none=>_)=_
   rw[Fv e]
  ·rw[Fs e]
   have hv:x∈V:=by
    rcases FF.mp hx with z|z
    ·exact FP z e
    ·exact z
   have:=A.val x hv;unfold look at this
   show(match (if x=y then FB a else h x) with|some a=>FB a|none=>_)=_
   rw[Fs e,oA,Fs λz=>e z.1];exact this
 ·unfold pb
  rw[oA];by_cases e:x=y/\tl=[]
  ·exact FP (A.low (by rw[e.2];rfl) x hx) (by rw[e.1];exact ny)
  ·rw[Fs e]
   exact A.bot x hx
 ·rw[ie]
  split
  ·exact ba
  ·exact A.big x
theorem Ag.unset {a:Int}(A:Ag S (y::V) ((y,a)::v) (h::tl)) (ny:y∉V) (bg: ∀x,dC (valueIn v x)) (lo:tl=[]-> ∀x∈S.consts.map (·.1),x∈V):Ag S V v (h::tl):=by
 refine#[λx hx=>?_,A.bot,λl=>lo (QV (RD l)),bg];rw[A.val x (Fx _ hx),ie,Fs λz=>ny (by rw[<-z];exact hx)]
end
end OS
namespace OS
open Vbemac
theorem bQ {a:Int}(h:checked x n= .ok (a,m)):dC a/\m=n/\a=x:=by
 unfold checked at h;split at h
 ·rename_i z
  cases h;exact#[z,Go,Go]
 ·cases h
theorem gJ (b:GA):dC (truth b):=by cases b<;>decide
theorem pW {x y a:Int}(h:arith op x y n= .ok (a,m)):dC a/\m=n:=by
 unfold arith at h;split at h
 ·exact#[(bQ h).1,(bQ h).2.1]
 split at h
 ·exact#[(bQ h).1,(bQ h).2.1]
 split at h
 ·exact#[(bQ h).1,(bQ h).2.1]
 split at h
 ·cases h
 split at h
 ·exact#[(bQ h).1,(bQ h).2.1]
 ·exact#[(bQ h).1,(bQ h).2.1]
theorem wM {a:Int}(h:dC a):dC (-a):=by unfold dC BIG at *; lia
theorem pU {f:Gv}(h: ∀a∈l,dC a):dC (builtIn f l):=by
 have z:dC 0:=by decide
 have g: ∀i,dC (l.getD i 0):=λi=>by
  rw[Ja];cases e:l[i]? with
  |none=>exact z
  |some a=>exact h a (Hg e)
 have g0:=g 0
 have g1:=g 1;unfold builtIn;dsimp only;unfold dC BIG at*;split
 ·lia
 split
 ·lia
 split<;>lia
theorem lV {u v:Env} :valueIn (u++v) x=match u.find? (λa=>a.1 == x) with
  |some a=>a.2
  |none=>valueIn v x:=by
 unfold valueIn;rw[VV];cases u.find? (λa=>a.1 == x)<;>rfl
section
variable {f:Mc->Prop}
def abq (S:Scope) (f:Mc->Prop) (V:Fh Gv) (v:Env) (tl:Fh fz) (n:FH) (r:Res Int) (k:Int->Fh fz->FH->Mc):Prop:=match r with
 | .error c=>f (.err c)
 | .ok (a,m)=>dC a->m<n-> ∀h,Ag S V v (h::tl)->HE S.funs f (k a (h::tl) m)
def EvP (S:Scope) (F0:Fh (Gv×FH)) (f:Mc->Prop) (k:FH):Prop:= ∀V v G e ts h tl n,Ag S V v (h::tl)->WS V G e->Sub G F0->3*n+1<=k->abq S f V v tl n (ev k S v e n) (λa sc m=>eN ts sc m a)->HE S.funs f (j9 e ts (h::tl) n)
theorem ro (h:f (.err c)):HE F f (.err c):=#[0, .here h]
variable {h:fz}
theorem j4 {α:Type}{l:Fh α}{x:α}{r:Fh α}(h:l.drop k=x::r):l[k]?=FB x/\l.drop (k+1)=r:=by
 constructor
 ·have:=Gx (λz:Fh α=>z[0]?) h
  simpa using this
 ·have:=Gx (Fh.drop 1) h
  simpa [OJ,K4] using this
theorem pC {α:Type}{l:Fh α}(h:l.drop k=[]):l[k]?=FM:=Jg (by simpa using h)
theorem wH (sb:Sub G F0): ∀(r:Exps) (k n:FH) (ps:Fh Int) (h:fz),(∀j,j<k->EvP S F0 f j)->Ag S V v (h::tl)->nM V G r->3*n+2<=k->(lK l).drop ps.length=lK r->(∀a∈ps,dC a)->
  (match evAll k S v r n with
   | .error c=>f (.err c)
   | .ok (as,m)=>(∀a∈ps++as,dC a)->as.length=(lK r).length->m<=n-> ∀h,Ag S V v (h::tl)->HE S.funs f (.go ((.call g l,ps++as)::ts) (h::tl) m))->HE S.funs f (.go ((.call g l,ps)::ts) (h::tl) n)
 |r,0,n,ps,h,_,_,_,hk,_,_,_=>by lia
 | .nil,k+1,n,ps,h,IH,A,w,hk,hd,bp,q=>by
  unfold evAll at q;have:=q (by rw[GV];exact bp) rfl (FN _) h A;rw[GV] at this;exact this
 | .cons e r,k+1,n,ps,h,IH,A,w,hk,hd,bp,q=>by
  unfold nM at w;unfold evAll at q;dsimp only at q;obtain⟨d1,d2⟩:=j4 hd;refine HE.step (m':=j9 e ((.call g l,ps)::ts) (h::tl) n) (by unfold eD;dsimp only;rw[d1]) (IH k (HQ _) V v G e _ h tl n A w.1 sb (by lia) ?_);cases h1:ev k S v e n with
  |error c=>rw[h1] at q;exact q
  |ok z=>
   obtain⟨a,m1⟩:=z;rw[h1] at q;intro b1 l1 h' A';refine wH sb r k m1 (ps++[a]) h' (λj hj=>IH j (Jw hj)) A' w.2 (by lia) (by rw[FR];exact d2) (λx hx=>?_) ?_
   ·rcases F8.mp hx with z|z
    ·exact bp x z
    ·rw[FW.mp z];exact b1
   ·dsimp only at q
    cases h2:evAll k S v r m1 with
    |error c=>rw[h2] at q;exact q
    |ok z=>
     obtain⟨bs,m2⟩:=z;rw[h2] at q;dsimp only at q ⊢;intro b2 q2 l2 h2 A2;rw[GN] at b2 ⊢;exact q b2 (by show bs.length+1=(lK r).length+1;rw[q2]) (by lia) h2 A2
def rq (ops:Fh Exp) (e:Exp) (ps:Fh Int) (r:Fh dS) (sc:Fh fz) (n:FH):FA Mc:=match ops[ps.length]? with
 |some o=>FB (j9 o ((e,ps)::r) sc n)
 |none=>ps.getLast?.map λa=>eN r sc n a
theorem nH (h:ps.length<=1):lB s ops sgs e ps ts sc n=rq ops e ps ts sc n:=by
 unfold lB;dsimp only;rw[Fs (by lia)]
 rfl
theorem sA {a b:Int}(h:sgs[qs.length]?=FB op):lB s ops sgs e (qs++[a,b]) ts sc n=match fU s op a b with
  | .error c=>FB (.err c)
  | .ok v=>rq ops e (qs++[a,v]) ts sc n:=by
 have l:(qs++[a,b]).length=qs.length+2:=by simp
 unfold lB;dsimp only;rw[l,Fv (by lia),Ng,h,show(qs++[a,b])[qs.length]?=FB a by simp,show qs.length+2-1=qs.length+1 from rfl,show(qs++[a,b])[qs.length+1]?=FB b by simp];dsimp only;rw[show(qs++[a,b]).take (qs.length+1)=qs++[a] by rw[QP,JA (LI _)];simp];cases fU s op a b with
 |error c=>rfl
 |ok v=>dsimp only;rw[GN];rfl
theorem on (hs:s≠2) {a b:Int} :arith op a b n=match fU s op a b with
  | .error c=> .error c
  | .ok d=> .ok (d,n):=by
 have ck: ∀x:Int,checked x n=match checked x 0 with
   | .error c=> .error c
   | .ok (d,_)=> .ok (d,n):=λx=>by unfold checked;split<;>rfl
 have go:arith op a b n=match arith op a b 0 with
   | .error c=> .error c
   | .ok (d,_)=> .ok (d,n):=by
  unfold arith;split
  ·exact ck _
  split
  ·exact ck _
  split
  ·exact ck _
  split
  ·rfl
  split
  ·exact ck _
  ·exact ck _
 rw[go];unfold fU;rw[Fs hs];cases arith op a b 0<;>rfl
theorem mS (hs:s≠2) (hm: ∀ps ts sc n,eD S.funs (.go ((e,ps)::ts) sc n)=lB s ops sgs e ps ts sc n) (sb:Sub G F0): ∀(r:Rest) (k n:FH) (qs:Fh Int) (x:Int) (h:fz),(∀j,j<k->EvP S F0 f j)->Ag S V v (h::tl)->uI L V G r->3*n+2<=k->dC x->
  ops.drop (qs.length+1)=DJ r->sgs.drop qs.length=Ad r->(match V7 k S v x r n with
   | .error c=>f (.err c)
   | .ok (a,m)=>dC a->m<=n-> ∀h,Ag S V v (h::tl)->HE S.funs f (eN ts (h::tl) m a))-> ∃m,rq ops e (qs++[x]) ts (h::tl) n=FB m/\HE S.funs f m
 |r,0,n,qs,x,h,_,_,_,hk,_,_,_,_=>by lia
 | .nil,k+1,n,qs,x,h,IH,A,w,hk,bx,hd,hg,q=>by
  unfold V7 at q;refine#[_,?_,q bx (FN _) h A];unfold rq;rw[FR,show qs.length+[x].length=qs.length+1 from rfl,pC hd];simp
 | .cons op o r,k+1,n,qs,x,h,IH,A,w,hk,bx,hd,hg,q=>by
  unfold uI at w;unfold V7 at q;dsimp only at q;obtain⟨d1,d2⟩:=j4 hd;obtain⟨g1,g2⟩:=j4 hg;refine#[j9 o ((e,qs++[x])::ts) (h::tl) n,by unfold rq;rw[FR,show qs.length+[x].length=qs.length+1 from rfl,d1],IH k (HQ _) V v G o _ h tl n A w.2.1 sb (by lia) ?_];cases h1:ev k S v o n with
  |error c=>rw[h1] at q;exact q
  |ok z=>
   obtain⟨b,m1⟩:=z;rw[h1] at q;intro b1 l1 h' A';dsimp only at q;rw[on hs] at q;have st: ∀m,(match fU s op x b with
     | .error c=>FB (.err c)
     | .ok d=>rq ops e (qs++[x,d]) ts (h'::tl) m1)=FB m->HE S.funs f m->HE S.funs f (eN ((e,qs++[x])::ts) (h'::tl) m1 b):=λm Qi hq=>by
    refine HE.step (m':=m) ?_ hq;show eD S.funs (.go ((e,(qs++[x])++[b])::ts) (h'::tl) m1)=FB m;rw[hm,GN];exact(sA g1).trans Qi
   cases h2:fU s op x b with
   |error c=>
    rw[h2] at q st;exact st _ rfl (ro q)
   |ok d=>
    rw[h2] at q st;dsimp only at q st;have bd:dC d:=by
     have z:=on hs (op:=op) (a:=x) (b:=b) (n:=0);rw[h2] at z;exact(pW z).1
    obtain⟨m,e1,e2⟩:=mS hs hm sb r k m1 (qs++[x]) d h' (λj hj=>IH j (Jw hj)) A' w.2.2 (by lia) bd (by rw[FR];exact d2) (by rw[FR];exact g2) (by
     cases h3:V7 k S v d r m1 with
     |error c=>rw[h3] at q;exact q
     |ok z=>
      rw[h3] at q;intro y1 y2;exact q y1 (by lia))
    rw[GN] at e1;exact st m e1 e2
def evD (s:FH) (k:FH) (S:Scope) (v:Env) (l:Exps) (n:FH):Res Int:=if s=1 then Zo k S v l n else TZ k S v l n
theorem El:evD s (k+1) S v .nil n= .ok (1-mE s,n):=by
 unfold evD mE;split
 ·unfold Zo;rfl
 ·unfold TZ;rfl
theorem oo:evD s (k+1) S v (.cons e r) n=match ev k S v e n with
  | .error c=> .error c
  | .ok (a,m)=>if jo s a=FS then .ok (mE s,m) else evD s k S v r m:=by
 unfold evD mE jo;split
 ·rw[Zo]
  cases ev k S v e n with
  |error c=>rfl
  |ok z=>dsimp only;simp only[beq_iff_eq]
 ·rw[TZ]
  cases ev k S v e n with
  |error c=>rfl
  |ok z=>dsimp only;simp only[bne_iff_ne]
theorem mz (s:FH):dC (mE s)/\dC (1-mE s):=by unfold mE;split<;>decide
theorem qF (hm: ∀ps ts sc n,eD S.funs (.go ((e,ps)::ts) sc n)=o9 s ops e ps ts sc n) (sb:Sub G F0): ∀(l:Exps) (k n:FH) (ps:Fh Int) (h:fz),(∀j,j<k->EvP S F0 f j)->Ag S V v (h::tl)->nM V G l->3*n+2<=k->
  ops.drop ps.length=lK l-> ¬ps.getLast?.any (jo s)=FS->(match evD s k S v l n with
   | .error c=>f (.err c)
   | .ok (a,m)=>dC a->m<=n-> ∀h,Ag S V v (h::tl)->HE S.funs f (eN ts (h::tl) m a))->HE S.funs f (.go ((e,ps)::ts) (h::tl) n)
 |l,0,n,ps,h,_,_,_,hk,_,_,_=>by lia
 | .nil,k+1,n,ps,h,IH,A,w,hk,hd,hp,q=>by
  rw[El] at q;exact HE.step (by rw[hm];unfold o9;rw[Fs hp,pC hd]) (q (mz s).2 (FN _) h A)
 | .cons o r,k+1,n,ps,h,IH,A,w,hk,hd,hp,q=>by
  unfold nM at w;rw[oo] at q;obtain⟨d1,d2⟩:=j4 hd;refine HE.step (by rw[hm];unfold o9;rw[Fs hp,d1]) (IH k (HQ _) V v G o _ h tl n A w.1 sb (by lia) ?_);cases h1:ev k S v o n with
  |error c=>rw[h1] at q;exact q
  |ok z=>
   obtain⟨a,m1⟩:=z;rw[h1] at q;intro b1 l1 h' A';dsimp only at q;by_cases ha:jo s a=FS
   ·rw[Fv ha] at q
    exact HE.step (by show eD S.funs (.go ((e,ps++[a])::ts) _ _)=_;rw[hm];unfold o9;rw[Fv (by simp [ha])]) (q (mz s).1 (by lia) h' A')
   ·rw[Fs ha] at q
    refine qF hm sb r k m1 (ps++[a]) h' (λj hj=>IH j (Jw hj)) A' w.2 (by lia) (by rw[FR];exact d2) (by simp [ha]) ?_;cases h3:evD s k S v r m1 with
    |error c=>rw[h3] at q;exact q
    |ok z=>
     rw[h3] at q;intro y1 y2;exact q y1 (by lia)
def DR (e:Exp) (y:Gv) (b:Exp) (p q:Int) (acc:Fh Int) (r:Fh dS) (sc:Fh fz) (n:FH):Mc:=if p+(acc.length:Int)<=q then(match n with
   |0=> .err (-13)
   |n+1=>j9 b ((e,p::q::acc)::r) (pb sc y (p+(acc.length:Int))) n)
  else eN r sc n (acc.getLast?.getD 0)
theorem qm (h':acc.length<=1):gM e y b p q acc ts (h::tl) n=FB (DR e y b p q acc ts (h::tl) n):=by
 unfold gM DR;dsimp only;rw[Fs (by lia)];dsimp only;split
 ·cases n<;>rfl
 ·rfl
theorem yh:gM e y b p q (acc++[x,z]) ts (h::tl) n=FB (match checked (x+z) 0 with
  | .error c=> .err c
  | .ok (d,_)=>DR e y b p q (acc++[x,d]) ts (h::tl) n):=by
 have l: ∀d,(acc++[x,d]).length=acc.length+2:=λd=>by simp
 unfold gM DR;dsimp only;rw[l,Fv (by lia),Ng,show(acc++[x,z]).getD acc.length 0=x by simp [Ja],show acc.length+2-1=acc.length+1 from rfl,show(acc++[x,z]).getD (acc.length+1) 0=z by simp [Ja],
  show(acc++[x,z]).take (acc.length+1)=acc++[x] by rw[QP,JA (LI _)];simp]
 cases checked (x+z) 0 with
 |error c=>rfl
 |ok d=>
  obtain⟨d,_⟩:=d;dsimp only;rw[l,GN];split
  ·cases n<;>rfl
  ·rfl
theorem vT:checked x n=match checked x 0 with
  | .error c=> .error c
  | .ok (d,_)=> .ok (d,n):=by unfold checked;split<;>rfl
theorem xK (sb:Sub G F0) (ny:y∉V) (bp:dC p) (bq:dC q) (w:WS (y::V) G b): ∀(k n:FH) (acc:Fh Int) (x:Int) (h:fz),(∀j,j<k->EvP S F0 f j)->Ag S V v (h::tl)->3*n+2<=k->dC x->(acc=[]/\x=0\/ ∃qs,acc=qs++[x])->
  (match evSum k S v y (p+(acc.length:Int)) q b x n with
   | .error c=>f (.err c)
   | .ok (a,m)=>dC a->m<=n-> ∀h,Ag S V v (h::tl)->HE S.funs f (eN ts (h::tl) m a))->HE S.funs f (DR (.sum y lo hi b) y b p q acc ts (h::tl) n)
 |0,n,acc,x,h,_,_,hk,_,_,_=>by lia
 |k+1,n,acc,x,h,IH,A,hk,bx,ha,r=>by
  unfold evSum at r;unfold DR;have lx:acc.getLast?.getD 0=x:=by
   rcases ha with⟨e1,e2⟩|⟨qs,e⟩
   ·rw[e1,e2];rfl
   ·rw[e];simp
  by_cases hq:p+(acc.length:Int)<=q
  ·rw[Fv hq]
   rw[Fs (by lia)] at r;cases n with
   |zero=>exact ro r
   |succ n=>
    dsimp only at r ⊢;have bpt:dC (p+(acc.length:Int)):=by unfold dC at *; lia
    refine IH k (HQ _) (y::V) _ G b _ _ tl n (A.set ny bpt) w sb (by lia) ?_;cases h1:ev k S ((y,p+(acc.length:Int))::v) b n with
    |error c=>rw[h1] at r;exact r
    |ok z=>
     obtain⟨z,m1⟩:=z;rw[h1] at r;intro b1 l1 h' A0;have A':Ag S V v (h'::tl):=A0.unset ny A.big λe=>A.low (by rw[e];rfl);dsimp only at r;rw[vT] at r;have go: ∀(as:Fh Int) (d:Int) (hd:dC d) (hl: ∃qs,as=qs++[d]) (hn:as.length=acc.length+1),(match evSum k S v y (p+(acc.length:Int)+1) q b d m1 with
       | .error c=>f (.err c)
       | .ok (a,m)=>dC a->m<=n+1-> ∀h,Ag S V v (h::tl)->HE S.funs f (eN ts (h::tl) m a))->HE S.funs f (DR (.sum y lo hi b) y b p q as ts (h'::tl) m1):=λas d hd hl hn r=>by
      refine xK sb ny bp bq w k m1 as d h' (λj hj=>IH j (Jw hj)) A' (by lia) hd (.inr hl) ?_;rw[show p+(as.length:Int)=p+(acc.length:Int)+1 by rw[hn];lia];cases h3:evSum k S v y (p+(acc.length:Int)+1) q b d m1 with
      |error c=>rw[h3] at r;exact r
      |ok z=>
       rw[h3] at r;intro y1 y2;exact r y1 (by lia)
     show HE S.funs f (.go ((.sum y lo hi b,p::q::(acc++[z]))::ts) (h'::tl) m1)
     rcases ha with⟨e1,e2⟩|⟨qs,e⟩
     ·subst e1 e2
      have cz:checked (0+z) 0= .ok (z,0):=by unfold checked;rw[T1];exact Fv b1
      rw[cz] at r;exact HE.step (m':=DR (.sum y lo hi b) y b p q [z] ts (h'::tl) m1) (qm (acc:=[z]) (FN 1)) (go [z] z b1 #[[],Go] rfl r)
     ·subst e
      have st: ∀m,gM (.sum y lo hi b) y b p q (qs++[x,z]) ts (h'::tl) m1=FB m->HE S.funs f m->HE S.funs f (.go ((.sum y lo hi b,p::q::((qs++[x])++[z]))::ts) (h'::tl) m1):=λm e hm=>HE.step (m':=m) (by rw[GN];exact e) hm
      refine st _ yh ?_;cases h2:checked (x+z) 0 with
      |error c=>rw[h2] at r;exact ro r
      |ok d=>
       obtain⟨d,o⟩:=d;rw[h2] at r;exact go _ d (bQ h2).1 #[qs++[x],by rw[GN];rfl] (by simp) r
  ·rw[Fs hq,lx]
   rw[Fv (by lia)] at r;exact r bx (FN _) h A
theorem abr (FO:gA S F0): ∀k,EvP S F0 f k:=by
 intro k
 induction k using FH.strongRecOn with
 |_ k IH=>
  intro V v G e ts h tl n A w sb hk q;cases k with
  |zero=>lia
  |succ k=>
   cases n with
   |zero=>unfold ev at q;exact ro q
   |succ n=>
    have IH': ∀j,j<k->EvP S F0 f j:=λj hj=>IH j (Jw hj)
    have Ik:EvP S F0 f k:=IH k (HQ _)
    show HE S.funs f (.go ((e,[])::ts) (h::tl) n)
    unfold ev at q;unfold abq at q;cases e with
    |num x=>
     unfold WS at w;exact HE.step rfl (q (by unfold dC BIG;lia) (HQ _) h A)
    |name x=>
     exact HE.step (by unfold eD;dsimp only;rw[A.val x w];rfl) (q (A.big x) (HQ _) h A)
    |call g l=>
     dsimp only at q;unfold WS at w;obtain⟨⟨p,hp,hl⟩,wl⟩:=w;refine wH sb l k n [] h IH' A wl (by lia) rfl (λ_ z=>nomatch z) ?_
     cases h1:evAll k S v l n with
     |error c=>rw[h1] at q;exact q
     |ok z=>
      obtain⟨as,m1⟩:=z;rw[h1] at q;dsimp only at q ⊢;intro b1 q1 l1 h' A';rw[Fh.nil_append] at b1 ⊢;have no:(lK l)[as.length]?=FM:=Jg (Kq q1.symm);rcases FO.all g p (sb g p hp) with⟨fu,hg,hn,⟨Kg,Fg,wg,sg,sf⟩,_,_⟩|⟨hg,hb⟩
      ·rw[hg] at q
       dsimp only at q;have la:fu.2.1.length=as.length:=by rw[hn,<-hl,q1]
       refine HE.step (by unfold eD;dsimp only;rw[no,hg];dsimp only;rw[Fv q1]) (Ik (fu.2.1++Kg) (fu.2.1.zip as++S.consts) Fg fu.2.2 _ _ (h'::tl) m1 ?_ wg sf (by lia) ?_)
       ·have zf: ∀x,vd fu.2.1 as x=((fu.2.1.zip as).find? λa=>a.1 == x).map (·.2):=λ_=>rfl
        refine#[λx hx=>?_,λx hx=>A'.bot x hx,λz=>?_,λx=>?_]
        ·show(match vd fu.2.1 as x with|some a=>FB a|none=>fN (h'::tl) x)=_
         rw[zf,lV];cases z:(fu.2.1.zip as).find? λa=>a.1 == x with
         |some a=>rfl
         |none=>
          refine A'.bot x ?_;rcases F8.mp hx with hx|hx
          ·exfalso
           obtain⟨i,hi,ei⟩:=Fh.getElem_of_mem hx;have hz:=PR.mp z (fu.2.1[i],as[i]'(by lia)) (Fh.mem_iff_getElem.mpr #[i,by rw[W7];lia,by simp]);exact hz (by simp [ei])
          ·exact sg x hx
        ·have:(h'::tl).length+1=1:=z
         rw[FG] at this;lia
        ·rw[lV]
         split
         ·rename_i a ha
          exact b1 _ (Lr (KY ha)).2
         ·exact FO.ahO x
       ·cases h2:ev k S (fu.2.1.zip as++S.consts) fu.2.2 m1 with
        |error c=>rw[h2] at q;exact q
        |ok z=>
         obtain⟨b,m2⟩:=z;rw[h2] at q;intro b2 l2 h2 A2;have no2:(lK l)[(as++[b]).length]?=FM:=Jg (by rw[FR,q1];exact Ka _ _);refine HE.step (m':=eN ts (h'::tl) m2 b) ?_ (q b2 (by lia) h' A');show eD S.funs (.go ((.call g l,as++[b])::ts) _ _)=_;unfold eD;dsimp only;rw[no2,hg];dsimp only;rw[Fs (by rw[FR,q1];exact FH.succ_ne_self _),<-q1,Fh.getElem?_concat_length]
         rfl
      ·rw[hg] at q
       exact HE.step (by unfold eD;dsimp only;rw[no,hg];dsimp only;rw[Fv q1]) (q (pU b1) (by lia) h' A')
    |neg e=>
     dsimp only at q;unfold WS at w;refine HE.step rfl (Ik V v G e _ h tl n A w sb (by lia) ?_);cases h1:ev k S v e n with
     |error c=>rw[h1] at q;exact q
     |ok z=>
      rw[h1] at q;intro b1 l1 h' A';exact HE.step rfl (q (wM b1) (by lia) h' A')
    |not e=>
     dsimp only at q;unfold WS at w;refine HE.step rfl (Ik V v G e _ h tl n A w sb (by lia) ?_);cases h1:ev k S v e n with
     |error c=>rw[h1] at q;exact q
     |ok z=>
      rw[h1] at q;intro b1 l1 h' A';exact HE.step rfl (q (gJ _) (by lia) h' A')
    |sums e r=>
     dsimp only at q;unfold WS at w;refine HE.step rfl (Ik V v G e _ h tl n A w.1 sb (by lia) ?_);cases h1:ev k S v e n with
     |error c=>rw[h1] at q;exact q
     |ok z=>
      obtain⟨x,m1⟩:=z;rw[h1] at q;intro b1 l1 h' A';obtain⟨m,e1,e2⟩:=mS (s:=3) (e:= .sums e r) (ops:=e::DJ r) (sgs:=Ad r) [01] (λ_ _ _ _=>rfl) sb r k m1 [] x h' IH' A' w.2.2 (by lia) b1 rfl rfl (by
       dsimp only at q;cases h3:V7 k S v x r m1 with
       |error c=>rw[h3] at q;exact q
       |ok z=>rw[h3] at q;intro y1 y2;exact q y1 (by lia))
      exact HE.step ((nH (s:=3) (sgs:=Ad r) (ps:=[x]) (FN 1)).trans e1) e2
    |prods e r=>
     dsimp only at q;unfold WS at w;refine HE.step rfl (Ik V v G e _ h tl n A w.1 sb (by lia) ?_);cases h1:ev k S v e n with
     |error c=>rw[h1] at q;exact q
     |ok z=>
      obtain⟨x,m1⟩:=z;rw[h1] at q;intro b1 l1 h' A';obtain⟨m,e1,e2⟩:=mS (s:=4) (e:= .prods e r) (ops:=e::DJ r) (sgs:=Ad r) [01] (λ_ _ _ _=>rfl) sb r k m1 [] x h' IH' A' w.2.2 (by lia) b1 rfl rfl (by
       dsimp only at q;cases h3:V7 k S v x r m1 with
       |error c=>rw[h3] at q;exact q
       |ok z=>rw[h3] at q;intro y1 y2;exact q y1 (by lia))
      exact HE.step ((nH (s:=4) (sgs:=Ad r) (ps:=[x]) (FN 1)).trans e1) e2
    |cmp op x y=>
     dsimp only at q;unfold WS at w;refine HE.step rfl (Ik V v G x _ h tl n A w.2.1 sb (by lia) ?_);cases h1:ev k S v x n with
     |error c=>rw[h1] at q;exact q
     |ok z=>
      obtain⟨p,m1⟩:=z;rw[h1] at q;intro b1 l1 h' A';refine HE.step rfl (Ik V v G y _ h' tl m1 A' w.2.2 sb (by lia) ?_);dsimp only at q;cases h2:ev k S v y m1 with
      |error c=>rw[h2] at q;exact q
      |ok z=>
       rw[h2] at q;intro b2 l2 h2 A2;exact HE.step rfl (q (gJ _) (by lia) h2 A2)
    |both e l=>
     dsimp only at q;unfold WS at w;refine qF (s:=1) (λ_ _ _ _=>rfl) sb (.cons e l) (k+1) n [] h (λj hj=>IH j hj) A (by unfold nM;exact#[w.1,w.2.2]) (by lia) rfl (by simp) ?_;rw[oo];cases h1:ev k S v e n with
     |error c=>rw[h1] at q;exact q
     |ok z=>
      obtain⟨x,m1⟩:=z;rw[h1] at q;dsimp only at q ⊢;by_cases hx:x=0
      ·rw[Fv hx] at q
       rw[Fv (show jo 1 x=FS by simp [jo,hx])];intro y1 y2;exact q y1 (by lia)
      ·rw[Fs hx] at q
       rw[Fs (show¬jo 1 x=FS by simp [jo,hx])];show match Zo k S v l m1 with| .error c=>_| .ok (a,m)=>_
       cases h3:Zo k S v l m1 with
       |error c=>rw[h3] at q;exact q
       |ok z=>rw[h3] at q;intro y1 y2;exact q y1 (by lia)
    |either e l=>
     dsimp only at q;unfold WS at w;refine qF (s:=0) (λ_ _ _ _=>rfl) sb (.cons e l) (k+1) n [] h (λj hj=>IH j hj) A (by unfold nM;exact#[w.1,w.2.2]) (by lia) rfl (by simp) ?_;rw[oo];cases h1:ev k S v e n with
     |error c=>rw[h1] at q;exact q
     |ok z=>
      obtain⟨x,m1⟩:=z;rw[h1] at q;dsimp only at q ⊢;by_cases hx:x≠0
      ·rw[Fv hx] at q
       rw[Fv (show jo 0 x=FS by simp [jo,hx])];intro y1 y2;exact q y1 (by lia)
      ·rw[Fs hx] at q
       rw[Fs (show¬jo 0 x=FS by simp [jo,hx])];show match TZ k S v l m1 with| .error c=>_| .ok (a,m)=>_
       cases h3:TZ k S v l m1 with
       |error c=>rw[h3] at q;exact q
       |ok z=>rw[h3] at q;intro y1 y2;exact q y1 (by lia)
    |pick c x y=>
     dsimp only at q;unfold WS at w;refine HE.step rfl (Ik V v G c _ h tl n A w.1 sb (by lia) ?_);cases h1:ev k S v c n with
     |error c=>rw[h1] at q;exact q
     |ok z=>
      obtain⟨p,m1⟩:=z;rw[h1] at q;intro b1 l1 h' A';dsimp only at q;by_cases hp:p≠0
      ·rw[Fv hp] at q
       refine HE.step (m':=j9 x ((.pick c x y,[p])::ts) (h'::tl) m1) (by show FB (j9 (if p≠0 then x else y) _ _ _)=_;rw[Fv hp];rfl) (Ik V v G x _ h' tl m1 A' w.2.1 sb (by lia) ?_)
       cases h2:ev k S v x m1 with
       |error c=>rw[h2] at q;exact q
       |ok z=>
        rw[h2] at q;intro b2 l2 h2 A2;exact HE.step rfl (q b2 (by lia) h2 A2)
      ·rw[Fs hp] at q
       refine HE.step (m':=j9 y ((.pick c x y,[p])::ts) (h'::tl) m1) (by show FB (j9 (if p≠0 then x else y) _ _ _)=_;rw[Fs hp];rfl) (Ik V v G y _ h' tl m1 A' w.2.2 sb (by lia) ?_)
       cases h2:ev k S v y m1 with
       |error c=>rw[h2] at q;exact q
       |ok z=>
        rw[h2] at q;intro b2 l2 h2 A2;exact HE.step rfl (q b2 (by lia) h2 A2)
    |sum y lo hi b=>
     dsimp only at q;unfold WS at w;refine HE.step rfl (Ik V v G lo _ h tl n A w.2.1 sb (by lia) ?_);cases h1:ev k S v lo n with
     |error c=>rw[h1] at q;exact q
     |ok z=>
      obtain⟨p,m1⟩:=z;rw[h1] at q;intro b1 l1 h' A';refine HE.step rfl (Ik V v G hi _ h' tl m1 A' w.2.2.1 sb (by lia) ?_);dsimp only at q;cases h2:ev k S v hi m1 with
      |error c=>rw[h2] at q;exact q
      |ok z=>
       obtain⟨r,m2⟩:=z;rw[h2] at q;intro b2 l2 h2 A2;dsimp only at q;refine HE.step (m':=DR (.sum y lo hi b) y b p r [] ts (h2::tl) m2) (qm (acc:=[]) (F6 1)) (xK sb w.1 b1 b2 w.2.2.2 k m2 [] 0 h2 IH' A2 (by lia) [01] (.inl #[Go,Go]) ?_);show match evSum k S v y (p+0) r b 0 m2 with| .error c=>_| .ok (a,m)=>_
       rw[Int.add_zero];cases h3:evSum k S v y p r b 0 m2 with
       |error c=>rw[h3] at q;exact q
       |ok z=>rw[h3] at q;intro y1 y2;exact q y1 (by lia)
end
end OS
namespace OS
open Vbemac
def WSx (F0:Fh (Gv×FH)) (e:Exp):Prop:= ∃V G,WS V G e/\Sub G F0
structure DD (F0:Fh (Gv×FH)) (t:dS):Prop where
 ws:WSx F0 t.1
 ps: ∀x∈t.2,dC x
def zF (sc:Fh fz):Prop:= ∀s∈sc,∀y x,s y=FB x->dC x
def Gd (F0:Fh (Gv×FH)):Mc->Prop
 | .go ts sc n=>(∀t∈ts,DD F0 t)/\zF sc/\sc.length+n<=10001
 | .done x sc n=>dC x/\zF sc/\sc.length+n<=10001
 | .err _=>True
theorem fR (h: ∀t∈ts,DD F0 t) (g:zF sc) (b:dC x) (sn:sc.length+n<=10001):Gd F0 (eN ts sc n x):=by
 cases ts with
 |nil=>exact#[b,g,sn]
 |cons t r=>
  refine#[λu hu=>?_,g,sn];rcases FF.mp hu with z|z
  ·have:=h t (Fy ..)
   rw[z];refine#[this.ws,λy hy=>?_];rcases F8.mp hy with hy|hy
   ·exact this.ps y hy
   ·rw[FW.mp hy];exact b
  ·exact h u (Fx _ z)
theorem fC (h: ∀t∈ts,DD F0 t) (g:zF sc) (w:WSx F0 e) (sn:sc.length+n<=10002):Gd F0 (j9 e ts sc n):=by
 cases n with
 |zero=>trivial
 |succ n=>
  refine#[λu hu=>?_,g,by lia];rcases FF.mp hu with z|z
  ·rw[z];exact#[w,λy hy=>nomatch hy]
  ·exact h u z
theorem my {V:Fh Gv}{G:Fh (Gv×FH)} : ∀ {l:Exps}{e:Exp},nM V G l->e∈lK l->WS V G e
 | .nil,_,_,h=>nomatch h
 | .cons a l,e,w,h=>by
  unfold nM at w;rcases FF.mp h with z|z
  ·rw[z];exact w.1
  ·exact my w.2 z
theorem rE {L:Fh String}{V:Fh Gv}{G:Fh (Gv×FH)} : ∀ {r:Rest}{e:Exp},uI L V G r->e∈DJ r->WS V G e
 | .nil,_,_,h=>nomatch h
 | .cons op a l,e,w,h=>by
  unfold uI at w;rcases FF.mp h with z|z
  ·rw[z];exact w.2.1
  ·exact rE w.2.2 z
theorem Cw (h: ∀t∈(e,ps)::ts,DD F0 t) (g:zF sc) (sn:sc.length+n<=10001) (w: ∀o∈ops,WSx F0 o) (hm:o9 s ops e ps ts sc n=FB m):Gd F0 m:=by
 have h': ∀t∈ts,DD F0 t:=λt ht=>h t (Fx _ ht)
 unfold o9 at hm;split at hm
 ·cases hm;exact fR h' g (mz s).1 sn
 ·split at hm
  ·rename_i o ho
   cases hm;exact fC h g (w o (Hg ho)) (by lia)
  ·cases hm;exact fR h' g (mz s).2 sn
theorem uo {a b v:Int}(h:fU s op a b= .ok v):dC v:=by
 unfold fU at h;split at h
 ·cases h;exact gJ _
 ·split at h
  ·cases h
  ·rename_i e
   cases h;exact(pW e).1
theorem vK (h: ∀t∈(e,ps)::ts,DD F0 t) (g:zF sc) (sn:sc.length+n<=10001) (w: ∀o∈ops,WSx F0 o) (hm:lB s ops sgs e ps ts sc n=FB m):Gd F0 m:=by
 have h': ∀t∈ts,DD F0 t:=λt ht=>h t (Fx _ ht)
 have h0:=h (e,ps) (Fy ..)
 have go: ∀qs:Fh Int,(∀x∈qs,dC x)->(match ops[qs.length]? with
   |some o=>FB (j9 o ((e,qs)::ts) sc n)
   |none=>qs.getLast?.map λa=>eN ts sc n a)=FB m->Gd F0 m:=λqs hq hm=>by
  split at hm
  ·rename_i o ho
   cases hm;refine fC (λt ht=>?_) g (w o (Hg ho)) (by lia);rcases FF.mp ht with z|z
   ·rw[z];exact#[h0.ws,hq]
   ·exact h' t z
  ·obtain⟨x,hx,rfl⟩:=Gs.mp hm
   exact fR h' g (hq x (Mq hx)) sn
 unfold lB at hm;dsimp only at hm;split at hm
 ·cases hm
 ·cases hm;trivial
 ·rename_i qs he
  refine go qs (λx hx=>?_) hm;split at he
  ·split at he
   ·rename_i op a b _ ha hb
    have he:=FL he;split at he
    ·cases he
    ·rename_i v hv
     cases he;rcases F8.mp hx with hx|hx
     ·exact h0.ps x (Ur hx)
     ·rw[FW.mp hx];exact uo hv
   ·cases he
  ·cases he;exact h0.ps x hx
theorem Bu (g:zF sc) (b:dC x):zF (pb sc y x):=by
 cases sc with
 |nil=>exact g
 |cons s r=>
  intro t ht z v hv;unfold pb at ht;rcases FF.mp ht with e|e
  ·rw[e] at hv
   dsimp only at hv;split at hv
   ·cases hv;exact b
   ·exact g s (Fy ..) z v hv
  ·exact g t (Fx _ e) z v hv
theorem Ef (h: ∀t∈(e,p::q::acc)::ts,DD F0 t) (g:zF sc) (sn:sc.length+n<=10001) (w:WSx F0 b) (hm:gM e y b p q acc ts sc n=FB m):Gd F0 m:=by
 have h': ∀t∈ts,DD F0 t:=λt ht=>h t (Fx _ ht)
 have h0:=h (e,p::q::acc) (Fy ..)
 have hp:dC p:=h0.ps p (Fy ..)
 have hq:dC q:=h0.ps q (Fx _ (Fy ..))
 have ha: ∀x∈acc,dC x:=λx hx=>h0.ps x (Fx _ (Fx _ hx))
 unfold gM at hm;dsimp only at hm;split at hm
 ·cases hm;trivial
 ·rename_i as he
  have hs: ∀x∈as,dC x:=λx hx=>by
   split at he
   ·split at he
    ·cases he
    ·rename_i v _ hv
     cases he;rcases F8.mp hx with hx|hx
     ·exact ha x (Ur hx)
     ·rw[FW.mp hx];exact(bQ hv).1
   ·cases he;exact ha x hx
  split at hm
  ·rename_i hle
   cases n with
   |zero=>cases hm;trivial
   |succ n=>
    cases sc with
    |nil=>cases hm
    |cons s0 sc=>
    cases hm;refine fC (λt ht=>?_) (Bu g (by unfold dC at *; lia)) w (by show(s0::sc).length+n<=10002;lia);rcases FF.mp ht with z|z
    ·rw[z]
     refine#[h0.ws,λx hx=>?_];rcases FF.mp hx with z|hx
     ·rw[z];exact hp
     ·rcases FF.mp hx with z|hx
      ·rw[z];exact hq
      ·exact hs x hx
    ·exact h' t z
  ·cases hm
   refine fR h' g ?_ sn;cases z:as.getLast? with
   |none=>show dC 0;decide
   |some x=>exact hs x (Mq z)
theorem ET (FO:gA S F0) {m m':Mc}(h:Gd F0 m) (hm:eD S.funs m=FB m'):Gd F0 m':=by
 cases m with
 |done x sc n=>cases hm
 |err c=>cases hm
 |go ts sc n=>
  cases ts with
  |nil=>cases hm
  |cons t ts=>
   obtain⟨e,ps⟩:=t;obtain⟨h,g,sn⟩:=h;have h': ∀t∈ts,DD F0 t:=λt ht=>h t (Fx _ ht)
   have h0:=h (e,ps) (Fy ..);obtain⟨V,G,w,sb⟩:=h0.ws;unfold eD at hm;cases e with
   |num x=>cases hm;unfold WS at w;exact fR h' g (by unfold dC BIG;lia) sn
   |name x=>
    obtain⟨v,hv,rfl⟩:=Gs.mp hm;refine fR h' g ?_ sn;unfold look at hv;cases sc with
    |nil=>cases hv
    |cons s r=>
     split at hv
     ·rename_i a ha
      cases hv;exact g s (Fy ..) x v ha
     ·unfold fN at hv
      rw[RL] at hv;cases z:(s::r).getLast? with
      |none=>rw[z] at hv;cases hv
      |some t=>rw[z] at hv;exact g t (Mq z) x v hv
   |call f l=>
    dsimp only at hm;unfold WS at w;split at hm
    ·rename_i o ho
     cases hm;exact fC h g #[V,G,my w.2 (Hg ho),sb] (by lia)
    ·split at hm
     ·split at hm
      ·cases hm;exact fR h' g (pU h0.ps) sn
      ·cases hm
     ·rename_i fu hf
      obtain⟨⟨p,hp,hl⟩,wl⟩:=w;split at hm
      ·cases hm
       rcases FO.all f p (sb f p hp) with⟨g',hg,hn,⟨Kg,Fg,wg,sg,sf⟩,_,_⟩|⟨hg,_⟩
       ·rw[hf] at hg
        cases hg;refine fC h (λs hs y x hx=>?_) #[_,Fg,wg,sf] (by rw[FG];lia);rcases FF.mp hs with z|z
        ·rw[z] at hx
         obtain⟨a,ha,rfl⟩:=Gs.mp hx;exact h0.ps _ (Lr (KY ha)).2
        ·exact g s z y x hx
       ·rw[hf] at hg;cases hg
      ·cases sc with
       |nil=>cases hm
       |cons s0 sc=>
       obtain⟨v,hv,rfl⟩:=Gs.mp hm;exact fR h' (λs hs=>g s (Fx _ hs)) (h0.ps v (Hg hv)) (by rw[FG] at sn;lia)
   |neg e=>
    unfold WS at w;cases ps with
    |nil=>cases hm;exact fC h g #[V,G,w,sb] (by lia)
    |cons b r=>cases hm;exact fR h' g (wM (h0.ps b (Fy ..))) sn
   |not e=>
    unfold WS at w;cases ps with
    |nil=>cases hm;exact fC h g #[V,G,w,sb] (by lia)
    |cons b r=>cases hm;exact fR h' g (gJ _) sn
   |sums e r=>
    unfold WS at w;refine vK h g sn (λo ho=>?_) hm;rcases FF.mp ho with z|z
    ·rw[z];exact#[V,G,w.1,sb]
    ·exact#[V,G,rE w.2.2 z,sb]
   |prods e r=>
    unfold WS at w;refine vK h g sn (λo ho=>?_) hm;rcases FF.mp ho with z|z
    ·rw[z];exact#[V,G,w.1,sb]
    ·exact#[V,G,rE w.2.2 z,sb]
   |cmp op x y=>
    unfold WS at w;refine vK h g sn (λo ho=>?_) hm;rcases FF.mp ho with z|z
    ·rw[z];exact#[V,G,w.2.1,sb]
    ·rw[FW.mp z];exact#[V,G,w.2.2,sb]
   |both e l=>
    unfold WS at w;refine Cw h g sn (λo ho=>?_) hm;rcases FF.mp ho with z|z
    ·rw[z];exact#[V,G,w.1,sb]
    ·exact#[V,G,my w.2.2 z,sb]
   |either e l=>
    unfold WS at w;refine Cw h g sn (λo ho=>?_) hm;rcases FF.mp ho with z|z
    ·rw[z];exact#[V,G,w.1,sb]
    ·exact#[V,G,my w.2.2 z,sb]
   |pick c x y=>
    unfold WS at w;dsimp only at hm;split at hm
    ·cases hm;exact fC h g #[V,G,w.1,sb] (by lia)
    ·rename_i p
     cases hm;refine fC h g ?_ (by lia);split
     ·exact#[V,G,w.2.1,sb]
     ·exact#[V,G,w.2.2,sb]
    ·rename_i v
     cases hm;exact fR h' g (h0.ps _ (Fx _ (Fy ..))) sn
    ·cases hm
   |sum y lo hi b=>
    unfold WS at w;dsimp only at hm;split at hm
    ·cases hm;exact fC h g #[V,G,w.2.1,sb] (by lia)
    ·cases hm;exact fC h g #[V,G,w.2.2.1,sb] (by lia)
    ·exact Ef h g sn #[y::V,G,w.2.2.2,sb] hm
end OS
namespace OS
open PySem PySem.Spec L2
open PyProof.Rows hiding St
variable {P:Gh}{w:GR}{K:Fm}{mg:FY->FA Fp}{base:Ha}{a:bi}
abbrev IsZ (h:Ha) (z TI TO T:Fq) (b:GA):Prop:=
 h.get? z=FB { cls:= .type "zip",dict:=FM,data:= .fields [Ob T, .bool b, .bool Gc, .ref TI, .ref TO].toArray,slots:= [].toArray }
section
variable {prog:Gh}{A:Hc}{E:Fp->Fw->Prop}{s:Fw}{z TI TO T i1 i2 l1 l2:Fq}{b:GA}{k1 k2:FH}{xs ys:JE Fp}{x y:Fp}{oT:Jh}
theorem Cl {a:Fq}{Q:FA Jh->Fw->Prop}(h:Q (s.heap.get? a) s):F4 (model prog w) A (loadIfAlive a) Q E s:=λΓ p _=>by
 unfold loadIfAlive;rw[PySem.Sem.wp_loadIfAlive];exact h
theorem AL {Q:GA->Fw->Prop}(hz:IsZ s.heap z TI TO T b) (hT:s.heap.get? T=FB oT) (hQ: ∀h',IsZ h' z TI TO T FS->MT z s.heap h'->Q Gc { s with heap:=h' }):F4 (model prog w) A (Nc (.ref z)) Q E s:=by
 unfold Nc;refine FI (wpAny_field hz rfl (x:=Ob T) rfl ?_);refine FI (Cl ?_);rw[show((T:Int)).toNat=T from rfl,hT];refine FI (wpAny_field hz rfl (x:= .bool b) rfl ?_);cases b with
 |true=>exact FI (Gb (Gb (hQ _ hz #[Go,λ_ _=>rfl])))
 |false=>exact FI (wpAny_setField_rec hz (by simp) λh' hz' hs=>Gb (hQ h' hz' hs))
theorem AA (hh:A.handled=FM) (D:Xc z TI TO i1 i2 l1 l2) (hz:IsZ s.heap z TI TO T b) (hT:s.heap.get? T=FB oT) (Uk:RT s.heap TI (.ref i1) (.ref i2))
  (h1:s.heap.IsListIter i1 l1 k1) (h2:s.heap.IsListIter i2 l2 k1) (U1:s.heap.IsList l1 xs) (UU:s.heap.IsList l2 ys) {Q:FA Fp->Fw->Prop}
  (hE:xs[k1]?=FM-> ∀h',(∀c o,c≠z->c≠i1->s.heap.get? c=FB o->h'.get? c=FB o)->Q FM { s with heap:=h' })
  (hQ: ∀x,xs[k1]?=FB x-> ∃y,ys[k1]?=FB y/\ ∀h',IsZ h' z TI TO T FS->h'.IsListIter i1 l1 (k1+1)->h'.IsListIter i2 l2 (k1+1)->RT h' s.heap.objs.size x y->h'.objs.size=s.heap.objs.size+1->
   (∀c o,c≠z->c≠i1->c≠i2->s.heap.get? c=FB o->h'.get? c=FB o)->Q (FB (.ref s.heap.objs.size)) { s with heap:=h' }):
  F4 (model prog w) A (RR (.ref z)) Q E s:=by
 have hTy:s.TypeIs (.ref z) "zip":=#[_,hz,Go];unfold RR;refine FI (wpAny_attempt (wpAny_callSpecial?_slot (name:=FY.ofString "__next__") hTy F.slot_zip_next (wpAny_call_entry F.slot_zip_next hTy F.entry_zip_next ?_ (F.args_zip_next_1 _))))
 show F4 _ _ (field (.ref z) 2>>=_) _ _ _
 refine FI (wpAny_field hz rfl (x:= .bool Gc) rfl ?_);show F4 _ _ (field (.ref z) 3>>=_) _ _ _;refine FI (wpAny_field hz rfl (x:= .ref TI) rfl ?_);refine FI (wpAny_seqItems Uk rfl ?_);refine FI (AL hz hT λh₁ hz₁ XM=>?_);refine FI ?_;simp only[<-JE.forIn_toList,W6,RB];refine FI (FI (Oa ?_));show F4 _ _ (OD (.ref i1)>>=_) _ _ _;cases hx:xs[k1]? with
 |none=>
  refine FI (wpAny_nextOf_list_end hh (h1.extBut XM.extBut D.i1z) (U1.extBut XM.extBut D.l1z) hx λh₂ e hs₂ he=>?_);obtain⟨o,ho,hc⟩:=he;exact FI (wpAny_isInstance (T:="StopIteration") (b:=FS) #[o,ho,hc] isSubtype_stop (Gb (hE hx _ λc o n1 n2 e=>hs₂ _ _ n2 (XM.extBut _ _ n1 e))))
 |some x=>
  obtain⟨y,hy,hQ⟩:=hQ x hx;refine FI (VP (h1.extBut XM.extBut D.i1z) (U1.extBut XM.extBut D.l1z) hx λh₂ h1₂ hs₂=>Gb (Gb (FI (FI (Oa ?_)))));show F4 _ _ (OD (.ref i2)>>=_) _ _ _;refine FI (VP ((h2.extBut XM.extBut D.i2z).extBut hs₂.extBut D.i12.symm) ((UU.extBut XM.extBut D.l2z).extBut hs₂.extBut D.l2i1) hy λh₃ h2₃ hs₃=>Gb (Gb (Gb (FI (wpAny_newTuple (hsz:=by show 2<=Gk;decide) (Gb #[_,Go,Gb ?_]))))));have hsz:h₃.objs.size=s.heap.objs.size:=by rw[hs₃.1,hs₂.1,XM.1]
  have up: ∀ {c:Fq}{o:Jh}{q:Jh},h₃.get? c=FB o->(h₃.push q).get? c=FB o:=λe=>FJ _ e
  rw[hsz];exact hQ _ (up (hs₃.extBut _ _ D.i2z.symm (hs₂.extBut _ _ D.i1z.symm hz₁))) ((h1₂.extBut hs₃.extBut D.i12).at λo e=>up e) (h2₃.at λo e=>up e) (by show Ha.get? _ _=_;rw[<-hsz];exact Hk _ rfl) (by rw[HY,hsz]) λc o n1 n2 n3 e=>up (hs₃.extBut _ _ n3 (hs₂.extBut _ _ n2 (XM.extBut _ _ n1 e)))
theorem o4:HZ (.type "zip") "keys"=pure FM:=am_miss_of_fast [00]
theorem lg:HZ (.type "zip") "__getattr__"=pure FM:=am_miss_of_fast [00]
theorem qL:entryFor table "zip.__getattribute__"=FB Builtin.«object.__getattribute__»:=
 entryFor_alias (id':="object.__getattribute__") (by kernel_rfl) [00] [00] (by kernel_rfl)
theorem abt (a:Fq) (vs:JE Fp) (u:Tok):
  Meets (Builtin.«object.__getattribute__» #[[.ref a, .str "keys" u],[]]) (λA R s=>s.heap.get? a=FB { cls:= .type "zip",dict:=FM,data:= .fields vs,slots:= [].toArray } /\raisesAttr (.ref a) "keys" A R s):=
 Meets.of_wp λprog w A R s hs=>by
  obtain⟨hp,g,d,tk,os⟩:=s;obtain⟨hx,hs⟩:=hs;have hT:(⟨hp,g,d,tk,os⟩:Fw).TypeIs (.ref a) "zip":=#[_,hx,Go];have amN:=o4;unfold Builtin.«object.__getattribute__»
  repeat (any_goals (first|assumption|wp_step))
  exact wpAny_raiseAttrError hs.1 hs.2 (attrMsg_fits [00] [00])
theorem CF {a:Fq}{vs:JE Fp}{Q:FA Fp->Fw->Prop}(hx:s.heap.get? a=FB { cls:= .type "zip",dict:=FM,data:= .fields vs,slots:= [].toArray }) (hA:A.handled=FM)
  (h: ∀h' tk,(∀b ob,s.heap.get? b=FB ob->h'.get? b=FB ob)->Q FM { s with heap:=h',toks:=tk }):F4 (model prog w) A (getAttr? (.ref a) "keys") Q E s:=by
 obtain⟨hp,g,d,tk,os⟩:=s;have hT: ∀Uh,(⟨hp,g,d,Uh,os⟩:Fw).TypeIs (.ref a) "zip":=λ_=>#[_,hx,Go]
 have f1:=sub_AttributeError
 have f3:=L6.lookup
 have f4:=L6.bind (.ref a)
 have f5:=lg;unfold getAttr? getAttrBy? getAttrBy
 repeat (any_goals (first|assumption|exact hT _|((with_reducible show F4 _ _ (call (Mg "zip.__getattribute__") _ _) _ _ _);refine call_meets L6 (hT _) qL (PySem.F.args_zip_getattribute_2 _ _) (abt a vs _) #[hx,hA,λh' Uh e hx'=>?_])|wp_step))
 obtain⟨t',u',he⟩:=hx'.there;show F4 _ _ (Zh _ _ _ _ _ _ _) _ _ _;unfold Zh
 repeat (any_goals (first|assumption|wp_step))
 all_goals first|exact h _ _ hx'.keeps|(dsimp only;repeat (any_goals (first|assumption|exact h _ _ hx'.keeps|wp_step)))
end
section
variable {prog:Gh}{A:Hc}{E:Fp->Fw->Prop}{s:Fw}{z TI TO T i1 i2 l1 l2:Fq}{b:GA}{k1 k2:FH}{xs ys:JE Fp}{x y:Fp}{oT:Jh}
def ZS (S z TI TO i1 i2:Fq) (h:Ha):Prop:=(IsZip h z TI TO .none/\ ∃x y,RT h TO x y)\/ ∃T oT b,IsZ h z TI TO T b/\h.get? T=FB oT/\T≠S/\T≠z/\T≠i1/\T≠i2
abbrev Fr (s:Ha) (l:Fh Fq) (h':Ha):Prop:= ∀c o,c∉l->s.get? c=FB o->h'.get? c=FB o
theorem w6 (hh:A.handled=FM) (D:Xc z TI TO i1 i2 l1 l2) (hz:ZS S z TI TO i1 i2 s.heap) (Uk:RT s.heap TI (.ref i1) (.ref i2)) (hS:S<s.heap.objs.size)
  (h1:s.heap.IsListIter i1 l1 k1) (h2:s.heap.IsListIter i2 l2 k1) (U1:s.heap.IsList l1 xs) (UU:s.heap.IsList l2 ys) {Q:FA Fp->Fw->Prop}
  (hE:xs[k1]?=FM-> ∀h',Fr s.heap [z,TO,i1,i2] h'->Q FM { s with heap:=h' })
  (hQ: ∀x,xs[k1]?=FB x-> ∃y,ys[k1]?=FB y/\ ∀h',ZS S z TI TO i1 i2 h'->h'.IsListIter i1 l1 (k1+1)->h'.IsListIter i2 l2 (k1+1)->RT h' s.heap.objs.size x y->Fr s.heap [z,TO,i1,i2] h'->Q (FB (.ref s.heap.objs.size)) { s with heap:=h' }):
  F4 (model prog w) A (RR (.ref z)) Q E s:=by
 have lt: ∀ {c:Fq}{o:Jh},s.heap.get? c=FB o->s.heap.objs.size≠c:=λe=>LU (F7 e)
 have fr: ∀ {h':Ha},(∀c o,c≠z->c≠TO->c≠i1->c≠i2->s.heap.get? c=FB o->h'.get? c=FB o)->Fr s.heap [z,TO,i1,i2] h':=λk c o n e=>by
  simp only[FF,HP,or_false,V6] at n;exact k c o n.1 n.2.1 n.2.2.1 n.2.2.2 e
 have j1:s.heap.objs.size≠i1:=by obtain⟨_,e,_⟩:=h1;exact lt e
 have j2:s.heap.objs.size≠i2:=by obtain⟨_,e,_⟩:=h2;exact lt e
 rcases hz with⟨hz,x0,y0,hTO⟩|⟨T,oT,b,hz,hT,n1,n2,n3,n4⟩
 ·cases hx:xs[k1]? with
  |none=>exact wpAny_pyNext_zip_end hh D hz Uk hTO h1 h2 U1 UU (.inl hx) λh' k=>hE hx h' (fr k)
  |some x=>
   obtain⟨y,hy,hQ⟩:=hQ x hx;exact wpAny_pyNext_zip_item D hz Uk hTO h1 h2 U1 UU hx hy λh' a1 a2 a3 a4 a5 a6 k=>hQ h' (.inr #[_,_,Gc,a1,a5,LU hS,lt hz,j1,j2]) a3 a4 a5 (fr k)
 ·refine AA hh D hz hT Uk h1 h2 U1 UU (λe h' k=>hE e h' (fr λc o m1 _ m3 _=>k c o m1 m3)) λx hx=>?_
  obtain⟨y,hy,hQ⟩:=hQ x hx;exact#[y,hy,λh' a1 a3 a4 a5 a6 k=>hQ h' (.inr #[T,oT,FS,a1,k _ _ n2 n3 n4 hT,n1,n2,n3,n4]) a3 a4 a5 (fr λc o m1 _ m3 m4=>k c o m1 m3 m4)]
theorem Dl {R:Result->Fw->Prop}(hh:A.handled=FM) (D:Xc z TI TO i1 i2 l1 l2) (nS:S∉[z,TO,i1,i2,TI,l1,l2]):
  ∀(rest:Fh (be×Fp)) (k:FH) (acc:Fh (be×Fp)) (ix:Int) (t:Tok) (s:Fw),xs.size=k+rest.length->acc.length+rest.length<=Gk->
   (∀(j:FH) (q:be×Fp),rest[j]?=FB q-> ∃u,xs[k+j]?=FB u/\ys[k+j]?=FB q.2/\jq q.1 u=FS)->
   ZS S z TI TO i1 i2 s.heap->RT s.heap TI (.ref i1) (.ref i2)->s.heap.IsListIter i1 l1 k->s.heap.IsListIter i2 l2 k->s.heap.IsList l1 xs->s.heap.IsList l2 ys->s.heap.DictOf (aW prog w) S acc->
   (∀h' tk,h'.DictOf (aW prog w) S (merged acc rest)->Fr s.heap [S,z,TO,i1,i2] h'->R (.ok (.ret res)) { s with heap:=h',toks:=tk })->
   LO (model prog w) A (.builtin "dict.update.loop" #[[.ref S, .ref z, .int ix t,res],[]]) R s:=by
 simp only[FF,HP,or_false,V6] at nS;obtain⟨Sz,STO,Si1,Si2,STI,Sl1,Sl2⟩:=nS;intro rest
 induction rest with
 |nil=>
  intro k acc ix t s hsz hln ht hz Uk h1 h2 U1 UU hm hR;refine codeAny_builtin rW ?_;rw[Tj iY _];show F4 _ A.in1 (RR (.ref z)>>=_) _ _ s;refine FI (w6 (A:=A.in1) hh D hz Uk (by obtain⟨_,_,_,e,_⟩:=hm;exact F7 e) h1 h2 U1 UU (λ_ h' f=>?_) λx hx=>?_)
  ·show F4 _ A.in1 (Builtin.Dict.addKeywords S []>>=_) _ _ _
   refine FI (Gb (Gb ?_));exact hR h' s.toks (hm.at λo e=>f _ o (by simp [Sz,STO,Si1,Si2]) e) λc o n e=>f c o (λz=>n (Fx _ z)) e
  ·rw[JE.getElem?_eq_none (show xs.size<=k from Kq hsz)] at hx
   cases hx
 |cons q rest ih=>
  intro k acc ix t s hsz hln ht hz Uk h1 h2 U1 UU hm hR;obtain⟨u,hb,hb2,hk⟩:=ht 0 q rfl;rw[FG] at hsz hln;have hS:S<s.heap.objs.size:=by obtain⟨_,_,_,e,_⟩:=hm;exact F7 e
  refine codeAny_builtin rW ?_;rw[Tj iY _];show F4 _ A.in1 (RR (.ref z)>>=_) _ _ s;refine FI (w6 (A:=A.in1) hh D hz Uk hS h1 h2 U1 UU [015] λx hx=>#[_,hb2,λh' z' i1' i2' pr f=>?_])
  ·rw[show xs[k]?=FB u from hb] at e;cases e
  cases (show xs[k]?=FB u from hb).symm.trans hx;have gs: ∀ {c:Fq}{o:Jh},c∉[z,TO,i1,i2]->s.heap.get? c=FB o->h'.get? c=FB o:=λn e=>f _ _ n e
  have hm1:h'.DictOf (aW prog w) S acc:=hm.at λo e=>gs (by simp [Sz,STO,Si1,Si2]) e
  show F4 _ A.in1 (holding [F9 s.heap.objs.size] _>>=_) _ _ _
  refine FI (Oa ?_);refine FI (wpAny_tryCatch ?_);unfold Builtin.Dict.pairItems;refine FI (VU (T:="tuple") #[_,pr,Go] ?_);rw[Fv (by first|decide|rfl|simp)]
  refine FI (wpAny_seqItems pr rfl (Gb ?_));show F4 _ A.in1 (holding [u,q.2] (dictSet S u q.2)) _ _ _;refine Oa (wpAny_dictSet_pairs (knd:=aW prog w) (k:=q.1) hk hm1 (λh2' hm2 VL=>?_) (by lia));have up: ∀ {c:Fq}{o:Jh},c≠S->h'.get? c=FB o->h2'.get? c=FB o:=λn e=>VL.extBut _ _ n e
  refine Gb #[plainId_quiet iY _,ih (k+1) (stored acc q.1 q.2) (ix+1) 0 _ (show xs.size=k+1+rest.length by lia) ?_ (λj q' e=>?_) ?_ ?_ ?_ ?_ ?_ ?_ hm2 λh3 tk XF k3=>?_]
  ·have z:=stored_length_le acc q.1 q.2
   lia
  ·rw[show k+1+j=k+(j+1) by lia]
   exact ht (j+1) q' e
  ·rcases z' with⟨a1,x0,y0,a2⟩|⟨T,oT,b,a1,a2,n1,n2,n3,n4⟩
   ·exact .inl #[up (IV Sz) a1,x0,y0,up (IV STO) a2]
   ·exact .inr #[T,oT,b,up (IV Sz) a1,up n1 a2,n1,n2,n3,n4]
  ·exact up (IV STI) (gs (by simp [D.TIz,D.TITO,D.TIi1,D.TIi2]) Uk)
  ·exact i1'.at λo e=>up (IV Si1) e
  ·exact i2'.at λo e=>up (IV Si2) e
  ·exact U1.at λo e=>up (IV Sl1) (gs (by simp [D.l1z,D.l1TO,D.l1i1,D.l1i2]) e)
  ·exact UU.at λo e=>up (IV Sl2) (gs (by simp [D.l2z,D.l2TO,D.l2i1,D.l2i2]) e)
  ·exact hR h3 tk XF λc o n e=>k3 c o n (up (λz=>n (by rw[z];exact Fy)) (gs (λz=>n (Fx _ z)) e))
theorem o0 {Q:Fp->Fw->Prop}(hh:A.handled=FM) (D:Xc z TI TO i1 i2 l1 l2) (hz:IsZip s.heap z TI TO .none) (hTO:RT s.heap TO x y) (Uk:RT s.heap TI (.ref i1) (.ref i2))
  (h1:s.heap.IsListIter i1 l1 0) (h2:s.heap.IsListIter i2 l2 0) (U1:s.heap.IsList l1 xs) (UU:s.heap.IsList l2 ys) (hsz:xs.size=oX.length) (hln:oX.length<=Gk)
  (ht: ∀(j:FH) (q:be×Fp),oX[j]?=FB q-> ∃u,xs[j]?=FB u/\ys[j]?=FB q.2/\jq q.1 u=FS)
  (h: ∀h' tk,h'.DictOf (aW prog w) s.heap.objs.size (merged [] oX)->Fr s.heap [z,TO,i1,i2] h'->Q (.ref s.heap.objs.size) { s with heap:=h',toks:=tk }):
  F4 (model prog w) A (call (.type "dict") [.ref z]) Q E s:=by
 refine callType_codes (Q₁:=λobj s₁=>obj= .ref s.heap.objs.size/\s₁= { s with heap:=s.heap.push { cls:= .type "dict",data:= .dict [].toArray } }) PySem.F.kt_called_dict (PySem.F.kt_typeCall_dict_1 _) PySem.F.entry_dict_init (kt_code_dict_new _ #[Go,Go]) ?_;rintro obj s₁ ⟨rfl,rfl⟩;have abu:(s.heap.push { cls:= .type "dict",data:= .dict [].toArray }).DictOf (aW prog w) s.heap.objs.size []:=TF s.heap;have k0: ∀ {b:Fq}{o:Jh},s.heap.get? b=FB o->(s.heap.push { cls:= .type "dict",data:= .dict [].toArray }).get? b=FB o:=λe=>FJ _ e
 refine#[abu.typeIs,PySem.F.args_dict_init_2 _ _,?_];unfold Builtin.«dict.__init__»;refine FI ?_;unfold Builtin.Dict.selfAndRest;refine FI (wpAny_notOrdered_dict abu.typeIs ?_);show F4 _ _ (pure (s.heap.objs.size,[F9 z])) _ _ _;refine Gb ?_;show F4 _ _ (QH "dict.__init__" s.heap.objs.size (.ref z) [] .none) _ _ _;unfold QH;refine FI (VU (T:="zip") #[_,k0 hz,Go] ?_);rw[Fv (by first|decide|rfl|simp)]
 refine FI (CF (k0 hz) hh λh1' tk1 hk1=>?_);rw[Fv (show(FM:FA Fp).isNone=FS from rfl)];refine FI (wpAny_rule ?_);have up: ∀ {b:Fq}{o:Jh},s.heap.get? b=FB o->h1'.get? b=FB o:=λe=>hk1 _ _ (k0 e)
 refine FI (wpAny_pyIter_zip (up hz) ?_);have ne: ∀ {b:Fq}{o:Jh},s.heap.get? b=FB o->s.heap.objs.size≠b:=λe=>LU (F7 e)
 have key:=Dl (prog:=prog) (w:=w) (A:=A.in1) (R:=wants (λr s₂=>r= .none/\Q (.ref s.heap.objs.size) s₂) E) (S:=s.heap.objs.size) (res:=Ih) (xs:=xs) (ys:=ys) hh D
  (by
   obtain⟨_,e1,_⟩:=h1;obtain⟨_,e2,_⟩:=h2;obtain⟨_,e3,_⟩:=U1;obtain⟨_,e4,_⟩:=UU;simp only[FF,HP,or_false,V6];exact#[ne hz,ne hTO,ne e1,ne e2,ne Uk,ne e3,ne e4]) oX 0 [] 0 0 { s with heap:=h1',toks:=tk1 } (by rw[hsz,K5]) (by rw[Ku,K5];exact hln)
  (λj q e=>by rw[K5];exact ht j q e) (.inl #[up hz,_,_,up hTO]) (up Uk) (h1.at λo e=>up e) (h2.at λo e=>up e) (U1.at λo e=>up e) (UU.at λo e=>up e) (abu.at λo e=>hk1 _ _ e)
  (λh' tk XF k=>#[Go,h h' tk XF λb o n e=>k b o (λz=>(FF.mp z).elim (λz=>ne e z.symm) n) (up e)])
 first
  |exact Gb #[plainId_quiet iY _,key]
  |exact FI (Gb (Gb #[plainId_quiet iY _,key]))
end
section
variable {X:Cx}
theorem Dv {P:Gh}{w:GR} : ∀ {aC:Fh (be×V)}{HR Sk:Fh Fp},a8 (aC.map λq=>kV q.1) HR->a8 (aC.map (·.2)) Sk-> ∃oX:Fh (be×Fp),KV aC oX/\ ∀(j:FH) (q:be×Fp),oX[j]?=FB q-> ∃u,HR[j]?=FB u/\Sk[j]?=FB q.2/\jq q.1 u=FS
 |[],_,_,h1,h2=>by cases h1;cases h2;exact#[[], .nil,λj q e=>by simp at e]
 |kv::aC,_,_, .cons (b:=u) a1 r1, .cons (b:=y) a2 r2=>by
  obtain⟨oX,r,hp⟩:=Dv (P:=P) (w:=w) r1 r2;refine#[(kv.1,y)::oX, .cons #[Go,a2] r,λj q e=>?_];cases j with
  |zero=>cases e;exact#[u,Go,Go,nA (P:=P) (w:=w) a1]
  |succ j=>exact hp j q e
theorem uQ {e e2:HM}{ta:TA}{p p' pos NK:Pos}(hc:X.calm=FS) (hg:Gl X "zip") (hm:X.mg "zip"=FM) (hg':Gl X "dict") (Qi:X.mg "dict"=FM) (ha:PA X [e,e2] ta)
  (hs:FU [e,e2] X.env=[001]::FU [e2] X.env) (M3:(Jf pos (FU [e2] X.env)).any (·.1)=Gc):
  PE X (.Call (.Name "dict" p') [.Call (.Name "zip" p) [e,e2] [] pos] [] NK) (λσ H Q=>ta σ H λvs H1=> ∃(a b:Fq) (aC:Fh (be×V)),vs=[.ref a, .ref b]/\cw X.K H1 a (aC.map λq=>kV q.1)/\cw X.K H1 b (aC.map (·.2))/\ ∀d,H1 d=FM->Q (.ref d) (aF H1 d (.dK (fO [] aC)))):=by
 rw[01];refine Call_ (kT I hg' Qi (show Lo "dict"=FB (.type "dict") by decide+kernel) (J9 ?_ rfl rfl));show F4 _ _ (spliced [(Gc,_)]) _ _ s;refine Lq (Call_ (kT I hg hm zG (J9 (b9 (ha pos pins s σ H _ I h) λus s1 ⟨vs,H1,I1,r1,q1⟩=>?_) hs M3)));obtain⟨a,b,aC,ex,hqx,hqy,q⟩:=q1;subst ex;cases r1 with
 |cons r rr=>
  cases rr with
  |cons r' rr=>
   cases rr;cases r;cases r';obtain⟨HR,rv,p1,hz⟩:=I1.list hqx;obtain⟨Sk,rv2,p2,_⟩:=I1.list hqy;have hi:HR.length=aC.length:=by rw[<-rv.length,FE]
   refine call_zip_2 p1.isList p2.isList λh' hz' Uk hTO h1 h2 hsz hk=>LL ?_;obtain⟨oX,rel,hp⟩: ∃oX:Fh (be×Fp),KV aC oX/\ ∀(j:FH) (q:be×Fp),oX[j]?=FB q-> ∃u,HR[j]?=FB u/\Sk[j]?=FB q.2/\jq q.1 u=FS:=Dv (P:=X.prog) (w:=X.w) rv rv2;have pl:oX.length=aC.length:=rel.length.symm;refine o0 (oX:=oX) (I1.ok.hd hc) (PySem.W.ktu_apart s1.heap.objs.size a b p1.lt p2.lt) hz' hTO Uk h1 h2 (p1.isList.at λo e=>hk _ _ e) (p2.isList.at λo e=>hk _ _ e) (by simp [hi,pl]) (by rw[pl,<-hi,<-rv.length];exact hz) (λj q' e=>by simpa using hp j q' e) λh2' tk XF k=>?_;have le:s1.heap.objs.size<=h'.objs.size:=by rw[hsz];exact Ka _ _
   have hm:(h'.objs.size == IQ)=Gc:=beq_eq_false_iff_ne.mpr (LU (Ge I1.big le))
   have NJ:(fO [] aC).length<=Gk:=by
    refine FV (gB aC []) ?_;rw[Ku,K5,<-hi,<-rv.length];exact hz
   refine#[.ref h'.objs.size,aF H1 h'.objs.size (.dK (fO [] aC)),I1.laid (t':=tk) (λc o e=>k c o (λz=>?_) (hk c o e)) le (show cy X.prog X.w _ _ _ (.dK (fO [] aC)) from#[NJ,hm,merged [] oX,KV.merge rel .nil,XF]),Go,q _ (I1.IF.fresh le)];have:=F7 e;simp only[FF,HP,or_false] at z;lia
end
def Rfs (C:Fq) (E:XK) (H:Hp) (c:Int):Prop:= ∀d,H d=FM->E (.ref C) (FB d) (aF H d (cn d (EC c)))
def xcl (a:bi):Fh (Int×Fq):=[(-11,a.JI),(-12,a.Lk),(-13,a.KN),(-14,a.KO),(-15,a.JJ),(-16,a.LX)]
def pj (a:bi) (E:XK) (H:Hp) (c:Int):Prop:= ∀C,(c,C)∈xcl a->Rfs C E H c
def gC (c:Int):Fh V->Fh (FY×V)->Prop:=λus fs=>us=[]/\fs=EC c
theorem okI {x Hl:FY}{st:Stmt}{f C:Fq}{fd:Gz}{c:Int}(F:oY K x Hl st f fd) (S:ay ["self"] ["self"] (af st))
  (h: ∀(Hb:Fp) (A:Hc) (outer:Fh Env) (s:Fw) (H:Hp) (p:Fq) (Q:VK),bZ 1 (A.deeper [011])->dU C ahJ [.ref p, .int c] H Q E0->Bd (fi ye P w K mg base ["self"] Hl (af st) f Hb A outer s H E0).nox (bf st) { nx:=λ_ H'=>Q .IX H',rt:=Q } [FB (.ref p)] H):
  bV P w K mg base ye 2 f fd ["self"] (dU C (gC c)):=by
 refine F.ok S (λvs H Q E h=>?_) (λHb A outer s H vs Q E hr z=>?_)
 ·obtain⟨p,us,fs,rfl,⟨rfl,rfl⟩,_⟩:=h
  rfl
 ·obtain⟨p,us,fs,rfl,⟨rfl,rfl⟩,hp,q⟩:=z
  exact h Hb A outer s H p Q hr #[p,_,_,Go,#[c,Go,Go],hp,q]
theorem iz (T:aU K mg a) (XC:XW K a):T.d_O.U P w mg base 2 (dU a.JI (gC (-11))):=
 okI T.d_O.F alj λHb A outer s H p Q hr q=>#[_,ah (bj (fj (by rfl) T.Ib XC.rm (bP T XC.Mn) hr T.WU.c.b .nil aT (aa (pv 0) (aa (dO cK ak) ag)))),_,Go,q]
theorem lC (T:aU K mg a) (XC:XW K a):T.d_P.U P w mg base 2 (dU a.Lk (gC (-12))):=
 okI T.d_P.F alk λHb A outer s H p Q hr q=>#[_,ah (bj (fj (by rfl) T.Ib XC.rm (bP T XC.O5) hr T.WU.c.b .nil aT (aa (pv 0) (aa (dO cK ak) ag)))),_,Go,q]
theorem jy (T:aU K mg a) (XC:XW K a):T.ZM.U P w mg base 2 (dU a.KN (gC (-13))):=
 okI T.ZM.F agw λHb A outer s H p Q hr q=>#[_,ah (bj (fj (by rfl) T.Ib XC.rm (bP T XC.NW) hr T.WU.c.b .nil aT (aa (pv 0) (aa (dO cK ak) ag)))),_,Go,q]
theorem jA (T:aU K mg a) (XC:XW K a):T.ZN.U P w mg base 2 (dU a.KO (gC (-14))):=
 okI T.ZN.F agx λHb A outer s H p Q hr q=>#[_,ah (bj (fj (by rfl) T.Ib XC.rm (bP T XC.NX) hr T.WU.c.b .nil aT (aa (pv 0) (aa (dO cK ak) ag)))),_,Go,q]
theorem iu (T:aU K mg a) (XC:XW K a):T.ZO.U P w mg base 2 (dU a.JJ (gC (-15))):=
 okI T.ZO.F agy λHb A outer s H p Q hr q=>#[_,ah (bj (fj (by rfl) T.Ib XC.rm (bP T XC.Mo) hr T.WU.c.b .nil aT (aa (pv 0) (aa (dO cK ak) ag)))),_,Go,q]
theorem lh (T:aU K mg a) (XC:XW K a):T.ZP.U P w mg base 2 (dU a.LX (gC (-16))):=
 okI T.ZP.F agz λHb A outer s H p Q hr q=>#[_,ah (bj (fj (by rfl) T.Ib XC.rm (bP T XC.O6) hr T.WU.c.b .nil aT (aa (pv 0) (aa (dO cK ak) ag)))),_,Go,q]
def wkF (t:Int) (fa sl tl:Fq) (r:V):Fh (FY×V):=[("taken", .int t),("functions", .ref fa),("scopes", .ref sl),("tasks", .ref tl),("result",r)]
def xG (v:V) (p:Fq):Fh (FY×V):=[("exp",v),("parts", .ref p)]
structure qh where
 wk:Fq
 dw:Fq
 fa:Fq
 sl:Fq
 tl:Fq
 z:FH
structure tW where
 M:Fq->Prop
 H:Hp
structure oW where
 t:Fq
 p:Fq
 d:Fq
 v:V
 ps:Fh Int
abbrev rP:=Fq×Fh (be×V)
def tkC (a:bi):Fh oW->Fh kW
 |[]=>[]
 |u::us=>(u.t, .ins a.MK u.d (xG u.v u.p))::(u.p, .lst (u.ps.map V.int))::tkC a us
def scC (ds:Fh rP):Fh kW:=ds.map λd=>(d.1, .dK d.2)
abbrev wkL (a:bi) (c:qh) (n:FH) (r:V) (ff:Fh (be×V)) (ds:Fh rP) (us:Fh oW):Fh kW:=
 (c.wk, .ins a.HN c.dw (wkF (10000-(n:Int)) c.fa c.sl c.tl r))::(c.tl, .lst (us.map λu=>V.ref u.t).reverse)::(c.sl, .lst (ds.map λd=>V.ref d.1).reverse)::(c.fa, .dK ff)::(tkC a us++scC ds)
def D7 (a:bi) (B:tW) (F:JP) (ff:Fh (be×V)):Prop:=ff.length<=F.length/\ ∀f,(match F.find? λg=>g.1 == f with
  |some g=> ∃v,bO ff (nk f)=FB v/\e9 a B.M B.H (.func g.1 g.2.1 g.2.2) v
  |none=>bO ff (nk f)=FM)
def abv (b:FH) (d:rP) (s:fz):Prop:=(∀u,bO d.2 (nk u)=(s u).map V.int)/\d.2.length<=b
def al1 (a:bi) (B:tW) (u:oW) (t:dS):Prop:=aw a B.M B.H t.1 u.v/\u.ps=t.2
structure Bn (z b:FH) (ts:Fh dS) (sc:Fh fz) (n:FH):Prop where
 VM:n<=10000
 tl: ∀i t,ts[i]?=FB t->t.2.length+i+n<=10000
 sl:sc.length+n<=10002
 b6:6<=b
 bn:b+5*n<=z
 zl:z<=60000
structure eV (a:bi) (B:tW) (H:Hp) (c:qh) (F:JP) (r:V) (b:FH) (ff:Fh (be×V)) (ds:Fh rP) (us:Fh oW) (ts:Fh dS) (sc:Fh fz) (n:FH):Prop where
 O:Ow B.H (wkL a c n r ff ds us) H
 fn:D7 a B F ff
 sq:Paired (abv b) ds sc
 tk:Paired (al1 a B) us ts
 bn:Bn c.z b ts sc n
inductive Wk (a:bi) (B:tW) (H:Hp) (c:qh) (F:JP) (r:V) (b:FH) (ts:Fh dS) (sc:Fh fz) (n:FH):Prop
 |mk {ff:Fh (be×V)}{ds:Fh rP}{us:Fh oW}(_:eV a B H c F r b ff ds us ts sc n):Wk a B H c F r b ts sc n
def ox (a:bi) (B:tW) (c:qh) (F:JP) (N:Hp->Prop) (E:XK):Mc->Prop
 | .err k=> ∀H',aS B.H H'->pj a E H' k
 | .go ts sc n=> ∀H' r b,Wk a B H' c F r b ts sc n->N H'
 | .done x sc n=> ∀H' b,Wk a B H' c F (.int x) b [] sc n->N H'
theorem Bn.mono {z b m n:FH}{ts:Fh dS}{sc:Fh fz}(h:Bn z b ts sc n) (hm:m<=n):Bn z b ts sc m:=#[by have:=h.VM;lia,λi t e=>by have:=h.tl i t e;lia,by have:=h.sl;lia,h.b6,by have:=h.bn;lia,h.zl]
theorem Bn.len {z b n:FH}{ts:Fh dS}{sc:Fh fz}(h:Bn z b ts sc n):ts.length+n<=10001:=by
 cases e:ts[ts.length-1]? with
 |none=>have:=Fh.getElem?_eq_none_iff.mp e;have:=h.VM;lia
 |some t=>have:=h.tl _ t e;lia
theorem bJ.fld {M:Fq->Prop}{B H:Hp}{K:Fm}{Q:VK}(i:bJ M B C fs v) (s:aS B H) (cl:gG K C) (no:au K C f) (hl:fs.lookup f=FB u) (q:Q u H):dE K f Q v H:=by
 obtain⟨p,dx,rfl,_,h⟩:=i;exact#[p,C,dx,_,u,Go,s _ _ h,cl,no,hl,q]
section
variable {H H':Hp}{Q:VK}
theorem eV.fld (W:eV a B H c F r b ff ds us ts sc n) (T:aU K mg a) (no:au K a.HN f) (hl:(wkF (10000-(n:Int)) c.fa c.sl c.tl r).lookup f=FB u) (q:Q u H):dE K f Q (.ref c.wk) H:=#[c.wk,_,c.dw,_,u,Go,W.O.get 0 rfl,T.Iq,no,hl,q]
theorem eV.own (W:eV a B H c F r b ff ds us ts sc n) (hm:m<=n) (h:H' c.wk=FB (.ins a.HN c.dw (wkF (10000-(m:Int)) c.fa c.sl c.tl r'))) (k: ∀b u,H b=FB u->b≠c.wk->H' b=FB u):eV a B H' c F r' b ff ds us ts sc m:=#[W.O.set (L1:=[]) h k,W.fn,W.sq,W.tk,W.bn.mono hm]
theorem eV.tl (W:eV a B H c F r b ff ds us ts sc n):H c.tl=FB (.lst (us.map λu=>V.ref u.t).reverse):=W.O.get 1 rfl
theorem eV.tl1 (W:eV a B H c F r b ff ds (u::us) ts sc n):H c.tl=FB (.lst ((us.map λu=>V.ref u.t).reverse++[V.ref u.t])):=by
 rw[<-GZ];exact W.tl
theorem eV.ins (W:eV a B H c F r b ff ds us ts sc n):H c.wk=FB (.ins a.HN c.dw (wkF (10000-(n:Int)) c.fa c.sl c.tl r)):=W.O.get 0 rfl
end
inductive oz (a:bi) (vs:Fh V) (H:Hp) (Q:VK) (E:XK):Prop
 |mk {B:tW}{c:qh}{F:JP}{r:V}{b:FH}{ff:Fh (be×V)}{ds:Fh rP}{us:Fh oW}{ts:Fh dS}{sc:Fh fz}{n:FH}(_:vs=[.ref c.wk]) (_:eV a B H c F r b ff ds us ts sc n) (_:n=0->pj a E H (-13)) (_: ∀m,n=m+1-> ∀H',eV a B H' c F r b ff ds us ts sc m->Q .IX H'):oz a vs H Q E
theorem h8 (T:aU K mg a) (XC:XW K a):T.We.O P w mg base 4 (oz a):=by
 refine fS T.We.F agF [03] [02];obtain @⟨B,c,F,r,b,ff,ds,us,ts,sc,n,rfl,W,h0,h1⟩:=h;refine bI (jw (ci (bD 0 (W.fld T T.Mj rfl #[_,aQ (by rfl) T.Sb,_,_,Go,Go,df [015] λe=>?_])) rfl))
 ·exact aR (eT d8 XC.NW (jy T XC) hr (by rfl) T.OO T.ZM.c.b) #[F6 _,_,#[Go,Go],h0 (by lia) _ (.tail _ (.tail _ (.head _)))]
 ·obtain⟨m,rfl⟩: ∃m,n=m+1:=#[n-1,by have:=W.bn.VM;lia]
  refine eu (gR (pv 0) ak oh) #[c.wk,_,c.dw,_,_,Go,W.ins,T.Iq,T.Mj,Go,_,_,Go,Go,c.dw,_,W.ins,(by show 5<1000;decide),h1 m rfl _ (W.own (LI m) ?_ ow)];rw[ae,show(10000:Int)-(m:Int)=10000-((m+1:FH):Int)+1 by lia]
  rfl
section
variable {H H':Hp}
theorem eV.push (W:eV a B H c F r b ff ds us ts sc n) (ev:aw a B.M B.H e v) (hx:H x=FM) (hp:H p=FM) (ne:p≠x) (k:aS H H') (h1:H' x=FB (.ins a.MK dx (xG v p))) (h2:H' p=FB (.lst [])) (b1:Bn c.z b ts sc (n+1)):
  eV a B (aF H' c.tl (.lst ((us.map λu=>V.ref u.t).reverse++[.ref x]))) c F r b ff ds (#[x,p,dx,v,[]]::us) ((e,[])::ts) sc n:=by
 have O:=W.O.adds (N:=[(x, .ins a.MK dx (xG v p)),(p, .lst [])]) k (λy hy=>by
  rcases FF.mp hy with z|hy
  ·rw[z];exact#[hx,h1]
  ·rw[FW.mp hy];exact#[hp,h2]) (Gu.mpr #[λz=>ne (FW.mp z).symm,Gu.mpr #[nofun, .nil]])
 have O:=(O.perm ((Fh.perm_append_comm (l₁:=[_,_]) (l₂:=[_,_,_,_])).append_right _)).put (L1:=[_]) (o':= .lst ((us.map λu=>V.ref u.t).reverse++[.ref x]))
 rw[<-GZ] at O ⊢;refine#[O,W.fn,W.sq, .cons #[ev,Go] W.tk,W.bn.VM,λi t e=>?_,W.bn.sl,W.bn.b6,W.bn.bn,W.bn.zl];cases i with
 |zero=>cases e;have:=b1.VM;show 0+0+n<=10000;lia
 |succ i=>have:=b1.tl i t e;lia
theorem eV.pop (W:eV a B H c F r b ff ds (u::us) (t::ts) sc n):eV a B (aF H c.tl (.lst (us.map λu=>V.ref u.t).reverse)) c F r b ff ds us ts sc n:=by
 cases W.tk with
 |cons _ tk=>exact#[(W.O.put (L1:=[_])).sub (.cons₂ _ (.cons₂ _ (.cons₂ _ (.cons₂ _ (.cons _ (.cons _ (.refl _))))))),W.fn,W.sq,tk,W.bn.VM,λi t e=>by have:=W.bn.tl (i+1) t e;lia,W.bn.sl,W.bn.b6,W.bn.bn,W.bn.zl]
theorem eV.parts (W:eV a B H c F r b ff ds (u::us) ((e,u.ps)::ts) sc n) (h:H' u.p=FB (.lst (ps.map V.int))) (k: ∀b o,H b=FB o->b≠u.p->H' b=FB o) (hl:ps.length+n<=10000):eV a B H' c F r b ff ds ({ u with ps:=ps } ::us) ((e,ps)::ts) sc n:=by
 cases W.tk with
 |cons h1 tk=>
  refine#[W.O.set (L1:=[_,_,_,_,_]) h k,W.fn,W.sq, .cons #[h1.1,Go] tk,W.bn.VM,λi t e=>?_,W.bn.sl,W.bn.b6,W.bn.bn,W.bn.zl];cases i with
  |zero=>cases e;exact hl
  |succ i=>exact W.bn.tl (i+1) t e
theorem eV.grow (W:eV a B H c F r b ff ds us ts sc n) (k:aS H H'):eV a B H' c F r b ff ds us ts sc n:=#[W.O.grow k,W.fn,W.sq,W.tk,W.bn]
theorem eV.scs (W:eV a B H c F r b ff ds us ts sc n) (h:d∈ds):H d.1=FB (.dK d.2):=(W.O.at_ (d.1, .dK d.2) (.tail _ (.tail _ (.tail _ (.tail _ (Ht _ (LP.mpr #[d,h,Go]))))))).1
theorem lY {α β:Type}{F:α->β->Prop} : ∀ {l:Fh α}{m:Fh β}{y:β},Paired F l m->m.getLast?=FB y-> ∃x,l.getLast?=FB x/\F x y
 |_,_,_, .nil,h=>by cases h
 |[x],[y],_, .cons r .nil,h=>by cases h;exact#[x,Go,r]
 |_::x::l,_::y::m,z, .cons r (.cons s t),h=>by
  rw[SI] at h;rw[SI];exact lY (.cons s t) h
theorem dZ {α β:Type}{F G:α->β->Prop} : ∀ {l:Fh α}{m:Fh β},Paired F l m->(∀x y,F x y->G x y)->Paired G l m
 |_,_, .nil,_=> .nil
 |_,_, .cons h t,g=> .cons (g _ _ h) (dZ t g)
end
inductive Bv (a:bi) (vs:Fh V) (H:Hp) (Q:VK) (_E:XK):Prop
 |mk (t dt:Fq) (v:V) (_:vs=[.ref t,v]) (_:H t=FB (.ins a.MK dt [])) (_: ∀(p:Fq) (H':Hp),H p=FM->p≠t->H' t=FB (.ins a.MK dt (xG v p))->H' p=FB (.lst [])->(∀b o,H b=FB o->b≠t->H' b=FB o)->Q .IX H'):Bv a vs H Q _E
theorem qD (T:aU K mg a):T.ZU.U P w mg base 1 (Bv a):=by
 refine T.ZU.F.ok agD [03] [02];obtain⟨t,dt,v,rfl,ht,q⟩:=h;refine aR (b4 (pv 0) (pv 1) rfl) #[t,_,dt,_,Go,ht,T.PH,T.QC,FH.zero_lt_succ _,eu (b4 (pv 0) (hZ ag) rfl) #[F6 _,λp hp=>?_]];have np:p≠t:=λz=>by rw[z,ae] at hp;cases hp
 rw[ac np] at hp;exact#[t,_,dt,_,Go,(by rw[ac np.symm,ae]),T.PH,T.Nl,(by show 1<1000;decide),q p _ hp np ae (by rw[ac np,ae]) λb o e nb=>by rw[ac nb,ac (ai e hp),ac nb];exact e]
inductive xj (a:bi) (vs:Fh V) (H:Hp) (Q:VK) (E:XK):Prop
 |mk {B:tW}{c:qh}{F:JP}{r:V}{b:FH}{ff:Fh (be×V)}{ds:Fh rP}{us:Fh oW}{ts:Fh dS}{sc:Fh fz}{n:FH}{e:Fz}{v:V}(_:vs=[.ref c.wk,v]) (_:eV a B H c F r b ff ds us ts sc n) (_:aw a B.M B.H e v) (_:ox a B c F (Q .IX) E (j9 e ts sc n)):xj a vs H Q E
theorem tD (T:aU K mg a) (XC:XW K a):T.Xi.O P w mg base 5 (xj a):=by
 refine fS T.Xi.F agI [03] [02];obtain @⟨B,c,F,r,b,ff,ds,us,ts,sc,n,e,v,rfl,W,ev,g⟩:=h;refine aR (bj (bS (pv 0) T.Iq T.We.c (h8 T XC) hr aA)) #[c.wk,c.dw,_,Go,W.ins,Go, .mk rfl W (λz=>?_) λm z H1 W1=>?_]
 ·rw[z] at g
  exact g H W.O.same
 ·subst z
  refine iP [000] (λ_ q=>W1.fld T T.Jc rfl q) W1.tl #[_,g7 T.XE (qD T) [07] (by rfl) T.Xg T.ZU.c.b .nil aT (aa (pv 1) ag),λx dx hx Vo ne=>#[x,dx,v,Go,ae,λp H2 hp np h1 h2 k=>#[Go,?_]]];have hp:=hp;rw[ac np] at hp;have pd:p≠dx:=λz=>by rw[z,ae] at hp;cases hp
  rw[ac pd] at hp;have sm:aS H1 H2:=λb o e=>k b o (by rw[ac (ai e hx),ac (ai e Vo)];exact e) (ai e hx);exact#[_,sm _ _ W1.tl,by rw[GS,FE,aV W1.tk,Im];have:=W1.bn.len;lia,cf (g _ r b #[W1.push ev hx hp np sm h1 h2 W.bn])]
inductive rZ (a:bi) (vs:Fh V) (H:Hp) (Q:VK) (E:XK):Prop
 |mk {B:tW}{c:qh}{F:JP}{r:V}{b:FH}{ff:Fh (be×V)}{ds:Fh rP}{u:oW}{us:Fh oW}{t:dS}{ts:Fh dS}{sc:Fh fz}{n:FH}{x:Int}(_:vs=[.ref c.wk, .int x]) (_:eV a B H c F r b ff ds (u::us) (t::ts) sc n) (_:ox a B c F (Q .IX) E (eN ts sc n x)):rZ a vs H Q E
theorem yQ (T:aU K mg a):T.ZX.U P w mg base 1 (rZ a):=by
 refine T.ZX.F.ok agJ [03] [02];obtain @⟨B,c,F,r,b,ff,ds,u,us,t,ts,sc,n,x,rfl,W,g⟩:=h;have tl:=W.tl1;refine bF #[_,Ap ID Sr Ss Ai [000],W.fld T T.Jc rfl #[.inl #[Go,_,cw.of tl],c.tl,_, .ref u.t,Go,Go,tl,by simp,?_]];rw[Us];have W1:=W.pop;have tk:=W1.tk;have ul:=aV tk;refine cx (cU gk (iH T.J8 W1.tl [000] (λ_ q=>W1.fld T T.Jc rfl q) (cM #[_,_,Go,Go,_,Go,?_])));rw[GS,FE];cases tk with
 |nil=>exact bM (eu (b4 (pv 0) (pv 1) rfl) #[c.wk,_,c.dw,_,Go,W1.ins,T.Iq,T.LZ,(by show 5<1000;decide),g _ b #[W1.own (FN n) ae ow]])
 | @cons v t1 us ts h tk=>
  obtain⟨e1,ps⟩:=t1;obtain rfl:v.ps=ps:=h.2;refine df (λ_=>?_) λz=>FP z (by rw[FG];lia);have hp:=W1.O.get 5 rfl;have b1:=W.bn.tl 1 _ rfl;refine eu (bj (sj ID KZ K0 jc (aj (cN bG [000] (dO cK ak) [002]) rfl) (aa (pv 1) ag))) (W1.fld T T.Jc rfl #[_,Go,c.tl,_,_,V.ref v.t,Go,Go,cw.of W1.tl1,eG _ _,v.t,_,v.d,_,V.ref v.p,Go,W1.O.get 4 rfl,T.PH,T.Nl,Go, .inl #[Go,_,cw.of hp],v.p,_,_,Go,Go,hp,by rw[FE,Im];lia,g _ r b #[W1.parts (ps:=v.ps++[x]) ?_ ow (by rw[FR];show v.ps.length+1+n<=10000;lia)]]);rw[ae,He]
  rfl
section
variable {H H':Hp}
theorem eV.sl1 (W:eV a B H c F r b ff (d::ds) us ts sc n):H c.sl=FB (.lst ((ds.map λd=>V.ref d.1).reverse++[V.ref d.1])):=by
 rw[<-GZ];exact W.O.get 2 rfl
theorem eV.al2 {s:fz}(W:eV a B H c F r b ff (d::ds) us ts (s::sc) n) (hb:b+1+5*n<=c.z):eV a B (aF H d.1 (.dK (dB d.2 (nk y) (.int x)))) c F r (b+1) ff ((d.1,dB d.2 (nk y) (.int x))::ds) us ts (pb (s::sc) y x) n:=by
 have O:Ow B.H ((_::_::_::_::tkC a us)++(d.1, .dK d.2)::scC ds) H:=W.O;cases W.sq with
 |cons h sq=>
  refine#[O.put,W.fn, .cons #[λu=>?_,FV (cD _ _ _) (Hh h.2)] (dZ sq λ_ _ z=>#[z.1,NL z.2]),W.tk,W.bn.VM,W.bn.tl,W.bn.sl,NL W.bn.b6,hb,W.bn.zl];rw[gI];show _=FA.map V.int (if u=y then FB x else s u)
  by_cases hu:u=y
  ·rw[Fv (by rw[hu]),Fv hu];rfl
  ·rw[Fs λz=>hu (eJ (JM z)),Fs hu];exact h.1 u
theorem eV.pushS {s:fz}(W:eV a B H c F r b ff ds us ts sc n) (hq:H q=FM) (k:aS H H') (h:H' q=FB (.dK kk)) (hs:abv b (q,kk) s) (hl:sc.length+1+n<=10002):eV a B (aF H' c.sl (.lst ((ds.map λd=>V.ref d.1).reverse++[.ref q]))) c F r b ff ((q,kk)::ds) us ts (s::sc) n:=by
 have O:=W.O.adds (N:=[(q, .dK kk)]) k (λy hy=>by rw[FW.mp hy];exact#[hq,h]) (Gu.mpr #[nofun, .nil])
 have O:Ow B.H (_::_::_::_::(tkC a us++(q, .dK kk)::scC ds)) H':=O.perm (WG (l₁:=_::_::_::_::tkC a us)).symm
 have O:=O.put (L1:=[_,_]) (o':= .lst ((ds.map λd=>V.ref d.1).reverse++[.ref q]))
 rw[<-GZ] at O ⊢;exact#[O,W.fn, .cons hs W.sq,W.tk,W.bn.VM,W.bn.tl,hl,W.bn.b6,W.bn.bn,W.bn.zl]
theorem eV.al3 {s:fz}(W:eV a B H c F r b ff (d::ds) us ts (s::sc) n):eV a B (aF H c.sl (.lst (ds.map λd=>V.ref d.1).reverse)) c F r b ff ds us ts sc n:=by
 cases W.sq with
 |cons _ sq=>exact#[(W.O.put (L1:=[_,_])).sub (.cons₂ _ (.cons₂ _ (.cons₂ _ (.cons₂ _ ((Fh.sublist_cons_self _ _).append_left _))))),W.fn,sq,W.tk,W.bn.VM,W.bn.tl,by have:sc.length+1+n<=10002:=W.bn.sl;lia,W.bn.b6,W.bn.bn,W.bn.zl]
end
inductive pQ (a:bi) (vs:Fh V) (H:Hp) (Q:VK) (_E:XK):Prop
 |mk {B:tW}{c:qh}{F:JP}{r:V}{b:FH}{ff:Fh (be×V)}{ds:Fh rP}{us:Fh oW}{ts:Fh dS}{sc:Fh fz}{n:FH}{y:Fi}{x:Int}(_:vs=[.ref c.wk, .str (sb y)]) (_:eV a B H c F r b ff ds us ts sc n) (_:look sc y=FB x) (_:Q (.int x) H):pQ a vs H Q _E
theorem tF (T:aU K mg a):T.ZW.U P w mg base 1 (pQ a):=by
 refine T.ZW.F.ok agH [03] [02];obtain @⟨B,c,F,r,b,ff,ds,us,ts,sc,n,y,x,rfl,W,hl,q⟩:=h;have sq:=W.sq;cases sq with
 |nil=>cases hl
 | @cons d s ds sc hd sq=>
 have k1:=W.scs (d:=d) (.head _)
 have fl: ∀ {Q:VK},Q (.ref c.sl) H->dE K "scopes" Q (.ref c.wk) H:=λq=>W.fld T T.JY rfl q
 have at1: ∀ {Q:VK},Q (.ref d.1) H->dE K "scopes" (λx H1=>tUn (rU λi=> .int (-i)) (tC (.int 1)) [FB (.ref c.wk),FB (.str (sb y))] H1 λu H2=>CV K x u H2 Q) (.ref c.wk) H:=λq=>fl #[_,Go,c.sl,_,_,V.ref d.1,Go,Go,cw.of W.sl1,eG _ _,q]
 have lk:look (s::sc) y=(match s y with|some a=>FB a|none=>fN (s::sc) y):=rfl
 refine bI #[_,fD (nI (dz hr) (pv 1) (cN bG [000] (dO cK ak) [002])),at1 #[d.1,_,Go,gz.k (k:=nk y) k1,_,Go,?_]];rw[hd.1,Ip];have g:=gz.k (k:=nk y) k1;rw[hd.1] at g;cases hs:s y with
 |some z=>
  rw[lk,hs] at hl;cases hl;rw[hs] at g;exact ca (aM #[_,kh (dz hr) (cN bG [000] (dO cK ak) [002]) (pv 1) [002],at1 #[d.1, .int x,Go,g,q]])
 |none=>
  rw[lk,hs] at hl;have hl:fN (s::sc) y=FB x:=hl;cases z:(s::sc).getLast? with
  |none=>simp at z
  |some z'=>
  obtain⟨e,h1,h2⟩:=lY (.cons hd sq) z;have:fN (s::sc)=z':=by unfold fN;rw[RL,z];rfl
  rw[this] at hl;have j1:=W.scs (Mq h1);have g:=gz.k (k:=nk y) j1;rw[h2.1,hl] at g;have h0:((d::ds).map λd=>V.ref d.1).reverse[0]?=FB (V.ref e.1):=by
   rw[<-Fh.head?_eq_getElem?,Fh.head?_reverse,Fh.getLast?_map,h1]
   rfl
  exact bM (aM #[_,kh (dz hr) (cN bG [000] ak [002]) (pv 1) [002],fl #[c.sl,_,_,V.ref e.1,Go,Go,cw.of (W.O.get 2 rfl),bB (j:=0) h0,e.1, .int x,Go,g,q]])
inductive AT (a:bi) (vs:Fh V) (H:Hp) (Q:VK) (_E:XK):Prop
 |mk {B:tW}{c:qh}{F:JP}{r:V}{b:FH}{ff:Fh (be×V)}{d:rP}{ds:Fh rP}{us:Fh oW}{ts:Fh dS}{s:fz}{sc:Fh fz}{n:FH}{y:Fi}{x:Int}(_:vs=[.ref c.wk, .str (sb y), .int x]) (_:eV a B H c F r b ff (d::ds) us ts (s::sc) n) (_:b+1+5*n<=c.z) (_: ∀H',eV a B H' c F r (b+1) ff ((d.1,dB d.2 (nk y) (.int x))::ds) us ts (pb (s::sc) y x) n->Q .IX H'):AT a vs H Q _E
theorem jZ (T:aU K mg a):T.Xh.U P w mg base 1 (AT a):=by
 refine T.Xh.F.ok agG [03] [02];obtain @⟨B,c,F,r,b,ff,d,ds,us,ts,s0,sc,n,y,x,rfl,W,hb,q⟩:=h;cases W.sq with
 |cons hd _=>exact eu (g9 (dz hr) (cN bG (aj (pv 0) rfl) (dO cK ak) (λ_ _=>rfl)) (pv 1) (pv 2) rfl) (W.fld T T.JY rfl #[_,Go,c.sl,_,_,V.ref d.1,Go,Go,cw.of W.sl1,eG _ _,d.1,_,Go,tR.k (k:=nk y) (W.scs (.head _)) (by rw[Im];have:=hd.2;have:=W.bn.zl;lia),q _ (W.al2 hb)])
theorem Ax:lH X (P2 .FloorDiv) (rI (λ_ j=>j≠0/\j.natAbs.log2<9000) λi j=> .int (i.fdiv j)):=opI λ_ _ _ _ _ _ _ hc q=>floordiv_int hc.1 q (.inl (PyProof.noPylong_of_log2 hc.2))
theorem yN {l:Fh Int} : ∀ {us:Fh Fp},a8 (l.map V.int) us-> ∃xs:JE (Int×Tok),us.toArray=Lg xs/\xs.toList.map (·.1)=l:=by
 induction l with
 |nil=>intro us h;cases h;exact#[[].toArray,by simp [Lg],Go]
 |cons i l ih=>
  intro us h;cases h with
  |cons h1 h2=>
   obtain⟨t,rfl⟩:=h1;obtain⟨xs,e1,e2⟩:=ih h2;refine#[#[(i,t)::xs.toList],?_,by rw[<-e2];rfl];unfold Lg at e1 ⊢;have e1:=Gx SK e1;rw[V1] at e1;apply JE.ext';rw[V1];simp only[FX];rw[<-e1]
theorem sV {pins:Fh (Fq×Jh)}{σ:L2.St}{H:Hp}{s:Fw}{p:Fq}{l:Fh Int}(I:aE X pins σ H s) (h:H p=FB (.lst (l.map V.int))): ∃xs:JE (Int×Tok),s.heap.IsList p (Lg xs)/\xs.toList.map (·.1)=l:=by
 obtain⟨z,HR,n,r,hl,e⟩:=I.Wx h;obtain⟨xs,e1,e2⟩:=yN r;exact#[xs,#[_,e,Go,n,by rw[<-e1]],e2]
theorem yE (hc:X.calm=FS):gV X (.builtin "min") (λxs H Q=> ∃p i j,xs=[.ref p]/\H p=FB (.lst [.int i, .int j])/\Q (.int (min i j)) H):=by
 intro pins s σ H xs us Q I r h;obtain⟨p,i,j,rfl,hp,q⟩:=h;obtain⟨u,rfl,r1⟩:=nP r;cases r1;obtain⟨as,l,e⟩:=sV (l:=[i,j]) I hp;obtain⟨as⟩:=as;obtain⟨⟨i',t⟩,⟨j',t'⟩,rfl⟩: ∃x y,as=[x,y]:=by
  match as,e with
  |[x,y],_=>exact#[x,y,Go]
 obtain⟨rfl,rfl⟩:i=i'/\j=j':=by simpa [eq_comm] using e
 refine min_intList (I.ok.hd hc) l (by show 0<2;decide) λv h' tk hv k=>#[.int (min i j),H,I.kept k,?_,q];by_cases hij:j<i
 ·have e:MU (λx y=>decide (MG [(i,t),(j,t')].toArray x<MG [(i,t),(j,t')].toArray y)) 1=1:=by simp [MU,MG,hij]
  have hv:(Lg [(i,t),(j,t')].toArray)[MU (λx y=>decide (MG [(i,t),(j,t')].toArray x<MG [(i,t),(j,t')].toArray y)) 1]?=FB v:=hv
  rw[e] at hv;have hv:Kv j t'=v:=by simpa [Lg] using hv
  exact#[t',by rw[<-hv,Int.min_def,Fs (by lia)]]
 ·have e:MU (λx y=>decide (MG [(i,t),(j,t')].toArray x<MG [(i,t),(j,t')].toArray y)) 1=0:=by simp [MU,MG,hij]
  have hv:(Lg [(i,t),(j,t')].toArray)[MU (λx y=>decide (MG [(i,t),(j,t')].toArray x<MG [(i,t),(j,t')].toArray y)) 1]?=FB v:=hv
  rw[e] at hv;have hv:Kv i t=v:=by simpa [Lg] using hv
  exact#[t,by rw[<-hv,Int.min_def,Fv (by lia)]]
theorem ze (hc:X.calm=FS):gV X (.builtin "max") (λxs H Q=> ∃p i j,xs=[.ref p]/\H p=FB (.lst [.int i, .int j])/\Q (.int (max i j)) H):=by
 intro pins s σ H xs us Q I r h;obtain⟨p,i,j,rfl,hp,q⟩:=h;obtain⟨u,rfl,r1⟩:=nP r;cases r1;obtain⟨as,l,e⟩:=sV (l:=[i,j]) I hp;obtain⟨as⟩:=as;obtain⟨⟨i',t⟩,⟨j',t'⟩,rfl⟩: ∃x y,as=[x,y]:=by
  match as,e with
  |[x,y],_=>exact#[x,y,Go]
 obtain⟨rfl,rfl⟩:i=i'/\j=j':=by simpa [eq_comm] using e
 refine max_intList (I.ok.hd hc) l (by show 0<2;decide) λv h' tk hv k=>#[.int (max i j),H,I.kept k,?_,q];by_cases hij:j>i
 ·have e:MU (λx y=>decide (MG [(i,t),(j,t')].toArray x>MG [(i,t),(j,t')].toArray y)) 1=1:=by simp [MU,MG,hij]
  have hv:(Lg [(i,t),(j,t')].toArray)[MU (λx y=>decide (MG [(i,t),(j,t')].toArray x>MG [(i,t),(j,t')].toArray y)) 1]?=FB v:=hv
  rw[e] at hv;have hv:Kv j t'=v:=by simpa [Lg] using hv
  exact#[t',by rw[<-hv,Int.max_def,Fv (by lia)]]
 ·have e:MU (λx y=>decide (MG [(i,t),(j,t')].toArray x>MG [(i,t),(j,t')].toArray y)) 1=0:=by simp [MU,MG,hij]
  have hv:(Lg [(i,t),(j,t')].toArray)[MU (λx y=>decide (MG [(i,t),(j,t')].toArray x>MG [(i,t),(j,t')].toArray y)) 1]?=FB v:=hv
  rw[e] at hv;have hv:Kv i t=v:=by simpa [Lg] using hv
  refine#[t,?_];rw[<-hv,Int.max_def];by_cases z:i<=j
  ·rw[Fv z,show j=i by lia]
  ·rw[Fs z]
theorem BU (ho:op∈GP) (h:d7 x s):decide (V.str (dM op)=V.str x)=decide (op=s):=by
 obtain⟨rfl,hs⟩:=h;exact decide_eq_decide.mpr #[λz=>xM op ho s hs (V.str.inj z),λz=>by rw[z]]
theorem ju {X:Cx}{H:Hp}(ho:op∈GP) (l:d7 v s) (yes:op=s->Pe X e (FB (.str (dM op))::σ) H D.rt) (no:op≠s->Bd X ss D (FB (.str (dM op))::σ) H) (n0:X.N[0]?=FB ("sign":FY):=by rfl) (v0:oZ X.env.scope "sign":=by exact G9 rfl):
  Bd X (.If (.Compare (.Name "sign" p1) [.Eq] [.Constant (.str v) j p2] p3) [.Return (FB e) p4] [] p5::ss) D (FB (.str (dM op))::σ) H:=
 bI (cU bX (bD 0 (Yz #[Go,_,Go,by rw[BU ho l];exact df (λz=>aM (yes z)) no]) n0 v0))
theorem DG {α:Type}{Q:α->Prop}{c:Prop} [Decidable c] {x y:α}(q:Q (if c then x else y)):(c->Q x)/\(¬c->Q y):=#[λh=>by rw[Fv h] at q;exact q,λh=>by rw[Fs h] at q;exact q]
def zH (op:Fi) (b:Int):GA:=b !=0||!(decide (op=Fj "/")||decide (op=Fj "%"))
def mG (op:Fi) (a b:Int):Int:=if op=Fj "+" then a+b else if op=Fj "-" then a-b else if op=Fj "*" then a*b else if op=Fj "/" then a.fdiv b else if op=Fj "%" then a.fmod b else NZ (MV op a b)
def uw (a:Int):Prop:= -(2 ^ 64)<a/\a<2 ^ 64
theorem wD:d7 "+" (Fj "+")/\d7 "-" (Fj "-")/\d7 "*" (Fj "*")/\d7 "/" (Fj "/")/\d7 "/rest" (Fj "%")/\d7 "==" (Fj "==")/\d7 "!=" (Fj "!=")/\d7 "<=" (Fj "<=")/\d7 ">=" (Fj ">=")/\d7 "<" (Fj "<"):=#[[008],[008],[008],[008],[008],[008],[008],[008],[008],[008]]
inductive CY (vs:Fh V) (H:Hp) (Q:VK) (_E:XK):Prop
 |mk (op:Fi) (b:Int) (_:vs=[.str (dM op), .int b]) (_:op∈GP) (_: ∀H',aS H H'->Q (.bl (zH op b)) H'):CY vs H Q _E
theorem al4 (T:aU K mg a):T.d_Q.U P w base 1 CY:=by
 refine T.d_Q.F.ok alm [03] [02];obtain⟨op,b,rfl,ho,q⟩:=h;refine#[_,(ah (aJ (AE (cc qc (pv 1) ak (aK _)) (jI (cc kj (pv 0) (AW (aa dJ (aa dJ ag))) rfl))))),?_];refine [013];rw[cj];unfold zH at q;by_cases hb:b=0
 ·subst hb
  refine bM ?_;refine#[by show 2<=Gk;decide,λp hp=>#[p,_,Go, .inr (rc.of ae),Go,Go,?_]];have e:uA (.str (dM op)) [.str "/", .str "/rest"]=(decide (op=Fj "/")||decide (op=Fj "%")):=by
   rw[<-BU ho wD.2.2.2.1,<-BU ho wD.2.2.2.2.1];show(("/":FY) == dM op||(("/rest":FY) == dM op||false))=_
   have b: ∀x:FY,(x == dM op)=decide (V.str (dM op)=V.str x):=λx=>by
    rw[Hq,beq_iff_eq,Gp];exact#[λz=>by rw[z],λz=>(V.str.inj z).symm]
   rw[Pk,b,b]
  show Q (.bl (!uA (.str (dM op)) [.str "/", .str "/rest"])) _
  rw[e];exact q _ (bC hp)
 ·rw[Gg hb]
  refine ca ?_;have z:=q H λ_ _ e=>e
  rw[show(b !=0)=FS from bne_iff_ne.mpr hb] at z;exact z
inductive BC (vs:Fh V) (H:Hp) (Q:VK) (_E:XK):Prop
 |mk (op:Fi) (x y:Int) (_:vs=[.str (dM op), .int x, .int y]) (_:op∈GP) (_:Q (.bl (MV op x y)) H):BC vs H Q _E
theorem al5 (T:aU K mg a):T.d_S.U P w base 1 BC:=by
 refine T.d_S.F.ok alo [03] [02];obtain⟨op,x,y,rfl,ho,q⟩:=h;obtain⟨_,_,_,_,_,l1,l2,l3,l4,l5⟩:=wD;unfold MV at q;have q:=DG (Q:=λz=>Q (.bl z) H) q
 refine ju ho l1 (λe=>#[_,cc bX (pv 1) (pv 2) (aK _),Go,by rw[cj];exact q.1 e]) λe=>?_;have q:=DG (Q:=λz=>Q (.bl z) H) (q.2 e)
 refine ju ho l2 (λe=>#[_,cc qc (pv 1) (pv 2) (aK _),Go,by rw[cj,<-decide_not];exact q.1 e]) λe=>?_;have q:=DG (Q:=λz=>Q (.bl z) H) (q.2 e)
 refine ju ho l3 (λe=>#[_,cc eP (pv 1) (pv 2) (aK _),_,_,Go,Go,q.1 e]) λe=>?_;have q:=DG (Q:=λz=>Q (.bl z) H) (q.2 e)
 refine ju ho l4 (λe=>#[_,cc afL (pv 1) (pv 2) (aK _),_,_,Go,Go,q.1 e]) λe=>?_;have q:=DG (Q:=λz=>Q (.bl z) H) (q.2 e)
 exact ju ho l5 (λe=>#[_,cc kG (pv 1) (pv 2) (aK _),_,_,Go,Go,q.1 e]) λe=>aM #[_,cc gk (pv 1) (pv 2) (aK _),_,_,Go,Go,q.2 e]
theorem uF (h:uw j):j.natAbs.log2<9000:=by
 by_cases z:j.natAbs=0
 ·rw[z];decide
 ·refine FH.lt_trans ((FH.log2_lt z).mpr (show j.natAbs<2 ^ 65 by unfold uw at h;lia)) [01]
inductive YK (vs:Fh V) (H:Hp) (Q:VK) (_E:XK):Prop
 |mk (op:Fi) (x y:Int) (_:vs=[.str (dM op), .int x, .int y]) (_:op∈GP) (_:uw x) (_:uw y) (_:zH op y=FS) (_:Q (.int (mG op x y)) H):YK vs H Q _E
theorem al6 (T:aU K mg a):T.d_R.U P w base 2 YK:=by
 have G_S:=al5 (P:=P) (w:=w) (base:=base) T;refine T.d_R.F.ok aln [03] [02];obtain⟨op,x,y,rfl,ho,bx,b_y,hh,q⟩:=h;obtain⟨l1,l2,l3,l4,l5,_⟩:=wD
 have y0:op=Fj "/"\/op=Fj "%"->y≠0:=λo z=>by
  rw[z] at hh;rcases o with o|o
  ·rw[o] at hh;exact FP hh [00]
  ·rw[o] at hh;exact FP hh [00]
 unfold mG at q;have q:=DG (Q:=λz=>Q (.int z) H) q
 refine ju ho l1 (λe=>#[_,bW dN (pv 1) (pv 2),_,_,Go,Go,q.1 e]) λe=>?_;have q:=DG (Q:=λz=>Q (.int z) H) (q.2 e)
 refine ju ho l2 (λe=>#[_,bW cS (pv 1) (pv 2),_,_,Go,Go,q.1 e]) λe=>?_;have q:=DG (Q:=λz=>Q (.int z) H) (q.2 e)
 refine ju ho l3 (λe=>#[_,bW Bp (pv 1) (pv 2),_,_,Go,Go, .inl bx,q.1 e]) λe=>?_;have q:=DG (Q:=λz=>Q (.int z) H) (q.2 e)
 refine ju ho l4 (λe=>#[_,bW Ax (pv 1) (pv 2),_,_,Go,Go,#[y0 (.inl e),uF b_y],q.1 e]) λe=>?_;have q:=DG (Q:=λz=>Q (.int z) H) (q.2 e)
 refine ju ho l5 (λe=>#[_,bW DW (pv 1) (pv 2),_,_,Go,Go,y0 (.inr e),q.1 e]) λe=>?_;refine aM #[_,dD (cT (aI G_S hr (by rfl) T.d_S.c aT (aa (pv 0) (aa (pv 1) (aa (pv 2) ag))))) ak ak,op,x,y,Go,ho,_,Go,?_];have q:=q.2 e;unfold NZ at q;cases hc:MV op x y with
 |true=>rw[hc] at q;exact ca q
 |false=>rw[hc] at q;exact bM q
inductive ahP (vs:Fh V) (H:Hp) (Q:VK) (_E:XK):Prop
 |mk (x:Int) (_:(vs=[.str "-", .int x]/\Q (.int (-x)) H)\/(vs=[.str "!", .int x]/\Q (.int (NZ (x == 0))) H)):ahP vs H Q _E
theorem ahQ (T:aU K mg a):T.ZQ.U P w base 1 ahP:=by
 refine T.ZQ.F.ok agA (λvs H Q E h=>?_) [02]
 ·obtain⟨x,⟨rfl,_⟩|⟨rfl,_⟩⟩:=h
  ·rfl
  ·rfl
 ·obtain⟨x,⟨rfl,q⟩|⟨rfl,q⟩⟩:=h
  ·refine#[_,(ao (cv (aZ bX (pv 0) dJ (aK _)) (ah (aJ (bW cS ak (pv 1)))) bw)
    (ah (aJ (dD (aZ bX (pv 1) ak (aK _)) ak ak)))),?_]
   refine#[Go,_,Go,aP (λ_=>?_) λe=>FP e [00]];exact#[_,_,Go,Go,by show Q (.int (0-x)) H;rw[Int.zero_sub];exact q]
  ·refine#[_,(ao (cv (aZ bX (pv 0) dJ (aK _)) (ah (aJ (bW cS ak (pv 1)))) bw)
    (ah (aJ (dD (aZ bX (pv 1) ak (aK _)) ak ak)))),?_]
   refine#[Go,_,Go,aP (λe=>FP e [00]) λ_=>?_];refine [013];rw[cj];unfold NZ at q;by_cases hx:x=0
   ·rw[show(x == 0)=FS from beq_iff_eq.mpr hx] at q
    rw[GQ hx];exact ca q
   ·rw[show(x == 0)=Gc from beq_eq_false_iff_ne.mpr hx] at q
    rw[Gg hx];exact bM q
inductive qf (vs:Fh V) (H:Hp) (Q:VK) (_E:XK):Prop
 |mk (s:FH) (x:Int) (_:vs=[.int s, .int x]) (_:Q (.bl (jo s x)) H):qf vs H Q _E
theorem ahR (T:aU K mg a):T.ZT.U P w base 1 qf:=by
 refine T.ZT.F.ok agC [03] [02];obtain⟨st,x,rfl,q⟩:=h;refine#[_,(ao (cv (aZ bX (pv 0) (aQ (by rfl) T.T9) (aK _)) (ah (aJ (cc bX (pv 1) ak (aK _)))) bw)
   (ah (aJ (cc qc (pv 1) ak (aK _))))),?_]
 refine [013];rw[cj];unfold jo at q;rw[05]
 ·rw[Fv (by have:=Ga e;lia)] at q
  exact#[Go,by rw[cj];exact q]
 ·rw[Fs (by have:=Gf e;lia)] at q
  exact#[Go,by rw[cj];exact q]
inductive B3 (vs:Fh V) (H:Hp) (Q:VK) (_E:XK):Prop
 |mk (s:FH) (_:vs=[.int s]) (_:Q (.int (mE s)) H):B3 vs H Q _E
theorem ahS (T:aU K mg a):T.d_T.U P w base 1 B3:=by
 refine T.d_T.F.ok alp [03] [02];obtain⟨st,rfl,q⟩:=h;refine#[_,(ah (aJ (dD (aZ bX (pv 0) (aQ (by rfl) T.T9) (aK _)) ak ak))),?_];refine [013];rw[cj];unfold mE at q;rw[05]
 ·rw[Fv (by have:=Ga e;lia)] at q
  exact q
 ·rw[Fs (by have:=Gf e;lia)] at q
  exact q
inductive DA (vs:Fh V) (H:Hp) (Q:VK) (_E:XK):Prop
 |mk (f:Fi) (p:Fq) (l:Fh Int) (k:Fi×FH) (_:vs=[.str (sb f), .ref p]) (_:H p=FB (.lst (l.map V.int))) (_:(LJ.find? λg=>g.1 == f)=FB k) (_:l.length=k.2) (_:Q (.int (WH f l)) H):DA vs H Q _E
theorem YL (h:x=sb s):decide (V.str (sb f)=V.str x)=decide (f=s):=by
 rw[h];exact decide_eq_decide.mpr #[λz=>eJ (V.str.inj z),λz=>by rw[z]]
theorem ahT (T:aU K mg a):T.ZR.U P w base 1 DA:=by
 refine T.ZR.F.ok agB [03] [02];obtain⟨f,p,l,k,rfl,hp,hk,hl,q⟩:=h;refine#[_,(ao (cv (aZ bX (pv 0) dJ (aK _)) (ah (aJ (aY (yE rfl) (by rfl) T.afx boot_min (aa (pv 1) ag)))) bw)
   (ao (cv (aZ bX (pv 0) dJ (aK _)) (ah (aJ (aY (ze rfl) (by rfl) T.afw boot_max (aa (pv 1) ag)))) bw)
   (ah (aJ (aY so (by rfl) T.Yk boot_abs (aa (cN bG (pv 1) ak [002]) ag)))))),?_]
 unfold WH at q;dsimp only at q;have kf:k.1=f:=by have:=Rh hk;exact beq_iff_eq.mp this
 have km:=KY hk
 have kk:k=(Fj "min",2)\/k=(Fj "max",2)\/k=(Fj "abs",1):=by
  unfold LJ at km
  simpa using km
 refine [013];rw[YL (s:=Fj "min") [00]];rw[05]
 ·have e:=Ga e
  rw[Fv e] at q;have:l.length=2:=by
   rcases kk with z|z|z
   ·rw[hl,z]
   ·rw[hl,z]
   ·rw[z] at kf;rw[e] at kf;exact FP kf [00]
  match l,this with
  |[i,j],_=>exact#[p,i,j,Go,hp,q]
 have e1:=Gf e;rw[Fs e1] at q;refine [013];rw[YL (s:=Fj "max") [00]];rw[05]
 ·have e:=Ga e
  rw[Fv e] at q;have:l.length=2:=by
   rcases kk with z|z|z
   ·rw[hl,z]
   ·rw[hl,z]
   ·rw[z] at kf;rw[e] at kf;exact FP kf [00]
  match l,this with
  |[i,j],_=>exact#[p,i,j,Go,hp,q]
 have e2:=Gf e;rw[Fs e2] at q
 have:l.length=1:=by
  rcases kk with z|z|z
  ·rw[z] at kf;exact FP kf.symm e1
  ·rw[z] at kf;exact FP kf.symm e2
  ·rw[hl,z]
 match l,this with
 |[i],_=>exact#[p,_,_,V.int i,Go,Go,cw.of hp,bB (j:=0) rfl,i,Go,q]
inductive YM (a:bi) (vs:Fh V) (H:Hp) (Q:VK) (E:XK):Prop
 |mk (x:Int) (_:vs=[.int x]) (_:(dC x->Q (.int x) H)) (_:(¬dC x->Rfs a.Lk E H (-12))):YM a vs H Q E
theorem ahU (T:aU K mg a) (XC:XW K a):T.d_y.O P w base 4 (YM a):=by
 have G_P:=lC (P:=P) (w:=w) (base:=base) T XC;refine fS T.d_y.F alw [03] [02];obtain⟨x,rfl,h1,h2⟩:=h;refine#[_,(ao (cv (aZ gk (aY so (by rfl) T.Yk boot_abs (aa (pv 0) ag)) (aQ (by rfl) T.Ua) (aK _)) (ah (eT d8 XC.O5 G_P [017] (by rfl) T.Qu T.d_P.c.b)) bw)
   (ah (aJ (pv 0)))),?_]
 refine#[_,Go,_,_,Go,Go,_,Go,?_];rw[05]
 ·have e:=Ga e
  exact#[by show 0<=9;decide,_,#[Go,Go],h2 λz=>by unfold dC KG at z;split at e<;>lia]
 ·have e:=Gf e
  exact h1 (by unfold dC KG;split at e<;>lia)
inductive YN (a:bi) (vs:Fh V) (H:Hp) (Q:VK) (E:XK):Prop
 |mk (op:Fi) (s:FH) (x y:Int) (_:vs=[.str (dM op), .int x, .int y]) (_:op∈GP) (_:dC x) (_:dC y) (_:(s=2 ↔ op∈["==","!=","<=",">=","<",">"].map Fj)) (_:(s≠2->op∈["+","-","*","/","%"].map Fj)) (_:(match fU s op x y with
  | .error k=> ∀H',aS H H'->pj a E H' k
  | .ok z=> ∀H',aS H H'->Q (.int z) H')):YN a vs H Q E
theorem Bi (h:op∈["==","!=","<=",">=","<",">"].map Fj):op≠Fj "+"/\op≠Fj "-"/\op≠Fj "*"/\op≠Fj "/"/\op≠Fj "%":=by
 revert op
 decide+kernel
theorem ahV (T:aU K mg a) (XC:XW K a):T.ZZ.O P w base 5 (YN a):=by
 have G_Q:=al4 (P:=P) (w:=w) (base:=base) T
 have G_R:=al6 (P:=P) (w:=w) (base:=base) T
 have G_y:=ahU (P:=P) (w:=w) (base:=base) T XC
 have G_O:=iz (P:=P) (w:=w) (base:=base) T XC;refine fS T.ZZ.F agM [03] [02];obtain⟨op,st,x,y,rfl,ho,bx,b_y,h2,hn,q⟩:=h;refine#[_,(ao (cv (kR (cT (aI G_Q [017] (by rfl) T.d_Q.c aT (aa (pv 0) (aa (pv 2) ag))))) (ah (eT d8 XC.Mn G_O [017] (by rfl) T.Nz T.d_O.c.b)) bw)
   (ah (aJ (aI G_y [017] (by rfl) T.d_y.c aA (aa (aI G_R [017] (by rfl) T.d_R.c aT (aa (pv 0) (aa (pv 1) (aa (pv 2) ag)))) ag))))),?_]
 refine#[op,y,Go,ho,λH1 s1=>[021]];have bx':uw x:=by unfold dC KG at bx;unfold uw;lia
 have al7:uw y:=by unfold dC KG at b_y;unfold uw;lia
 cases hh:zH op y with
 |false=>
  refine ca ?_;unfold zH at hh;rw[Mr] at hh;have y0:y=0:=by simpa using hh.1
  have od:op=Fj "/"\/op=Fj "%":=by have:=hh.2;rw[PU,MF,Gp,Gp] at this;exact this
  have n2:st≠2:=λz=>by
   have:=Bi (h2.mp z);rcases od with z|z
   ·exact this.2.2.2.1 z
   ·exact this.2.2.2.2 z
  have ec:fU st op x y= .error (-11):=by
   unfold fU X3;rw[Fs n2,y0];rcases od with z|z
   ·rw[z,Fs [00],Fs [00],Fs [00],Fv rfl]
   ·rw[z,Fs [00],Fs [00],Fs [00],Fv rfl]
  rw[ec] at q;exact#[by show 0<=9;decide,_,#[Go,Go],q H1 s1 _ (.head _)]
 |true=>
  refine bM ?_;refine#[op,x,y,Go,ho,bx',al7,hh,?_];have key:fU st op x y=if dC (mG op x y) then .ok (mG op x y) else .error (-12):=by
   unfold fU;by_cases z:st=2
   ·rw[Fv z]
    obtain⟨e1,e2,e3,e4,e5⟩:=Bi (h2.mp z);have:mG op x y=NZ (MV op x y):=by unfold mG;rw[Fs e1,Fs e2,Fs e3,Fs e4,Fs e5]
    rw[this,Fv (gJ _)]
   ·rw[Fs z]
    have y0:op=Fj "/"\/op=Fj "%"->y≠0:=λo=>by
     unfold zH at hh;intro w0;rw[w0] at hh;rcases o with o|o
     ·rw[o] at hh;exact FP hh [00]
     ·rw[o] at hh;exact FP hh [00]
    have ck: ∀v:Int,(match WI v 0 with
      | .error c=> .error c
      | .ok (v,_)=> .ok v)=if dC v then(.ok v:Except Int Int) else .error (-12):=λv=>by
     unfold WI;by_cases h:dC v
     ·rw[Fv h,Fv h]
     ·rw[Fs h,Fs h]
    unfold X3 mG;by_cases e1:op=Fj "+"
    ·rw[Fv e1,Fv e1];exact ck _
    rw[Fs e1,Fs e1];by_cases e2:op=Fj "-"
    ·rw[Fv e2,Fv e2];exact ck _
    rw[Fs e2,Fs e2];by_cases e3:op=Fj "*"
    ·rw[Fv e3,Fv e3];exact ck _
    rw[Fs e3,Fs e3];by_cases e4:op=Fj "/"
    ·rw[Fs (y0 (.inl e4)),Fv e4,Fv e4];exact ck _
    rw[Fs e4];have e5:op=Fj "%":=by
     have:=hn z;simp only[FX,Qq,FF,HP,or_false] at this;rcases this with z|z|z|z|z
     ·exact FP z e1
     ·exact FP z e2
     ·exact FP z e3
     ·exact FP z e4
     ·exact z
    rw[Fs (y0 (.inr e5)),Fs e4,Fv e5];exact ck _
  rw[key] at q;refine#[_,Go,λhb=>?_,λhb=>?_]
  ·rw[Fv hb] at q
   exact q H1 s1
  ·rw[Fs hb] at q
   exact q H1 s1 _ (.tail _ (.head _))
structure GX (X:Cx) (a:bi) (E:XK):Prop where
 T:aU X.K X.mg a
 C:XW X.K a
 hr:bZ 5 X.A
 up:dn (f9 X.prog X.w) X E
 nd:X.N.Nodup
 n0:X.N[0]?=FB ("worker":FY)
 v0:oZ X.env.scope "worker"
 n2:X.N[2]?=FB ("parts":FY)
 v2:oZ X.env.scope "parts"
structure pk (a:bi) (H:Hp) (B:tW) (c:qh) (S:Ij) (F0:Fh (Fi×FH)) (r:V) (b:FH) (ff:Fh (be×V)) (ds:Fh rP) (u:oW) (us:Fh oW) (e:Fz) (ts:Fh dS) (sc:Fh fz) (n:FH):Prop where
 FO:gA S F0
 gd:Gd F0 (.go ((e,u.ps)::ts) sc n)
 W:eV a B H c S.funs r b ff ds (u::us) ((e,u.ps)::ts) sc n
inductive ahW (a:bi) (ok:Ij->Fz->Fh Int->Prop) (vs:Fh V) (H:Hp) (Q:VK) (E:XK):Prop
 |mk {B:tW}{c:qh}{S:Ij}{F0:Fh (Fi×FH)}{r:V}{b:FH}{ff:Fh (be×V)}{ds:Fh rP}{u:oW}{us:Fh oW}{e:Fz}{ts:Fh dS}{sc:Fh fz}{n:FH}{m:Mc}(_:vs=[.ref c.wk,u.v, .ref u.p]) (_:ok S e u.ps) (_:pk a H B c S F0 r b ff ds u us e ts sc n) (_:eD S.funs (.go ((e,u.ps)::ts) sc n)=FB m) (_:ox a B c S.funs (Q .IX) E m):ahW a ok vs H Q E
section
variable {H H':Hp}
theorem pk.ev (G:pk a H B c S F0 r b ff ds u us e ts sc n):aw a B.M B.H e u.v:=by
 cases G.W.tk with
 |cons h _=>exact h.1
theorem pk.hp (G:pk a H B c S F0 r b ff ds u us e ts sc n):H u.p=FB (.lst (u.ps.map V.int)):=G.W.O.get 5 rfl
theorem pk.psB (G:pk a H B c S F0 r b ff ds u us e ts sc n): ∀x∈u.ps,dC x:=(G.gd.1 (e,u.ps) Fy).ps
theorem pk.ws (G:pk a H B c S F0 r b ff ds u us e ts sc n):WSx F0 e:=(G.gd.1 (e,u.ps) Fy).ws
theorem pk.len (G:pk a H B c S F0 r b ff ds u us e ts sc n):u.ps.length+n<=10000:=G.W.bn.tl 0 _ rfl
theorem pk.grow (G:pk a H B c S F0 r b ff ds u us e ts sc n) (k:aS H H'):pk a H' B c S F0 r b ff ds u us e ts sc n:=#[G.FO,G.gd,G.W.grow k]
theorem pk.part (G:pk a H B c S F0 r b ff ds u us e ts sc n) (h:H' u.p=FB (.lst (ps.map V.int))) (k: ∀b o,H b=FB o->b≠u.p->H' b=FB o) (hl:ps.length<=u.ps.length) (hb: ∀x∈ps,dC x):pk a H' B c S F0 r b ff ds { u with ps:=ps } us e ts sc n:=by
 refine#[G.FO,#[λt ht=>?_,G.gd.2],G.W.parts h k (by have:=G.len;lia)];rcases FF.mp ht with z|z
 ·rw[z];exact#[G.ws,hb]
 ·exact G.gd.1 t (Fx _ z)
end
abbrev pw (P:Gh) (w:GR) (K:Fm) (mg:FY->FA Fp) (base:Ha) (a:bi) (k:FH) (f:Fq) (fd:Gz) (y:FY) (ok:Ij->Fz->Fh Int->Prop):Prop:=bV P w K mg base (f9 P w) k f fd ["worker",y,"parts"] (ahW a ok)
theorem rG {x Hl y:FY}{st:Stmt}{f:Fq}{fd:Gz}{N:Fh FY}{ok:Ij->Fz->Fh Int->Prop}(T:aU K mg a) (XC:XW K a) (hk:5<=k) (F:oY K x Hl st f fd) (S:ay N ["worker",y,"parts"] (af st))
  (JO: ∀(Hb:Fp) (A:Hc) (outer:Fh Env) (s:Fw) (H:Hp) (B:tW) (c:qh) (S:Ij) (F0:Fh (Fi×FH)) (r:V) (b:FH) (ff:Fh (be×V)) (ds:Fh rP) (u:oW) (us:Fh oW) (e:Fz) (ts:Fh dS) (sc:Fh fz) (n:FH) (m:Mc) (Q:VK) (E:XK),bZ k (A.deeper [011])->ok S e u.ps->pk a H B c S F0 r b ff ds u us e ts sc n->eD S.funs (.go ((e,u.ps)::ts) sc n)=FB m->ox a B c S.funs (Q .IX) E m->
   let X:=fi (f9 P w) P w K mg base N Hl (af st) f Hb A outer s H E
   let D:d9:= { nx:=λ_ H'=>Q .IX H',rt:=Q }
   GX X a E->Bd X (bf st) D (L2.start N [.ref c.wk,u.v, .ref u.p]) H):pw P w K mg base a (k+1) f fd y ok:=by
 refine fS F S [03] [02];obtain @⟨B,c,S',F0,r,b,ff,ds,u,us,e,ts,sc,n,m,rfl,ho,G,hm,g⟩:=h;have vis: ∀g∈[("worker":FY),y,"parts"],oZ (af st) g:=λg hg=>(S.par g hg).elim .inl λz=> .inr (.inl z)
 have pre:=S.pre;refine JO Hb A outer s H B c S' F0 r b ff ds u us e ts sc n m Q E hr ho G hm g #[T,XC,hr.mono hk,aA,S.nd,?_,vis _ (.head _),?_,vis _ (.tail _ (.tail _ (.head _)))]
 ·match N,pre with
  |x::_,e=>exact Gx FB (JL e).1
 ·match N,pre with
  |_::_::x::_,e=>exact Gx FB (JL (JL (JL e).2).2).1
section
variable {X:Cx}{E:XK}{B:tW}{c:qh}{F:JP}{r:V}{b:FH}{ff:Fh (be×V)}{ds:Fh rP}{u:oW}{us:Fh oW}{t:dS}{ts:Fh dS}{sc:Fh fz}{n:FH}{D:d9}{σ:L2.St}{H:Hp}{e:HM}{p1 p2 p3 p4 p5:Pos}
theorem e8 (Y:GX X a E) (q:Pe X e (FB (.ref c.wk)::σ) H λv H1=> ∃(o:Fz) (us:Fh oW) (ts:Fh dS),eV a B H1 c F r b ff ds us ts sc n/\aw a B.M B.H o v/\ox a B c F (D.nx (FB (.ref c.wk)::σ)) E (j9 o ts sc n)) (W:eV a B H c F r b ff ds us ts sc n) (hp:iA p2 p4:=by rfl) (KH:FU [e] X.env=[[001]]:=by rfl):
  Bd X [.Expr (.Call (.Attribute (.Name "worker" p1) "begin" p2) [e] [] p4) p5] D (FB (.ref c.wk)::σ) H:=
 eu (bj (cB (dX Y.n0 Y.v0) Y.T.Iq Y.T.Xi.c (tD Y.T Y.C) Y.hr Y.up (aa dA ag KH) KH rfl (ee hp (by rw[KH];rfl))) rfl) #[c.wk,c.dw,_,Go,W.ins,Go,q.mono λv H1 ⟨o,us,ts,W1,ev,g⟩=> .mk rfl W1 ev g]
theorem A7 {N:Hp->Prop}{E':XK}(g:ox a B c F N E (eN ts sc n x)):ox a B c F N E' (eN ts sc n x):=by
 cases ts<;>exact g
theorem di (Y:GX X a E) (W:eV a B H c F r b ff ds us ts sc n) (q:Pe X e (FB (.ref c.wk)::σ) H λv H1=> ∃(x:Int) (ds:Fh rP) (u:oW) (us:Fh oW) (t:dS) (ts:Fh dS) (sc:Fh fz),v= .int x/\eV a B H1 c F r b ff ds (u::us) (t::ts) sc n/\ox a B c F (D.nx (FB (.ref c.wk)::σ)) E (eN ts sc n x)) (hp:iA p2 p4:=by rfl) (KH:FU [e] X.env=[[001]]:=by rfl):
  Bd X [.Expr (.Call (.Attribute (.Name "worker" p1) "finish" p2) [e] [] p4) p5] D (FB (.ref c.wk)::σ) H:=
 eu (bj (cB (dX Y.n0 Y.v0) Y.T.Iq Y.T.ZX.c (yQ Y.T) (Y.hr.mono [01]) aT (aa dA ag KH) KH rfl (ee hp (by rw[KH];rfl))) rfl) #[c.wk,c.dw,_,Go,W.ins,Go,q.mono λv H1 ⟨x,ds,u,us,t,ts,sc,hv,W1,g⟩=>by subst hv;exact .mk rfl W1 (A7 g)]
theorem dL {Q:VK}(Y:GX X a E) (hp:H p=FB (.lst xs)) (q:Q (.int xs.length) H) (hg:Gl X "len":=by rfl):Pe X (.Call (.Name "len" p1) [.Name "parts" p3] [] p2) (FB (.ref c.wk)::FB v::FB (.ref p)::σ) H Q:=iH Y.T.J8 hp (dX Y.n2 Y.v2) [05] q hg
end
theorem jD {α β:Type}{F:α->β->Prop} : ∀ {l:Fh α}{m:Fh β}{i:FH}{y:β},Paired F l m->m[i]?=FB y-> ∃x,l[i]?=FB x/\F x y
 |_,_,_,_, .nil,h=>by cases h
 |_,_,0,_, .cons r t,h=>#[_,Go,by obtain rfl:=FL h;exact r]
 |_,_,i+1,_, .cons r t,h=>jD (i:=i) t h
theorem ahX {a:bi}{M:Fq->Prop}{H:Hp}{e x:Fz}(he:e= .neg x\/e= .not x) (h:aw a M H e v): ∃sg u,bJ M H a.Lc [("sign", .str sg),("operand",u)] v/\aw a M H x u/\(sg="-"/\e= .neg x\/sg="!"/\e= .not x):=by
 rcases he with rfl|rfl
 ·unfold aw at h
  obtain⟨u,h1,h2⟩:=h;exact#[_,u,h1,h2, .inl #[Go,Go]]
 ·unfold aw at h
  obtain⟨u,h1,h2⟩:=h;exact#[_,u,h1,h2, .inr #[Go,Go]]
theorem al8 (T:aU K mg a) (XC:XW K a):pw P w K mg base a 6 a.f_7 a.aen "unary" λ_ e _=> ∃x,e= .neg x\/e= .not x:=by
 refine rG T XC [01] T.d_7.F als λHb A outer s H B c S F0 r b ff ds u us e ts sc n m Q E hr ho G hm g=>?_;intro X D Y;obtain⟨x,he⟩:=ho;have W:=G.W;obtain⟨sg,w,i,hw,un⟩:=ahX he G.ev;refine cx (jw (dL Y G.hp (cM #[_,_,Go,Go,?_])));rw[FE];have hp:=G.hp;generalize W0:u.ps=ps at hm hp;cases ps with
 |nil=>
  refine ca (e8 Y (ci (bD 1 (i.fld W.O.same T.Pu T.NC rfl #[x,_,_,W,hw,?_])) rfl) W);rcases un with⟨_,rfl⟩|⟨_,rfl⟩
  ·cases hm;rw[W0];exact g
  ·cases hm;rw[W0];exact g
 |cons y ys=>
  refine bM (di Y W (bL (aO (ci (bD 1 (i.fld W.O.same T.Pu T.OQ rfl (aO (k7 (bD 2 (cM #[u.p,_,_,V.int y,Go,Go,cw.of hp,bB (j:=0) rfl,cE #[y,?_]])) [002])))) rfl)) (ahQ T) [07] T.ZQ.c aT));rcases un with⟨rfl,rfl⟩|⟨rfl,rfl⟩
  ·cases hm
   exact .inl #[Go,_,_,_,_,_,_,_,Go,W,g]
  ·cases hm
   exact .inr #[Go,_,_,_,_,_,_,_,Go,W,g]
theorem ahY (T:aU K mg a) (XC:XW K a):pw P w K mg base a 6 a.adH a.Yd "choice" λ_ e _=> ∃x y z,e= .pick x y z:=by
 refine rG T XC [01] T.afq.F agN λHb A outer s H B c S F0 r b ff ds u us e ts sc n m Q E hr ho G hm g=>?_;intro X D Y;obtain⟨x,y,z,rfl⟩:=ho;have W:=G.W;have ev:=G.ev;unfold aw at ev;obtain⟨u1,u2,u3,i,e1,e2,e3⟩:=ev;have hp:=G.hp;refine cx (jw (dL Y hp (cM #[_,_,Go,Go,?_])));rw[FE];generalize W0:u.ps=ps at hm hp;have bg: ∀ {p1 p2 p3 p4 p5 p6:Pos}{f:FY}{o:Fz}{v:V},([("condition",u1),("chosen",u2),("otherwise",u3)]:Fh (FY×V)).lookup f=FB v->au K a.Kz f->aw a B.M B.H o v->ox a B c S.funs (Q .IX) E (j9 o ((.pick x y z,u.ps)::ts) sc n)->(p2.endLine == p4.line)=FS->Bd X [.Expr (.Call (.Attribute (.Name "worker" p1) "begin" p2) [.Attribute (.Name "choice" p3) f p6] [] p4) p5] D [FB (.ref c.wk),FB u.v,FB (.ref u.p)] H:=λhl no ev g hp=>e8 Y (ci (bD 1 (i.fld W.O.same T.P8 no hl #[_,_,_,W,ev,g])) rfl) W hp
 match ps,hm with
 |[],hm=>cases hm;exact ca (bg rfl T.Mu e1 (by rw[W0];exact g) rfl)
 |[t],hm=>
  cases hm;refine bM (cx (jw (dL Y hp (cM #[_,_,Go,Go,bM (cx (cU qc (k7 (bD 2 (cM #[u.p,_,_,V.int t,Go,Go,cw.of hp,bB (j:=0) rfl,cM [013]])) [002])))]))));rw[cj];by_cases ht:t=0
  ·rw[Fs (λw=>w ht)] at g
   rw[GQ ht];exact bM (bg rfl T.Mv e3 (by rw[W0];exact g) rfl)
  ·rw[Fv ht] at g
   rw[Gg ht];exact ca (bg rfl T.NF e2 (by rw[W0];exact g) rfl)
 |[t,t'],hm=>
  cases hm;exact bM (cx (jw (dL Y hp (cM #[_,_,Go,Go,ca (di Y W (k7 (bD 2 (cM #[u.p,_,_,V.int t',Go,Go,cw.of hp,bB (j:=1) rfl,_,_,_,_,_,_,_,Go,W,g])) [002]))]))))
 |_::_::_::_,hm=>cases hm
def lc:Fz->FA (FH×Fh Fz×Fh Fi)
 | .sums e r=>FB (3,e::DJ r,Ad r)
 | .prods e r=>FB (4,e::DJ r,Ad r)
 | .cmp op x y=>FB (2,[x,y],[op])
 | .both e l=>FB (1,e::lK l,(lK l).map λ_=>Fj "&&")
 | .either e l=>FB (0,e::lK l,(lK l).map λ_=>Fj "||")
 |_=>FM
section
variable {M:Fq->Prop}{H:Hp}
theorem mn: ∀ {l:Kc}{us:Fh V},cu a M H l us->Paired (λu e=>aw a M H e u) us (lK l)
 | .nil,us,h=>by unfold cu at h;rw[h];exact .nil
 | .cons e l,us,h=>by
  unfold cu at h;obtain⟨u,vs,rfl,h1,h2⟩:=h;exact .cons h1 (mn h2)
theorem rl: ∀ {l:QK}{us ss:Fh V},dF a M H l us ss->Paired (λu e=>aw a M H e u) us (DJ l)/\ss=(Ad l).map λo=>V.str (dM o)
 | .nil,us,ss,h=>by unfold dF at h;rw[h.1,h.2];exact#[.nil,Go]
 | .cons op e l,us,ss,h=>by
  unfold dF at h;obtain⟨u,vs,ts,rfl,rfl,h1,h2⟩:=h;obtain⟨g1,g2⟩:=rl h2;exact#[.cons h1 g1,by rw[g2];rfl]
inductive abw (a:bi) (M:Fq->Prop) (H:Hp) (s:FH) (ops:Fh Fz) (sgs:Fh Fi) (v:V):Prop
 |mk (oq gq:V) (us:Fh V) (_:bJ M H a.JW [("strength", .int s),("operands",oq),("signs",gq)] v) (_:b5 M H us oq) (_:Paired (λu e=>aw a M H e u) us ops) (_:b5 M H (sgs.map λo=>V.str (dM o)) gq):abw a M H s ops sgs v
theorem mZ {e:Fz}{v:V}{s:FH}{ops:Fh Fz}{sgs:Fh Fi}(h:aw a M H e v) (hc:lc e=FB (s,ops,sgs)):abw a M H s ops sgs v:=by
 have sg: ∀(t:Fi) (x:FY) (l:Kc) (us:Fh V),dM t=x->us.length=(lK l).length->us.map (λ_=>V.str x)=((lK l).map λ_=>t).map λo=>V.str (dM o):=λt x l us e hl=>by
  rw[JT,<-e,W8,hl];exact(W8 ..).symm
 cases e with
 |sums e r=>
  unfold aw at h;cases hc;obtain⟨_,_,u,us,ss,h1,h2,h3,h4,h5⟩:=h;obtain⟨g1,g2⟩:=rl h5;exact#[_,_,_,h1,h2, .cons h4 g1,by rw[<-g2];exact h3]
 |prods e r=>
  unfold aw at h;cases hc;obtain⟨_,_,u,us,ss,h1,h2,h3,h4,h5⟩:=h;obtain⟨g1,g2⟩:=rl h5;exact#[_,_,_,h1,h2, .cons h4 g1,by rw[<-g2];exact h3]
 |cmp op x y=>
  unfold aw at h;cases hc;obtain⟨_,_,u1,u2,h1,h2,h3,h4,h5⟩:=h;exact#[_,_,_,h1,h2, .cons h4 (.cons h5 .nil),h3]
 |both e l=>
  unfold aw at h;cases hc;obtain⟨_,_,u,us,h1,h2,h3,h4,h5⟩:=h;have g1:=mn h5;exact#[_,_,_,h1,h2, .cons h4 g1,by rw[<-sg (Fj "&&") "&&" l us [00] (aV g1)];exact h3]
 |either e l=>
  unfold aw at h;cases hc;obtain⟨_,_,u,us,h1,h2,h3,h4,h5⟩:=h;have g1:=mn h5;exact#[_,_,_,h1,h2, .cons h4 g1,by rw[<-sg (Fj "||") "||" l us [00] (aV g1)];exact h3]
 |_=>cases hc
theorem mH {F:JP}{e:Fz}{s:FH}{ops:Fh Fz}{sgs:Fh Fi}(hc:lc e=FB (s,ops,sgs)) (ps:Fh Int) (ts:Fh dS) (sc:Fh fz) (n:FH):eD F (.go ((e,ps)::ts) sc n)=if s<=1 then o9 s ops e ps ts sc n else lB s ops sgs e ps ts sc n:=by
 cases e<;>cases hc<;>rfl
end
theorem yT {s:FH}{ops:Fh Fz}{sgs:Fh Fi}(h:sgs[qs.length]?=FM):lB s ops sgs e (qs++[x,y]) ts sc n=FM:=by
 unfold lB;dsimp only;rw[show(qs++[x,y]).length=qs.length+2 by simp,Fv (by lia),Ng,h]
theorem we {L:Fh String}{V:Fh Fi}{G:Fh (Fi×FH)} : ∀ {l:QK}{op:Fi},uI L V G l->op∈Ad l->op∈L.map Fj
 | .nil,_,_,h=>nomatch h
 | .cons o x l,op,w,h=>by
  unfold uI at w;rcases FF.mp h with z|z
  ·rw[z];exact w.1
  ·exact we w.2.2 z
theorem rB:(∀o∈["+","-"].map Fj,o∈GP/\o∉["==","!=","<=",">=","<",">"].map Fj/\o∈["+","-","*","/","%"].map Fj)/\(∀o∈["*","/","%"].map Fj,o∈GP/\o∉["==","!=","<=",">=","<",">"].map Fj/\o∈["+","-","*","/","%"].map Fj)/\(∀o∈["==","!=","<=",">=","<",">"].map Fj,o∈GP):=by decide+kernel
theorem yU {s:FH}{ops:Fh Fz}{sgs:Fh Fi}{op:Fi}(w:WSx F0 e) (hc:lc e=FB (s,ops,sgs)) (h2: ¬s<=1) (ho:op∈sgs):op∈GP/\(s=2 ↔ op∈["==","!=","<=",">=","<",">"].map Fj)/\(s≠2->op∈["+","-","*","/","%"].map Fj):=by
 obtain⟨V,G,w,_⟩:=w;cases e with
 |sums e l=>
  cases hc;unfold WS at w;have z:=rB.1 op (we w.2.2 ho);exact#[z.1,#[(λy=>by cases y),λy=>FP y z.2.1],λ_=>z.2.2]
 |prods e l=>
  cases hc;unfold WS at w;have z:=rB.2.1 op (we w.2.2 ho);exact#[z.1,#[(λy=>by cases y),λy=>FP y z.2.1],λ_=>z.2.2]
 |cmp o x y=>
  cases hc;unfold WS at w;rw[FW.mp ho];exact#[rB.2.2 _ w.1,#[λ_=>w.1,λ_=>rfl],λz=>FP rfl z]
 |both e l=>cases hc;exact FP (FN 1) h2
 |either e l=>cases hc;exact FP (F6 1) h2
 |_=>cases hc
section
variable {E:XK}{H:Hp}{Q:VK}
theorem wV (Y:GX X a E) (C:abw a B.M B.H s ops sgs v) (W:eV a B H c F r b ff ds (u::us) ((e,u.ps)::ts) sc n) (lt: ∀o,ops[u.ps.length]?=FB o->ox a B c F (D.nx (FB (.ref c.wk)::FB v::FB (.ref u.p)::σ)) E (j9 o ((e,u.ps)::ts) sc n)) (ge:ops[u.ps.length]?=FM->Bd X Ui D (FB (.ref c.wk)::FB v::FB (.ref u.p)::σ) H)
  (hg:Gl X "len":=by rfl) (n1:X.N[1]?=FB ("chain":FY):=by rfl) (v1:oZ X.env.scope "chain":=by exact G9 rfl) (h2:(q1.endLine == q2.line)=FS:=by rfl):
  Bd X [.If (.Compare (.Call (.Name "len" p1) [.Name "parts" p2] [] p3) [.Lt] [.Call (.Name "len" p4) [.Attribute (.Name "chain" p5) "operands" p6] [] p7] p8) [.Expr (.Call (.Attribute (.Name "worker" q4) "begin" q1) [.Subscript (.Attribute (.Name "chain" q3) "operands" p9) (.Call (.Name "len" q5) [.Name "parts" q6] [] q7) q8] [] q2) q9] Ui q0] D (FB (.ref c.wk)::FB v::FB (.ref u.p)::σ) H:=by
 obtain⟨oq,gq,QN,i,⟨o,rfl,_,ho⟩,pr,_⟩:=C;have ho:=W.O.same _ _ ho;have hp:=W.O.get 5 rfl;have fl: ∀ {Q:VK},Q (.ref o) H->dE X.K "operands" Q v H:=λq=>i.fld W.O.same Y.T.ND Y.T.M6 rfl q
 refine cx (cU kG (dL Y hp (iH Y.T.J8 ho (aj (dX n1 v1) rfl) (λ_ q=>fl q) #[_,_,Go,Go,_,Go,df (λz=>?_) λz=>ge (Jg ?_)] hg) hg) rfl)
 ·rw[FE,aV pr] at z
  have lt':u.ps.length<ops.length:=by lia
  obtain⟨w,hw,ew⟩:=jD pr (HI lt');exact e8 Y (k7 (ci (bD 1 (fl (dL Y hp #[o,_,_,w,Go,Go,cw.of ho,by rw[FE];exact bB hw,_,_,_,W,ew,lt _ (HI lt')] hg)) n1 v1) rfl) [002]) W h2
 ·rw[FE,aV pr] at z
  lia
end
theorem al9 (T:aU K mg a) (XC:XW K a):pw P w K mg base a 6 a.f_9 a.aep "chain" λ_ e _=> ∃s ops sgs,lc e=FB (s,ops,sgs)/\s<=1:=by
 refine rG T XC [01] T.d_9.F alv λHb A outer s H B c S F0 r b ff ds u us e ts sc n m Q E hr ho G hm g=>?_;intro X D Y;obtain⟨st,ops,sgs,hc,hs⟩:=ho;have W:=G.W;rw[mH hc,Fv hs] at hm;have C:=mZ G.ev hc;obtain⟨oq,gq,QN,i,_⟩:=id C;have fl: ∀ {Q:VK},Q (.int st) H->dE K "strength" Q u.v H:=λq=>i.fld W.O.same T.ND T.LF rfl q
 unfold o9 at hm;refine aa4 (Z:= ¬u.ps.getLast?.any (jo st)=FS) (λna=>wV Y C W (λo ho=>?_) λho=>?_) λUi=>Dj (cU gk (dL Y G.hp (cM #[_,_,Go,Go,_,Go,?_])))
 ·rw[Fs na,ho] at hm
  cases hm;exact g
 ·rw[Fs na,ho] at hm
  cases hm;exact di Y W (AR cS (cM (bL (aO (ci (bD 1 (fl (cE #[st,Go,_,_,Go,Go,_,_,_,_,_,_,_,Go,W,g]))) rfl)) (ahS T) [07] T.d_T.c aT)))
 ·rcases TM u.ps with z|⟨qs,y,z⟩
  ·rw[z]
   exact bM (bM (Ui (by rw[z];exact Fl)))
  ·rw[TN] at z
   have hp:=G.hp;rw[z,He] at hp;rw[z,FE,FR];refine df (λ_=>?_) λz=>FP z (by show¬ ¬(0:Int)<((qs.length+1:FH):Int);lia)
   refine dv (bL (aO (ci (bD 1 (fl (aO (k7 (bD 2 #[_,dO cK ak,_,Go,u.p,_,_,V.int y,Go,Go,cw.of hp,eG _ _,cE #[st,y,Go,_,Go,aP (λey=>?_) λey=>Ui (by rw[z];simp [ey])]]) [002])))) rfl)) (ahR T) [07] T.ZT.c aT);rw[z,Fv (by simp [ey])] at hm;cases hm;exact di Y W (bL (aO (ci (bD 1 (fl (cE #[st,Go,_,_,_,_,_,_,_,Go,W,g]))) rfl)) (ahS T) [07] T.d_T.c aT)
theorem sk {α:Type}(l:Fh α) (h:2<=l.length): ∃qs x y,l=qs++[x,y]:=by
 refine#[l.take (l.length-2),l[l.length-2],l[l.length-1],?_];have t1:=TK (l.length-2) l;have t2:l.drop (l.length-2)=[l[l.length-2],l[l.length-1]]:=by
  rw[Hy (by lia),Hy (by lia),Km (by lia)]
  congr 2
  congr 1
  lia
 rw[t2] at t1;exact t1.symm
theorem Az {H:Hp}{Q:VK}{te:TE}(he:PE X e te) (hv: ∀R:VK,R (.ref p) H->te σ H R) (h:H p=FB (.lst (xs++[v]))) (q:Q v (aF H p (.lst xs))) (hb:IM e "pop" X.env (eval e X.env)=eval e X.env:=by rfl) (hp:iA p1 p2:=by rfl):Pe X (.Call (.Attribute e "pop" p1) [] [] p2) σ H Q:=
 #[_,Ap ID Sr Ss Ai he hb hp,hv _ #[.inl #[Go,_,cw.of h],p,_,v,Go,Go,h,by simp,by rw[Us];exact q]]
theorem ahZ (T:aU K mg a) (XC:XW K a):pw P w K mg base a 6 a.adG a.Yc "chain" λ_ e _=> ∃s ops sgs,lc e=FB (s,ops,sgs)/\ ¬s<=1:=by
 refine rG T XC [01] T.afp.F agL λHb A outer s H B c S F0 r b ff ds u us e ts sc n m Q E hr ho G hm g=>?_;intro X D Y;obtain⟨st,ops,sgs,hc,hs⟩:=ho;rw[mH hc,Fs hs] at hm;have C:=mZ G.ev hc;refine gi (λσ' H'=> ∃(ps:Fh Int) (y:FA V),σ'=[FB (.ref c.wk),FB u.v,FB (.ref u.p),y]/\pk a H' B c S F0 r b ff ds { u with ps:=ps } us e ts sc n/\rq ops e ps ts sc n=FB m) ?_ (cU gk (dL Y G.hp (cM #[_,_,Go,Go,_,Go,?_])))
 ·rintro σ' H' ⟨ps,y,rfl,G',Qi⟩
  refine wV (u:= { u with ps:=ps }) Y C G'.W (λo ho=>?_) λho=>?_
  ·have ho:ops[ps.length]?=FB o:=ho
   unfold rq at Qi;rw[ho] at Qi;cases Qi;exact g
  ·have ho:ops[ps.length]?=FM:=ho
   unfold rq at Qi;rw[ho] at Qi;obtain⟨x,hx,rfl⟩:=Gs.mp Qi;obtain⟨qs,rfl⟩: ∃qs,ps=qs++[x]:=Fh.getLast?_eq_some_iff.mp hx;have YO:=G'.hp;rw[He] at YO;exact di Y G'.W (k7 (bD 2 #[_,dO cK ak,_,Go,u.p,_,_,V.int x,Go,Go,cw.of YO,eG _ _,_,_,_,_,_,_,_,Go,G'.W,g]) [002])
 ·rw[FE]
  refine df (λz=>?_) λz=>#[u.ps,FM,Go,G,by rw[<-hm];exact(nH (by lia)).symm];obtain⟨qs,x,y,ep⟩:=sk u.ps (by lia);have hp:H u.p=FB (.lst ((qs++[x]).map V.int++[V.int y])):=by rw[G.hp,ep];simp
  rw[ep] at hm;cases XG:sgs[qs.length]? with
  |none=>rw[yT XG] at hm;cases hm
  |some op=>
   rw[sA XG] at hm;obtain⟨o1,o2,o3⟩:=yU G.ws hc hs (Hg XG);have bx:dC x:=G.psB x (by simp [ep]);have bY:dC y:=G.psB y (by simp [ep]);have mem: ∀z∈qs++[x],dC z:=λz hz=>G.psB z (by rw[ep];simp only[F8,FF,HP,or_false] at hz ⊢; rcases hz with h|h;exact .inl h;exact .inr (.inl h))
   have g1:pk a (aF H u.p (.lst ((qs++[x]).map V.int))) B c S F0 r b ff ds { u with ps:=qs++[x] } us e ts sc n:=G.part ae ow (by simp [ep]) mem;refine aN 3 Y.nd (Az (pv 2) [05] hp ?_)
   have WA:=g1.hp
   have WA:aF H u.p (.lst ((qs++[x]).map V.int)) u.p=FB (.lst (qs.map V.int++[V.int x])):=by rw[ae,He];rfl
   obtain⟨oq,gq,QN,i,_,_,⟨sq,rfl,_,hsq⟩⟩:=C;refine iP (pv 2) [05] WA (bL (aO (k7 (ci (bD 1 (i.fld g1.W.O.same T.ND T.Of rfl (AR cS (dL Y WA (cM #[_,_,Go,Go,sq,_,_,V.str (dM op),Go,Go,cw.of (g1.W.O.same _ _ hsq),?_,aO (k7 (bD 2 #[_,dO cK ak,_,Go,u.p,_,_,V.int x,Go,Go,cw.of WA,eG _ _,aO (bD 3 (cE #[op,st,x,y,Go,o1,bx,bY,o2,o3,?_]))]) [002])]))))) rfl) [002])) (ahV T XC) hr T.ZZ.c aA)
   ·rw[FR,FE,show(((qs.length+[V.int x].length:FH):Int)-1)=((qs.length:FH):Int) by show((qs.length+1:FH):Int)-1=_;lia]
    exact bB (by rw[GB,XG];rfl)
   ·cases hk:fU st op x y with
    |error k=>
     rw[hk] at hm;cases hm;exact λH' sm=>g H' λb o z=>sm b o (g1.W.O.same b o z)
    |ok z=>
     rw[hk] at hm;have gl:=G.len;rw[ep,FR] at gl;have gl:qs.length+2+n<=10000:=gl;intro H2 s2;refine#[_,s2 _ _ WA,by rw[FR,FE,Im];show qs.length+1<_;lia,cf #[qs++[x,z],FB (.int y),Go,?_,hm]];refine G.part (by rw[ae];simp) (λb o e nb=>?_) (by simp [ep]) λw hw=>?_
     ·rw[ac nb];exact s2 b o (ow b o e nb)
     ·have hw:w∈qs++[x]\/w=z:=by
       simp only[F8,FF,HP,or_false] at hw ⊢;rcases hw with h|h|h
       ·exact .inl (.inl h)
       ·exact .inl (.inr h)
       ·exact .inr h
      rcases hw with hw|hw
      ·exact mem w hw
      ·rw[hw];exact uo hk
theorem ama (T:aU K mg a) (XC:XW K a):pw P w K mg base a 7 a.f_8 a.aeo "chain" λ_ e _=> ∃x,lc e=FB x:=by
 refine rG T XC [01] T.d_8.F alu λHb A outer s H B c S F0 r b ff ds u us e ts sc n m Q E hr ho G hm g=>?_;intro X D Y;obtain⟨⟨st,ops,sgs⟩,hc⟩:=ho;obtain⟨oq,gq,QN,i,_⟩:=mZ G.ev hc;refine cx #[_,aZ lJ [010] (AW (aa (aQ (by rfl) T.Wm) (aa (aQ (by rfl) T.T9) ag))) rfl,i.fld G.W.O.same T.ND T.LF rfl #[by show 2<=Gk;decide,λt ht=>#[t,_,Go, .inr (rc.of ae),Go,Go,_,Go,?_]]];have G:=G.grow (bC (o:= .tup [.int 0, .int 1]) ht);show if uA (.int st) [.int 0, .int 1]=FS then _ else _
 have e0:uA (.int st) [.int 0, .int 1]=decide (st<=1):=by
  show((0:Int) == (st:Int)||((1:Int) == (st:Int)||false))=_
  rw[Pk,Hq,MF,beq_iff_eq,beq_iff_eq,Gp];lia
 rw[e0];have args: ∀ {sp:Sp}{x:FY}{k:FH}{f:Fq}{fd:Gz}{p1 p2 p3 p4 p5 p6:Pos},bV P w K mg base (f9 P w) k f fd ["worker","chain","parts"] sp->bZ k X.A->CD K mg x f fd ["worker","chain","parts"]->Gl X x->(x == [003])=Gc->sp [.ref c.wk,u.v, .ref u.p] (aF H t (.tup [.int 0, .int 1])) (λ_ H'=>Q .IX H') E->Bd X [.Expr (.Call (.Name x p1) [.Name "worker" p2, .Name "chain" p3, .Name "parts" p4] [] p5) p6] D [FB (.ref c.wk),FB u.v,FB (.ref u.p)] (aF H t (.tup [.int 0, .int 1])):=λG hr d hg hx q=>fm (bL (aO (bD 0 (aO (bD 1 (aO (bD 2 (cE q))))))) G hr d aA hg hx) rfl
 exact df (λs1=>args (al9 T XC) hr T.d_9.c rfl [01] (.mk rfl #[st,ops,sgs,hc,s1] G hm g)) λs1=>args (ahZ T XC) hr T.afp.c rfl [01] (.mk rfl #[st,ops,sgs,hc,s1] G hm g)
section
open Vbemac (checked)
def mt3 (e:Fz) (y:Fi) (b:Fz) (p q:Int) (acc:Fh Int) (t:FH) (r:Fh dS) (sc:Fh fz) (n:FH):FA Mc:=if p+(t:Int)<=q then(match n with
   |0=>FB (.err (-13))
   |n+1=>(match sc with
    |[]=>FM
    |h::tl=>FB (j9 b ((e,p::q::acc)::r) (pb (h::tl) y (p+(t:Int))) n)))
  else FB (eN r sc n (acc.getLast?.getD 0))
theorem uC (h:acc.length<=1):gM e y b p q acc ts sc n=mt3 e y b p q acc acc.length ts sc n:=by
 unfold gM mt3;dsimp only;rw[Fs (by lia)]
 all_goals rfl
theorem vo:gM e y b p q (acc++[x,z]) ts sc n=(match checked (x+z) 0 with
  | .error c=>FB (.err c)
  | .ok (d,_)=>mt3 e y b p q (acc++[x,d]) (acc.length+2) ts sc n):=by
 have l: ∀d,(acc++[x,d]).length=acc.length+2:=λd=>by simp
 unfold gM mt3;dsimp only;rw[l,Fv (by lia),Ng,show(acc++[x,z]).getD acc.length 0=x by simp [Ja],show acc.length+2-1=acc.length+1 from rfl,show(acc++[x,z]).getD (acc.length+1) 0=z by simp [Ja],
  show(acc++[x,z]).take (acc.length+1)=acc++[x] by rw[QP,JA (LI _)];simp]
 cases checked (x+z) 0 with
 |error c=>rfl
 |ok d=>
  obtain⟨d,_⟩:=d;dsimp only;rw[GN]
  rfl
theorem ah0 (T:aU K mg a) (XC:XW K a):pw P w K mg base a 6 a.adJ a.Yf "summed" λ_ e ps=> ∃y lo hi x p q acc,e= .sum y lo hi x/\ps=p::q::acc:=by
 refine rG T XC [01] T.afs.F agP λHb A outer s H B c S F0 r b ff ds u us e ts sc n m Q E hr ho G hm g=>?_;intro X D Y;obtain⟨y,lo,hi,x,p0,q0,acc,rfl,ep⟩:=ho;have ev:=G.ev;unfold aw at ev;obtain⟨u1,u2,u3,i,_,_,e3⟩:=ev;have hp:=G.hp;have psB:=G.psB;have gl:=G.len;rw[ep] at hm hp psB gl;have gl:acc.length+2+n<=10000:=gl;have hm:gM (.sum y lo hi x) y x p0 q0 acc ts sc n=FB m:=hm;refine aN 3 Y.nd (AR cS (dL Y hp (cM #[_,_,Go,Go,?_])));rw[FE,show(((p0::q0::acc).length:FH):Int)-2=((acc.length:FH):Int) by rw[FG,FG];lia];refine gi (λσ' H'=> ∃(as:Fh Int) (o:FA V),σ'=[FB (.ref c.wk),FB u.v,FB (.ref u.p),FB (.int (acc.length:FH)),o]/\as.length=acc.length/\pk a H' B c S F0 r b ff ds { u with ps:=p0::q0::as } us (.sum y lo hi x) ts sc n/\mt3 (.sum y lo hi x) y x p0 q0 as acc.length ts sc n=FB m) ?_ (cU gk (bD 3 (cM #[_,_,Go,Go,_,Go,df (λz0=>?_) λz0=>#[acc,FM,Go,Go,?_,by rw[<-hm];exact(uC (by lia)).symm]])))
 ·rintro σ' H' ⟨as,o,rfl,la,G',Qi⟩
  have YO:=G'.hp
  have W:=G'.W;refine cx (cU eP (AR dN (k7 (bD 2 (cM #[u.p,_,_,V.int p0,Go,Go,cw.of YO,bB (j:=0) rfl,bD 3 #[_,_,Go,Go,k7 (bD 2 (cM #[u.p,_,_,V.int q0,Go,Go,cw.of YO,bB (j:=1) rfl,_,_,Go,Go,_,Go,df (λe0=>?_) λe0=>?_])) [002]]])) [002])))
  ·unfold mt3 at Qi
   rw[Fv e0] at Qi;refine aR (bj (bS (pv 0) T.Iq T.We.c (h8 T XC) [07] aA)) #[c.wk,c.dw,_,Go,W.ins,Go, .mk rfl W (λz=>?_) λn' z H1 W1=>?_]
   ·rw[z] at Qi
    cases Qi;exact g H' W.O.same
   ·rw[z] at Qi
    have sq:=W1.sq;cases sq with
    |nil=>cases Qi
    | @cons d s0 ds sc h0 sq=>
    cases Qi;have bn:=W.bn.bn;exact bF #[_,cB (pv 0) T.Iq T.Xh.c (jZ T) [07] aT (aa [010] (aa (bW dN (cN bG (pv 2) ak [002]) (pv 3)) ag)),c.wk,c.dw,_,Go,W1.ins,Go,i.fld W1.O.same T.P9 T.Qw rfl #[u.p,_,_,V.int p0,Go,Go,cw.of (W1.O.get 5 rfl),bB (j:=0) rfl,_,_,Go,Go, .mk rfl W1 (by lia) λH2 W2=>e8 Y (ci (bD 1 (i.fld W2.O.same T.P9 T.Qy rfl #[x,_,_,W2,e3,g])) rfl) W2]]
  ·unfold mt3 at Qi
   rw[Fs e0] at Qi;cases Qi;refine di Y W #[_,dD (aZ gk (pv 3) ak (aK _)) (cN bG (pv 2) (dO cK ak) [002]) ak,_,_,Go,Go,_,Go,df (λe1=>?_) λe1=>?_]
   ·rcases TM as with z|⟨qs,zz,z⟩
    ·rw[z] at la;have la:0=acc.length:=la;lia
    rw[TN] at z;subst z;have hp2:H' u.p=FB (.lst ((p0::q0::qs).map V.int++[V.int zz])):=by rw[YO];simp
    rw[show(qs++[zz]).getLast?.getD 0=zz by simp] at g;exact#[_,Go,u.p,_,_,V.int zz,Go,Go,cw.of hp2,eG _ _,_,_,_,_,_,_,_,Go,W,g]
   ·have:as=[]:=QV (by lia)
    subst this;exact#[_,_,_,_,_,_,_,Go,W,g]
 ·obtain⟨qs,xx,z,rfl⟩:=sk acc (by lia)
  rw[vo] at hm;have YO:H u.p=FB (.lst ((p0::q0::(qs++[xx])).map V.int++[V.int z])):=by rw[hp];simp
  have sub: ∀w∈p0::q0::(qs++[xx]),dC w:=λw hw=>psB w (by
   simp only[FF,F8,HP,or_false] at hw ⊢;rcases hw with h|h|h|h
   ·exact .inl h
   ·exact .inr (.inl h)
   ·exact .inr (.inr (.inl h))
   ·exact .inr (.inr (.inr (.inl h))))
  have g1:=G.part (H':=aF H u.p (.lst ((p0::q0::(qs++[xx])).map V.int))) (ps:=p0::q0::(qs++[xx])) ae ow (by rw[ep];simp) sub
  have WA:aF H u.p (.lst ((p0::q0::(qs++[xx])).map V.int)) u.p=FB (.lst ((p0::q0::qs).map V.int++[V.int xx])):=by rw[ae];simp
  refine aN 4 Y.nd (Az (pv 2) [05] YO (iP (pv 2) [05] WA (bL (aO (AR dN (k7 (bD 2 #[_,dO cK ak,_,Go,u.p,_,_,V.int xx,Go,Go,cw.of WA,eG _ _,bD 4 #[_,_,Go,Go,cE #[xx+z,Go,λhb=>?_,λhb=>?_]]]) [002]))) (ahU T XC) [07] T.d_y.c aA)))
  ·rw[show checked (xx+z) 0= .ok (xx+z,0) by unfold checked;exact Fv hb] at hm
   refine#[_,WA,by rw[FR,FE,Im];simp only[FG,FR,Ku] at gl ⊢; lia,cf #[qs++[xx,xx+z],FB (.int z),Go,by simp,?_,by rw[show(qs++[xx,z]).length=qs.length+2 by simp];exact hm]];refine G.part (by rw[ae];simp) (λb o e nb=>by rw[ac nb,ac nb];exact e) (by rw[ep];simp) λw hw=>?_;have hw:w∈p0::q0::(qs++[xx])\/w=xx+z:=by
    simp only[FF,F8,HP,or_false] at hw ⊢;rcases hw with h|h|h|h|h
    ·exact .inl (.inl h)
    ·exact .inl (.inr (.inl h))
    ·exact .inl (.inr (.inr (.inl h)))
    ·exact .inl (.inr (.inr (.inr h)))
    ·exact .inr h
   rcases hw with hw|hw
   ·exact sub w hw
   ·rw[hw];exact hb
  ·rw[show checked (xx+z) 0= .error (-12) by unfold checked;exact Fs hb] at hm
   cases hm;exact g _ g1.W.O.same _ (.tail _ (.head _))
 ·rw[<-ep];exact G
theorem ah1 (T:aU K mg a) (XC:XW K a):pw P w K mg base a 7 a.adI a.Ye "summed" λ_ e _=> ∃y lo hi x,e= .sum y lo hi x:=by
 refine rG T XC [01] T.afr.F agO λHb A outer s H B c S F0 r b ff ds u us e ts sc n m Q E hr ho G hm g=>?_;intro X D Y;obtain⟨y,lo,hi,x,rfl⟩:=ho;have W:=G.W;have ev:=G.ev;unfold aw at ev;obtain⟨u1,u2,u3,i,e1,e2,_⟩:=ev;have hp:=G.hp;have hm0:=hm;refine cx (jw (dL Y hp (cM #[_,_,Go,Go,?_])));rw[FE];generalize W0:u.ps=ps at hm hp
 match ps,hm with
 |[],hm=>cases hm;exact ca (e8 Y (ci (bD 1 (i.fld W.O.same T.P9 T.Pw rfl #[lo,_,_,W,e1,by rw[W0];exact g])) rfl) W)
 |[t],hm=>cases hm;exact bM (cx (jw (dL Y hp (cM #[_,_,Go,Go,ca (e8 Y (ci (bD 1 (i.fld W.O.same T.P9 T.Qx rfl #[hi,_,_,W,e2,by rw[W0];exact g])) rfl) W)]))))
 |p0::q0::acc,hm=>
  refine df (λe0=>FP e0 (by rw[FG,FG];lia)) λ_=>cx (jw (dL Y hp (cM #[_,_,Go,Go,?_])));rw[FE];exact df (λe0=>FP e0 (by rw[FG,FG];lia)) λ_=>fm (bL (aO (bD 0 (aO (bD 1 (aO (bD 2 (cE (.mk rfl #[y,lo,hi,x,p0,q0,acc,Go,W0] G hm0 g)))))))) (ah0 T XC) hr T.afs.c aA) rfl
end
theorem oM: ∀(m acc:Fh (be×V)),(m.map λq:be×V=>q.1).Nodup->bO (fO acc m) k=(match bO m k with
  |some v=>FB v
  |none=>bO acc k)
 |[],acc,_=>rfl
 |p::m,acc,nd=>by
  obtain⟨n1,n2⟩:=Gu.mp nd;show bO (fO (dB acc p.1 p.2) m) k=_;rw[oM m _ n2,gI];by_cases e:p.1=k
  ·have:bO m k=FM:=by
    unfold bO;rw[PR.mpr λx hx z=>n1 (by show p.1∈_;rw[e,<-Ga z];exact La (f:=λq:be×V=>q.1) hx)]
    rfl
   rw[this,cg e,Fv e.symm]
  ·rw[b8 e,Fs (λz=>e z.symm)]
abbrev aC (ps:Fh Fi) (l:Fh Int):Fh (be×V):=(ps.zip l).map λq=>(nk q.1, .int q.2)
theorem Cq: ∀ {ps:Fh Fi}{l:Fh Int},ps.Nodup->((aC ps l).map λq:be×V=>q.1).Nodup
 |[],_,_=> .nil
 |_::_,[],_=> .nil
 |p::ps,x::l,nd=>by
  obtain⟨n1,n2⟩:=Gu.mp nd;refine Gu.mpr #[λhm=>?_,Cq n2];obtain⟨q,hq,e⟩:=LP.mp hm;obtain⟨y,hy,rfl⟩:=LP.mp hq;exact n1 ((show y.1=p from eJ (JM e))▸(Lr hy).1)
theorem abx {ps:Fh Fi}{l:Fh Int}(nd:ps.Nodup) (h6:ps.length<=6) {b:FH}(hb:6<=b) (q:Fq):abv b (q,fO [] (aC ps l)) (vd ps l):=by
 refine#[λu=>?_,?_]
 ·show bO (fO [] (aC ps l)) (nk u)=_
  rw[oM _ _ (Cq nd)];have:bO (aC ps l) (nk u)=(vd ps l u).map V.int:=by
   unfold bO vd aC;rw[Fh.find?_map,WJ,WJ]
   congr 1
   congr 1
   funext x
   exact(decide_eq_decide.mpr #[λz=>eJ (JM z),λz=>by rw[z]]).trans (GA.beq_eq_decide_eq ..).symm
  rw[this];cases vd ps l u<;>rfl
 ·refine FV (gB _ _) ?_
  simp [aC,W7];lia
theorem amb (T:aU K mg a) (XC:XW K a):pw P w K mg base a 7 a.f_6 a.aem "call" λ_ e _=> ∃f l,e= .call f l:=by
 refine rG T XC [01] T.d_6.F alr λHb A outer s H B c S F0 r b ff ds u us e ts sc n m Q E hr ho G hm g=>?_;intro X D Y;obtain⟨f,l,rfl⟩:=ho;have W:=G.W;have ev:=G.ev;unfold aw at ev;obtain⟨_,QN,i,⟨aq,rfl,_,h2⟩,h3⟩:=ev;have pr:=mn h3;have ha:=W.O.same _ _ h2;have hp:=G.hp;have nm: ∀ {H:Hp}{Q:VK},aS B.H H->Q (.str (sb f)) H->dE K "name" Q u.v H:=λk q=>i.fld k T.QR T.Pq rfl q
 have ar: ∀ {Q:VK},Q (.ref aq) H->dE K "arguments" Q u.v H:=λq=>i.fld W.O.same T.QR T.M5 rfl q
 have wf: ∀ {Q:VK},Q (.ref c.fa) H->dE K "functions" Q (.ref c.wk) H:=λq=>W.fld T T.KS rfl q
 unfold eD at hm;dsimp only at hm;refine aN 3 Y.nd (iH T.J8 ha [010] (λ_ q=>ar q) (cx (cU kG (dL Y hp (bD 3 #[_,_,Go,Go,_,Go,?_])))));rw[FE,aV pr];refine df (λz=>?_) λz=>?_
 ·have lt:u.ps.length<(lK l).length:=by lia
  rw[HI lt] at hm;cases hm;obtain⟨v,hv,ew⟩:=jD pr (HI lt);exact e8 Y (k7 (ci (bD 1 (ar (dL Y hp #[aq,_,_,v,Go,Go,cw.of ha,by rw[FE];exact bB hv,_,_,_,W,ew,g]))) rfl) [002]) W
 ·rw[Jg (by lia)] at hm
  have f2:=W.fn.2 f;obtain⟨V0,G0,ws,sb0⟩:=G.ws;unfold WS at ws;obtain⟨⟨k,hk,hk2⟩,_⟩:=ws
  have FO:=G.FO.all f k (sb0 f k hk);refine cx #[_,fD (i6 (dz hr) [010] [000]),nm W.O.same (wf #[c.fa,_,Go,gz.k (k:=nk f) (W.O.get 3 rfl),_,Go,?_])];cases hf:S.funs.find? λg=>g.1 == f with
  |none=>
   rw[hf] at f2 hm FO;dsimp only at f2 hm;rw[f2];refine ca ?_;split at hm
   ·rename_i hl
    cases hm;rcases FO with⟨g',hg,_⟩|⟨_,hb⟩
    ·cases hg
    ·exact di Y W (bL (aO (ci (bD 1 (nm W.O.same (aO (bD 2 (cE #[f,u.p,u.ps,k,Go,hp,hb,by rw[hl,hk2],_,_,_,_,_,_,_,Go,W,g]))))) rfl)) (ahT T) [07] T.ZR.c aT)
   ·cases hm
  |some fu=>
   rw[hf] at f2 hm FO;dsimp only at f2 hm;obtain⟨v,f2,f3⟩:=f2;rw[f2];refine bM (cx (jw (dL Y hp (bD 3 #[_,_,Go,Go,?_]))));rw[FE];refine df (λz=>?_) λz=>?_
   ·have hl:u.ps.length=(lK l).length:=by lia
    rw[Fv hl] at hm;cases hm;rcases FO with⟨g',hg,gl,gf⟩|⟨hg,_⟩
    ·cases hg
     obtain⟨q,w,i2,⟨pq,rfl,_,h4⟩,h5⟩:=f3;have g1:=gz.k (k:=nk f) (W.O.get 3 rfl);have g1:gz H c.fa (kV (nk f)) (FB v):=by rw[<-f2];exact g1
     have le:fu.2.1.length=u.ps.length:=by rw[gl,hl,hk2]
     have e1:(aC fu.2.1 u.ps).map (λq=>kV q.1)=gS fu.2.1:=by
      unfold gS aC;rw[JT,show((λq:be×V=>kV q.1) ∘ λq:Fi×Int=>(nk q.1,V.int q.2))=(λp=>V.str (sb p)) ∘ Prod.fst from rfl,<-JT,Fh.map_fst_zip (Kq le)]
     have e2:(aC fu.2.1 u.ps).map (λq:be×V=>q.2)=u.ps.map V.int:=by
      unfold aC;rw[JT,show((λq:be×V=>q.2) ∘ λq:Fi×Int=>(nk q.1,V.int q.2))=V.int ∘ Prod.snd from rfl,<-JT,Fh.map_snd_zip (Kq le.symm)]
     refine aN 4 Y.nd #[_,kh (dz hr) [000] [010] [002],wf (nm W.O.same #[c.fa,v,Go,g1,?_])];refine iP [000] (λ_ q=>W.fld T T.JY rfl q) (W.O.get 2 rfl) #[_,uQ rfl (by rfl) T.afy (by rfl) T.Ws (aa (aj (pv 4) rfl) (aa (pv 2) ag)) rfl rfl,i2.fld W.O.same T.Q3 T.M8 rfl #[pq,u.p,aC fu.2.1 u.ps,Go,by rw[e1];exact cw.of (W.O.same _ _ h4),by rw[e2];exact cw.of hp,λd hd=>#[_,bC hd _ _ (W.O.get 2 rfl),?_,?_]]]
     ·rw[GS,FE,aV W.sq,Im]
      have:=W.bn.sl;lia
     ·have W1:=W.pushS hd (bC hd) ae (abx (l:=u.ps) gf.nd gf.le W.bn.b6 d) (by have:=G.gd.2.2;lia)
      exact e8 Y (ci (bD 4 (i2.fld W1.O.same T.Q3 T.Q4 rfl #[fu.2.2,_,_,W1,h5,g])) rfl) W1
    ·cases hg
   ·rw[Fs (by lia)] at hm
    have sq:=W.sq;cases sq with
    |nil=>cases hm
    | @cons d s0 ds sc h0 sq=>
    obtain⟨x,hx,rfl⟩:=Gs.mp hm;have W1:=W.al3;refine bF (Az [000] (λ_ q=>W.fld T T.JY rfl q) W.sl1 (di Y W1 (k7 (bD 2 (bD 3 #[u.p,_,_,V.int x,Go,Go,cw.of (W1.O.get 5 rfl),bB (by rw[GB,hx];rfl),_,_,_,_,_,_,_,Go,W1,g])) [002])))
inductive Nd1 (a:bi) (M:Fq->Prop) (H:Hp) (i:FH) (v:V):Prop
 |mk {C:Fq}{fs:Fh (FY×V)}(_:bJ M H C fs v) (_:(zQ a)[i]?=FB C):Nd1 a M H i v
def cidx:Fz->FH
 | .num _=>0
 | .name _=>1
 | .call _ _=>2
 | .neg _=>3
 | .not _=>3
 | .pick _ _ _=>5
 | .sum _ _ _ _=>6
 |_=>4
theorem wL {a:bi}{M:Fq->Prop}{H:Hp}{e:Fz}{v:V}(h:aw a M H e v):Nd1 a M H (cidx e) v:=by
 cases e<;>unfold aw at h
 ·exact#[h,Go]
 ·exact#[h,Go]
 ·obtain⟨_,_,h,_⟩:=h;exact#[h,Go]
 ·obtain⟨_,h,_⟩:=h;exact#[h,Go]
 ·obtain⟨_,h,_⟩:=h;exact#[h,Go]
 ·obtain⟨_,_,_,_,_,h,_⟩:=h;exact#[h,Go]
 ·obtain⟨_,_,_,_,_,h,_⟩:=h;exact#[h,Go]
 ·obtain⟨_,_,_,_,h,_⟩:=h;exact#[h,Go]
 ·obtain⟨_,_,_,_,h,_⟩:=h;exact#[h,Go]
 ·obtain⟨_,_,_,_,h,_⟩:=h;exact#[h,Go]
 ·obtain⟨_,_,_,h,_⟩:=h;exact#[h,Go]
 ·obtain⟨_,_,_,h,_⟩:=h;exact#[h,Go]
section
variable {M:Fq->Prop}{B H:Hp}{te:TE}{R:GA->Hp->Prop}
theorem uM (N:ms X.K a) (n:X.mg "isinstance"=FM) (h:Nd1 a M B i v) (sm:aS B H) (hj:(zQ a)[j]?=FB C) (hm:X.mg c=FB (.ref C)) (he:PE X e te) (hv: ∀Q:VK,Q v H->te σ H Q) (q:R (decide (i=j)) H) (hg:Gl X "isinstance":=by rfl) (hc:Gl X c:=by rfl) (hx:(c == [003])=Gc:=by decide) (KH:FU [e, .Name c p2] X.env=[001]::FU [.Name c p2] X.env:=by rfl):
  Pt X (.Call (.Name "isinstance" p1) [e, .Name c p2] [] p3) σ H R:=by
 obtain @⟨C',fs,⟨p,dx,rfl,_,z⟩,hC⟩:=h;have i7:i<15:=(Gq.mp hC).1;have j7:j<15:=(Gq.mp hj).1;have k:=Gx (λl:Fh (Fh (FA GA))=>(l[i]?.bind λr=>r[j]?)) N.kit
 have k:HA X.K (.ref C') (.ref C)=FB (decide (i=j)):=by simpa [hC,hj,MI i7,MI j7] using k
 exact dv #[_,aY jg hg n O9 (aa he (aa (gW hc hm hx) ag) KH) [01] [01] KH rfl,hv _ #[_,C,_,_,Go,(N.ty _ (Hg hC)).of (sm _ _ z),k,_,Go,q]]
end
theorem amc (T:aU K mg a) (XC:XW K a) (KX:ms K a):pw P w K mg base a 8 a.f_5 a.ael "exp" λ_ _ _=>True:=by
 refine rG T XC [01] T.d_5.F alq λHb A outer s H B c S F0 r b ff ds u us e ts sc n m Q E hr _ G hm g=>?_;intro X D Y;have W:=G.W;have ev:=G.ev;have nd:=wL ev;have is: ∀ {cl:FY}{C:Fq}{A Ui:Fh Stmt}{p1 p2 p3 p4 p5:Pos}(j:FH),mg cl=FB (.ref C)->(zQ a)[j]?=FB C->Gl X cl->(cl == [003])=Gc->(cidx e=j->Bd X A D [FB (.ref c.wk),FB u.v,FB (.ref u.p)] H)->(cidx e≠j->Bd X Ui D [FB (.ref c.wk),FB u.v,FB (.ref u.p)] H)->Bd X [.If (.Call (.Name "isinstance" p1) [.Name "exp" p2, .Name cl p3] [] p4) A Ui p5] D [FB (.ref c.wk),FB u.v,FB (.ref u.p)] H:=λj hm hj hg hx yes no=>cx (uM KX T.KQ nd W.O.same hj hm (pv 1) [05] (df yes no) (by rfl) hg hx)
 have go: ∀ {sp:Sp}{x y:FY}{k:FH}{f:Fq}{fd:Gz}{p1 p2 p3 p4 p5 p6:Pos},bV P w K mg base (f9 P w) k f fd ["worker",y,"parts"] sp->k<=7->CD K mg x f fd ["worker",y,"parts"]->Gl X x->(x == [003])=Gc->sp [.ref c.wk,u.v, .ref u.p] H (λ_ H'=>Q .IX H') E->Bd X [.Expr (.Call (.Name x p1) [.Name "worker" p2, .Name "exp" p3, .Name "parts" p4] [] p5) p6] D [FB (.ref c.wk),FB u.v,FB (.ref u.p)] H:=λG hk d hg hx q=>fm (bL (aO (bD 0 (aO (bD 1 (aO (bD 2 (cE q))))))) G (hr.mono hk) d aA hg hx) rfl
 refine is 0 T.RF rfl rfl [01] (λz=>?_) λz0=>?_
 ·obtain⟨x,rfl⟩: ∃x,e= .num x:=by cases e<;>first|exact#[_,Go]|cases z
  unfold aw at ev;cases hm;exact di Y W (ci (bD 1 (ev.fld W.O.same T.P7 T.N0 rfl #[_,_,_,_,_,_,_,Go,W,g])) rfl)
 refine is 1 T.UE rfl rfl [01] (λz=>?_) λz1=>?_
 ·obtain⟨x,rfl⟩: ∃x,e= .name x:=by cases e<;>first|exact#[_,Go]|cases z
  unfold aw at ev;obtain⟨y,hy,rfl⟩:=Gs.mp (show(look sc x).map (eN ts sc n)=FB m from hm);exact di Y W #[_,cB (pv 0) T.Iq T.ZW.c (tF T) [07] aT (aa [010] ag),c.wk,c.dw,_,Go,W.ins,Go,ev.fld W.O.same T.RW T.Pp rfl (.mk rfl W hy #[_,_,_,_,_,_,_,Go,W,g])]
 refine is 2 T.UG rfl rfl [01] (λz=>go (amb T XC) [01] T.d_6.c rfl [01] (.mk rfl ?_ G hm g)) λz2=>?_
 ·cases e<;>first|exact#[_,_,Go]|cases z
 refine is 3 T.SQ rfl rfl [01] (λz=>go (al8 T XC) [01] T.d_7.c rfl [01] (.mk rfl ?_ G hm g)) λz3=>?_
 ·cases e<;>first|exact#[_, .inl rfl]|exact#[_, .inr rfl]|cases z
 refine is 4 T.SR rfl rfl [01] (λz=>go (ama T XC) [01] T.d_8.c rfl [01] (.mk rfl ?_ G hm g)) λz4=>?_
 ·cases e<;>first|exact#[_,Go]|cases z
 refine is 5 T.RG rfl rfl [01] (λz=>go (ahY T XC) [01] T.afq.c rfl [01] (.mk rfl ?_ G hm g)) λz5=>?_
 ·cases e<;>first|exact#[_,_,_,Go]|cases z
 refine go (ah1 T XC) [01] T.afr.c rfl [01] (.mk rfl ?_ G hm g);cases e<;>first|exact FP rfl z0|exact FP rfl z1|exact FP rfl z2|exact FP rfl z3|exact FP rfl z4|exact FP rfl z5|exact#[_,_,_,_,Go]
end OS
namespace OS
open Vbemac
def ah2 (S:Scope) (V:Fh Gv) (v:Env) (r:Res Int) (n:FH):Mc->Prop
 | .err c=>r= .error c
 | .go _ _ _=>False
 | .done x sc m=>r= .ok (x,m)/\m<n/\ ∃h,sc=[h]/\Ag S V v [h]
theorem EH {h:fz}(FO:gA S F0) (A:Ag S V v [h]) (w:WS V G e) (sb:Sub G F0) (hk:3*n+1<=k):HE S.funs (ah2 S V v (ev k S v e n) n) (j9 e [] [h] n):=by
 refine abr FO k V v G e [] h [] n A w sb hk ?_;unfold abq;cases ev k S v e n with
 |error c=>exact rfl
 |ok x=>exact λ_ hm h A=>#[0, .here #[Go,hm,h,Go,A]]
end OS
namespace OS
open PySem PySem.Spec L2
open PyProof.Rows hiding St
variable {P:Gh}{w:GR}{K:Fm}{mg:FY->FA Fp}{base:Ha}{a:bi}
inductive Be (a:bi) (vs:Fh V) (H:Hp) (Q:VK) (E:XK):Prop
 |mk {B:tW}{c:qh}{S:Ij}{F0 G:Fh (Fi×FH)}{r:V}{b:FH}{s:fz}{n k:FH}{e:Fz}{v:V}{U:Fh Fi}{en:Hw}(_:vs=[.ref c.wk,v]) (_:gA S F0) (_:WS U G e) (_:Sub G F0) (_:Ag S U en [s]) (_:zF [s]) (_:Wk a B H c S.funs r b [] [s] n) (_:aw a B.M B.H e v) (_:3*n+1<=k)
  (_: ∀x,L5 k S en e n= .error x-> ∀H',aS B.H H'->pj a E H' x) (_: ∀x m,L5 k S en e n= .ok (x,m)->m<n->dC x-> ∀H' b s,Ag S U en [s]->zF [s]->Wk a B H' c S.funs (.int x) b [] [s] m->Q (.int x) H'):Be a vs H Q E
def Far (a:bi) (B:tW) (c:qh) (S:Ij) (F0:Fh (Fi×FH)) (f:Mc->Prop) (i:FH) (H:Hp):Prop:= ∃m,lO S.funs f m i/\Gd F0 m/\(match m with
 | .err _=>False
 | .go ts sc n=>ts≠[]/\ ∃r b,Wk a B H c S.funs r b ts sc n
 | .done x sc n=> ∃b,Wk a B H c S.funs (.int x) b [] sc n)
theorem pS {f:Mc->Prop}(h:lO F f (.go ts sc n) j) (ng: ∀ts sc n,¬f (.go ts sc n)): ∃m i,eD F (.go ts sc n)=FB m/\lO F f m i/\j=i+1:=by
 cases h with
 |here h=>exact FP h (ng ts sc n)
 |step h1 h2=>exact#[_,_,h1,h2,Go]
theorem sy {a:bi}{f:Mc->Prop}{E:XK}{N:Hp->Prop}(ng: ∀ts sc n,¬f (.go ts sc n)) (he: ∀x,f (.err x)-> ∀H',aS B.H H'->pj a E H' x) (hi:lO S.funs f m i) (gd:Gd F0 m) (q: ∀H,Far a B c S F0 f i H->N H):ox a B c S.funs N E m:=by
 cases m with
 |err k=>
  cases hi with
  |here h=>exact he k h
  |step h _=>cases h
 |go ts sc n=>
  refine λH' r b W=>q H' #[_,hi,gd,λz=>?_,r,b,W];obtain⟨m,_,hm,_⟩:=pS hi ng;rw[z] at hm;cases hm
 |done x sc n=>exact λH' b W=>q H' #[_,hi,gd,b,W]
theorem tS (T:aU K mg a) (XC:XW K a) (KX:ms K a):T.ZY.O P w mg base 9 (Be a):=by
 refine fS T.ZY.F agK [03] [02];obtain @⟨B,c,S,F0,G,r,b,s,n,k,e,v,U,en,rfl,FO,ws,sb,Ag0,gs,⟨W⟩,ev0,hk,qe,qo⟩:=h;obtain⟨j,hj⟩:=EH FO Ag0 ws sb hk;generalize hf:ah2 S U en (L5 k S en e n) n=f at hj;have ng: ∀ts sc n,¬f (.go ts sc n):=λts sc n z=>by rw[<-hf] at z;exact z
 have he: ∀x,f (.err x)-> ∀H',aS B.H H'->pj a E H' x:=λx z=>by rw[<-hf] at z;exact qe x z
 have gd0:Gd F0 (j9 e [] [s] n):=fC (λt ht=>nomatch ht) gs #[U,G,ws,sb] (by have:=W.bn.VM;show 1+n<=10002;lia)
 refine aR (bj (cB (pv 0) T.Iq T.Xi.c (tD T XC) [07] aA (aa (pv 1) ag))) #[c.wk,c.dw,_,Go,W.ins,Go, .mk rfl W ev0 (sy ng he hj gd0 λH1 h1=>?_)];refine f7 Jo (λi σ H=>σ=[FB (.ref c.wk),FB v]/\Far a B c S F0 f i H) j #[Go,h1] ?_;rintro i σ H2 ⟨rfl,m',Qi,gd,hW⟩;cases m' with
 |err k=>exact hW.elim
 |done x sc2 n2=>
  obtain⟨b2,⟨W2⟩⟩:=hW;have tk:=W2.tk;cases tk;refine cU gk (iH T.J8 W2.tl [000] (λ_ q=>W2.fld T T.Jc rfl q) (cM #[_,_,Go,Go,_,Go,bM ?_]));cases Qi with
  |step h _=>cases h
  |here h=>
   rw[<-hf] at h;obtain⟨h1,h2,s',rfl,A'⟩:=h;exact aM (ci (bD 0 (W2.fld T T.LZ rfl (qo x n2 h1 h2 gd.1 H2 b2 s' A' gd.2.1 #[W2]))) rfl)
 |go ts sc2 n2=>
  obtain⟨ne,r2,b2,⟨W2⟩⟩:=hW;obtain⟨m3,i3,s3,h3,rfl⟩:=pS Qi ng;have tk:=W2.tk;cases tk with
  |nil=>exact FP rfl ne
  | @cons u t us ts ht tk=>
  obtain⟨e2,ps⟩:=t;obtain rfl:u.ps=ps:=ht.2;have tsk: ∀ {Q:VK},Q (.ref u.t) H2->dE K "tasks" (λx H1=>tUn (rU λi=> .int (-i)) (tC (.int 1)) [FB (.ref c.wk),FB v] H1 λy H2=>CV K x y H2 Q) (.ref c.wk) H2:=λq=>W2.fld T T.Jc rfl #[_,Go,c.tl,_,_,V.ref u.t,Go,Go,cw.of W2.tl1,eG _ _,q]
  have h4:=W2.O.get 4 rfl;refine cU gk (iH T.J8 W2.tl [000] (λ_ q=>W2.fld T T.Jc rfl q) (cM #[_,_,Go,Go,_,Go,?_]))
  rw[GS,FE,FG];refine df (λ_=>?_) λz=>FP z (by lia);refine fm #[_,aI (amc T XC KX) hr (by rfl) T.d_5.c aA (aa (pv 0) (aa (aj (cN bG [000] (dO cK ak) [002]) rfl) (aa (aj (cN bG [000] (dO cK ak) [002]) rfl) ag))),tsk #[u.t,_,u.d,_,u.v,Go,h4,T.PH,T.QC,Go,tsk #[u.t,_,u.d,_,V.ref u.p,Go,h4,T.PH,T.Nl,Go, .mk rfl Hs #[FO,gd,W2] s3 (sy ng he h3 (ET FO gd s3) λH3 h=>#[i3,HQ _,Go,h])]]] rfl
end OS
namespace OS
open Vbemac
def Et (t:M0):Prop:= ∀x∈t,∀n,x.1= .num n->n<1000000000000000000
theorem Et.drop (h:Et t) (k:FH):Et (t.drop k):=λx hx=>h x (Ut hx)
def Po {α:Type}(p:P α) (Q:α->Prop):Prop:= ∀t a r,Et t->p t= .ok (a,r)->Q a/\Et r
section
variable {α β:Type}{p:P α}{Q:α->Prop}{R:β->Prop}
theorem Po.bind {f:α->P β}(h:Po p Q) (g: ∀a,Q a->Po (f a) R):Po (p>>=f) R:=by
 intro t b r nb e;have e':(match p t with
  | .error z=> .error z
  | .ok (a,s)=>f a s)=Except.ok (b,r):=by
  rw[<-e];show _=(p t>>=λx=>f x.1 x.2)
  cases p t<;>rfl
 cases z:p t with
 |error c=>rw[z] at e';cases e'
 |ok x=>
  rw[z] at e';obtain⟨q,n⟩:=h t x.1 x.2 nb z;exact g x.1 q x.2 b r n e'
theorem Po.pure {a:α}(h:Q a):Po (pure a:P α) Q:=by
 intro t b r nb e;cases e;exact#[h,nb]
theorem Po.mono {Q':α->Prop}(h:Po p Q) (g: ∀a,Q a->Q' a):Po p Q':=λt a r nb e=>#[g a (h t a r nb e).1,(h t a r nb e).2]
theorem Po.fail:Po (FT n:P α) Q:=λt a r nb e=>by unfold FT at e;cases e
theorem Po.ite {c:M0->GA}{p q:P α}(h1:Po p Q) (h2:Po q Q):Po (λt=>if c t=FS then p t else q t) Q:=λt a r nb e=>by
 dsimp only at e;split at e
 ·exact h1 t a r nb e
 ·exact h2 t a r nb e
end
theorem cO:Po next λ_=>True:=λt a r nb e=>by unfold next at e;cases e;exact#[trivial,nb.drop 1]
theorem fY (w:String):Po (key w) λ_=>True:=λt a r nb e=>by
 unfold key at e;split at e
 ·cases e;exact#[trivial,nb.drop 1]
 ·unfold FT at e;cases e
theorem bh (w:String):Po (sign w) λ_=>True:=λt a r nb e=>by
 unfold sign at e;split at e
 ·cases e;exact#[trivial,nb.drop 1]
 ·unfold FT at e;cases e
theorem gO (w:String):Po (ifSign w) λ_=>True:=λt a r nb e=>by
 unfold ifSign at e;split at e
 ·cases e;exact#[trivial,nb.drop 1]
 ·cases e;exact#[trivial,nb]
theorem zx (d:FH):Po (deeper d) λ_=>True:=λt a r nb e=>by
 unfold deeper at e;split at e
 ·unfold FT at e;cases e
 ·cases e;exact#[trivial,nb]
theorem ly (l:Fh String):Po (LV l) λo=> ∀s,o=FB s->s∈l.map text:=λt a r nb e=>by
 unfold LV at e;split at e
 ·split at e
  ·rename_i h
   cases e;exact#[λs z=>by cases z;exact Gw.mp h,nb.drop 1]
  ·cases e;exact#[λs z=>(nomatch z),nb]
 ·cases e;exact#[λs z=>(nomatch z),nb]
theorem jM:Po anyName λ_=>True:=λt a r nb e=>by
 unfold anyName at e;split at e
 ·split at e
  ·unfold FT at e;cases e
  ·cases e;exact#[trivial,nb.drop 1]
 ·unfold FT at e;cases e
theorem de (K:Known):Po (newName K) λx=>x∉K.values/\(∀g∈K.funs,g.1≠x):=λt a r nb e=>by
 unfold newName at e;split at e
 ·cases e
 ·rename_i w s h
  split at e
  ·unfold FT at e;cases e
  ·rename_i hk
   cases e;unfold Known.taken at hk;rw[MF,V6] at hk;exact#[#[λz=>hk.1 (Gw.mpr z),λg hg z=>hk.2 (Mf.mpr #[g,hg,by rw[z];exact Hf _])],(jM t _ _ nb h).2]
structure PoA (k:FH):Prop where
 expr: ∀d K,Po (expr k d K) (WS K.values K.funs)
 moreOr: ∀d K,Po (moreOr k d K) (nM K.values K.funs)
 ands: ∀d K,Po (ands k d K) (WS K.values K.funs)
 moreAnd: ∀d K,Po (moreAnd k d K) (nM K.values K.funs)
 compared: ∀d K,Po (compared k d K) (WS K.values K.funs)
 added: ∀d K,Po (added k d K) (WS K.values K.funs)
 moreAdded: ∀d K,Po (moreAdded k d K) (uI ["+","-"] K.values K.funs)
 times: ∀d K,Po (times k d K) (WS K.values K.funs)
 moreTimes: ∀d K,Po (moreTimes k d K) (uI ["*","/","%"] K.values K.funs)
 unary: ∀d K,Po (unary k d K) (WS K.values K.funs)
 primary: ∀d K,Po (primary k d K) (WS K.values K.funs)
 arguments: ∀d K n,1<=n->Po (arguments k d K n) λl=>nM K.values K.funs l/\(lK l).length=n
theorem rk: ∀k,PoA k
 |0=>by
  refine#[?_,?_,?_,?_,?_,?_,?_,?_,?_,?_,?_,?_]<;>intros<;>first|(unfold FZ;exact Po.fail)|(unfold Xd;exact Po.fail)|(unfold Zs;exact Po.fail)|(unfold WK;exact Po.fail)|(unfold V2;exact Po.fail)|(unfold X4;exact Po.fail)|(unfold VA;exact Po.fail)|(unfold X5;exact Po.fail)|(unfold VB;exact Po.fail)|(unfold G8;exact Po.fail)|(unfold GU;exact Po.fail)|(unfold Qn;exact Po.fail)
 |k+1=>by
  have I:=rk k;refine#[λd K=>?_,λd K=>?_,λd K=>?_,λd K=>?_,λd K=>?_,λd K=>?_,λd K=>?_,λd K=>?_,λd K=>?_,λd K=>?_,λd K=>?_,λd K n hn=>?_]
  ·unfold FZ
   refine Po.ite ?_ ?_
   ·refine(zx d).bind λe _=>cO.bind λ_ _=>(I.expr e K).bind λc wc=>(fY _).bind λ_ _=>(I.expr e K).bind λx wx=>(fY _).bind λ_ _=>(I.expr e K).bind λy wy=>Po.pure ?_
    unfold WS;exact#[wc,wx,wy]
   ·refine(I.ands d K).bind λx wx=>(I.moreOr d K).bind λl wl=>Po.pure ?_
    cases l with
    |nil=>exact wx
    |cons y s=>dsimp only;unfold WS;exact#[wx,#[y,s,Go],wl]
  ·unfold Xd
   refine(gO _).bind λm _=>?_;split
   ·refine(I.ands d K).bind λx wx=>(I.moreOr d K).bind λl wl=>Po.pure ?_
    unfold nM;exact#[wx,wl]
   ·refine Po.pure ?_
    unfold nM;trivial
  ·unfold Zs
   refine(I.compared d K).bind λx wx=>(I.moreAnd d K).bind λl wl=>Po.pure ?_;cases l with
   |nil=>exact wx
   |cons y s=>dsimp only;unfold WS;exact#[wx,#[y,s,Go],wl]
  ·unfold WK
   refine(gO _).bind λm _=>?_;split
   ·refine(I.compared d K).bind λx wx=>(I.moreAnd d K).bind λl wl=>Po.pure ?_
    unfold nM;exact#[wx,wl]
   ·refine Po.pure ?_
    unfold nM;trivial
  ·unfold V2
   refine(I.added d K).bind λx wx=>(ly _).bind λs hs=>?_;cases s with
   |none=>exact Po.pure wx
   |some op=>
    refine(I.added d K).bind λy wy=>Po.pure ?_;unfold WS;exact#[hs op rfl,wx,wy]
  ·unfold X4
   refine(I.times d K).bind λx wx=>(I.moreAdded d K).bind λl wl=>Po.pure ?_;cases l with
   |nil=>exact wx
   |cons op y s=>dsimp only;unfold WS;exact#[wx,#[op,y,s,Go],wl]
  ·unfold VA
   refine(ly _).bind λs hs=>?_;cases s with
   |none=>refine Po.pure ?_;unfold uI;trivial
   |some op=>
    refine(I.times d K).bind λy wy=>(I.moreAdded d K).bind λr wr=>Po.pure ?_;unfold uI;exact#[hs op rfl,wy,wr]
  ·unfold X5
   refine(I.unary d K).bind λx wx=>(I.moreTimes d K).bind λl wl=>Po.pure ?_;cases l with
   |nil=>exact wx
   |cons op y s=>dsimp only;unfold WS;exact#[wx,#[op,y,s,Go],wl]
  ·unfold VB
   refine(ly _).bind λs hs=>?_;cases s with
   |none=>refine Po.pure ?_;unfold uI;trivial
   |some op=>
    refine(I.unary d K).bind λy wy=>(I.moreTimes d K).bind λr wr=>Po.pure ?_;unfold uI;exact#[hs op rfl,wy,wr]
  ·unfold G8
   refine Po.ite ?_ (Po.ite ?_ (I.primary d K))
   ·intro t a r nb e
    dsimp only at e;split at e
    ·rename_i n hn
     cases e;have nn:n<1000000000000000000:=by
      unfold peek at hn;cases z:(t.drop 1).head? with
      |none=>rw[z] at hn;cases hn
      |some y=>rw[z] at hn;exact nb y (Ut (VW z)) n hn
     exact#[by unfold WS;unfold WS;exact nn,nb.drop 2]
    ·refine(show Po (deeper d>>=λe=>next>>=λ_=>G8 k e K>>=λa=>pure (.neg a):P Exp) (WS K.values K.funs) from ?_) t a r nb e
     exact(zx d).bind λe _=>cO.bind λ_ _=>(I.unary e K).bind λx wx=>Po.pure (by unfold WS;exact wx)
   ·exact(zx d).bind λe _=>cO.bind λ_ _=>(I.unary e K).bind λx wx=>Po.pure (by unfold WS;exact wx)
  ·unfold GU
   intro t a r nb e;dsimp only at e;split at e
   ·rename_i n hn
    cases e;have nn:n<1000000000000000000:=by
     unfold peek at hn;cases z:t.head? with
     |none=>rw[z] at hn;cases hn
     |some y=>rw[z] at hn;exact nb y (VW z) n hn
    exact#[by unfold WS;exact nn,nb.drop 1]
   ·split at e
    ·refine(show Po (deeper d>>=λe=>next>>=λ_=>FZ k e K>>=λa=>sign ")">>=λ_=>pure a:P Exp) (WS K.values K.funs) from ?_) t a r nb e
     exact(zx d).bind λe _=>cO.bind λ_ _=>(I.expr e K).bind λx wx=>(bh _).bind λ_ _=>Po.pure wx
    ·unfold FT at e;cases e
   ·rename_i w hw
    split at e
    ·refine(show Po (deeper d>>=λe=>next>>=λ_=>sign "(">>=λ_=>newName K>>=λx=>key "in">>=λ_=>FZ k e K>>=λlo=>sign "..">>=λ_=>FZ k e K>>=λhi=>sign ":">>=λ_=>FZ k e (K.with x)>>=λa=>sign ")">>=λ_=>pure (.sum x lo hi a):P Exp) (WS K.values K.funs) from ?_) t a r nb e
     refine(zx d).bind λe _=>cO.bind λ_ _=>(bh _).bind λ_ _=>(de K).bind λx wx=>(fY _).bind λ_ _=>(I.expr e K).bind λlo wlo=>(bh _).bind λ_ _=>(I.expr e K).bind λhi whi=>(bh _).bind λ_ _=>(I.expr e (K.with x)).bind λy wy=>(bh _).bind λ_ _=>Po.pure ?_;unfold WS;exact#[wx.1,wlo,whi,wy]
    split at e
    ·unfold FT at e;cases e
    split at e
    ·rename_i f hf
     have fw:f.1=w:=by have:=Rh hf;exact beq_iff_eq.mp this
     refine(show Po (deeper d>>=λe=>next>>=λ_=>sign "(">>=λ_=>(if f.2=0 then(sign ")">>=λ_=>pure (.call w .nil)) else(Qn k e K f.2>>=λl=>pure (.call w l)):P Exp)) (WS K.values K.funs) from ?_) t a r nb e
     refine(zx d).bind λe _=>cO.bind λ_ _=>(bh _).bind λ_ _=>?_;split
     ·rename_i h0
      refine(bh _).bind λ_ _=>Po.pure ?_;unfold WS;exact#[#[f,hf,h0.symm],by unfold nM;trivial]
     ·rename_i h0
      refine(I.arguments e K f.2 (by lia)).bind λl wl=>Po.pure ?_;unfold WS;exact#[#[f,hf,wl.2],wl.1]
    ·split at e
     ·rename_i hv
      cases e;exact#[by unfold WS;exact Gw.mp hv,nb.drop 1]
     ·unfold FT at e;cases e
   ·unfold FT at e;cases e
  ·unfold Qn
   refine Po.ite Po.fail ((I.expr d K).bind λx wx=>?_);split
   ·rename_i h1
    refine Po.ite Po.fail ((bh _).bind λ_ _=>Po.pure ?_);refine#[by unfold nM;exact#[wx,by unfold nM;trivial],?_];show 1=n;lia
   ·rename_i h1
    refine Po.ite Po.fail ((bh _).bind λ_ _=>(I.arguments d K (n-1) (by lia)).bind λl wl=>Po.pure ?_);refine#[by unfold nM;exact#[wx,wl.1],?_];show(lK l).length+1=n;rw[wl.2];lia
end OS
namespace OS
open Vbemac
theorem tX: ∀(w:Gv) (n k:FH),(∀c∈w,digit c=FS)->n<10 ^ k->w.foldl (λn c=>10*n+(c.toNat-48)) n<10 ^ (k+w.length)
 |[],n,k,_,h=>h
 |c::w,n,k,hd,h=>by
  rw[Fh.foldl_cons];have hc:c.toNat<=57:=by
   have:=hd c (Fy ..);unfold digit at this;rw[G7,Gp,Gp] at this;exact Jm.le_iff_toNat_le.mp this.2
  have z:=tX w (10*n+(c.toNat-48)) (k+1) (λx hx=>hd x (Fx _ hx)) (by rw[FH.pow_succ];lia)
  rw[show k+(c::w).length=k+1+w.length by rw[FG];lia];exact z
theorem sv: ∀(l:Gv),∀c∈l.takeWhile digit,digit c=FS
 |[],_,h=>nomatch h
 |x::l,c,h=>by
  rw[J3] at h;split at h
  ·rename_i hx
   rcases FF.mp h with z|z
   ·rw[z];exact hx
   ·exact sv l c z
  ·cases h
theorem jE: ∀(k:FH) (p:Pos) (b:Gv),Et (lex k p b)
 |0,p,b=>by intro x hx n e;unfold lex at hx;rw[FW.mp hx] at e;cases e
 |k+1,p,[]=>by intro x hx n e;unfold lex at hx;rw[FW.mp hx] at e;cases e
 |k+1,p,c::r=>by
  have one: ∀ {y:Tok}{t:M0},(∀n,y= .num n->n<1000000000000000000)->Et t->Et ((y,p)::t):=λh1 h2 x hx n e=>by
   rcases FF.mp hx with z|z
   ·rw[z] at e;exact h1 n e
   ·exact h2 x z n e
  have nil:Et []:=λx hx=>nomatch hx
  unfold lex;split
  ·exact jE k _ _
  split
  ·exact jE k _ _
  split
  ·dsimp only
   split
   ·exact one (λn e=>nomatch e) nil
   ·exact one (λn e=>nomatch e) (jE k _ _)
  split
  ·dsimp only
   split
   ·exact one (λn e=>nomatch e) nil
   ·rename_i h
    refine one (λn e=>?_) (jE k _ _);cases e;have z:=tX ((c::r).takeWhile digit) 0 0 (sv _) [01];rw[V6] at h;exact Ge z (FH.pow_le_pow_right [01] (show 0+((c::r).takeWhile digit).length<=18 by lia))
  ·split
   ·exact one (λn e=>nomatch e) (jE k _ _)
   ·exact one (λn e=>nomatch e) nil
end OS
namespace OS
open Vbemac
def bnd (V:Fh Gv):Stmt->Fh Gv
 | .bind x _=>x::V
 |_=>V
mutual
def WT:FH->Fh Gv->Fh (Gv×FH)->Stmt->Prop
 |_,V,F, .bind x e=>x∉V/\WS V F e
 |d,V,F, .loop x lo hi l=>x∉V/\WS V F lo/\WS V F hi/\1<=d/\Aa (d-1) (x::V) F l
 |d,V,F, .cond c a b=>WS V F c/\1<=d/\Aa (d-1) V F a/\Aa (d-1) V F b
 |_,V,F, .step _ z q p top am=>WS V F z/\WS V F q/\WS V F p/\(∀e,top=FB e->WS V F e)/\WS V F am
 |_,V,F, .block _ _ z p x am _ g=>x∉V/\WS V F z/\WS V F p/\WS (x::V) F am/\ ∀e,g=FB e->WS V F e
def Aa:FH->Fh Gv->Fh (Gv×FH)->Stmts->Prop
 |_,_,_, .nil=>True
 |d,V,F, .cons s l=>WT d V F s/\Aa d (bnd V s) F l
end
def xC:Fh Gv->Fh (Gv×FH)->Sheet->Prop
 |_,_,[]=>True
 |V,F, .const x e::r=>x∉V/\WS V F e/\xC (x::V) F r
 |V,F, .func x ps e::r=>F.length<=8/\(∀g∈F,g.1≠x)/\ps.Nodup/\ps.length<=6/\WS (ps++V) F e/\xC V ((x,ps.length)::F) r
 |V,F, .desk _ l::r=>Aa 6 V F l/\xC V F r
theorem xk:Po side λ_=>True:=λt a r nb e=>by
 unfold side at e;split at e
 ·cases e;exact#[trivial,nb.drop 1]
 split at e
 ·cases e;exact#[trivial,nb.drop 1]
 ·unfold FT at e;cases e
theorem Av (w:String):Po (ifKey w) λ_=>True:=λt a r nb e=>by
 unfold ifKey at e;split at e
 ·cases e;exact#[trivial,nb.drop 1]
 ·cases e;exact#[trivial,nb]
theorem k6 {α:Type}(w:String) {p:P α}{Q:α->Prop}(h:Po p Q):Po (behind w p) λo=> ∀a,o=FB a->Q a:=λt a r nb e=>by
 unfold behind at e;split at e
 ·split at e
  ·cases e
  ·rename_i x s z
   cases e;have:=h _ _ _ (nb.drop 1) z;exact#[λa z=>by cases z;exact this.1,this.2]
 ·cases e;exact#[nofun,nb]
theorem nJ {f:Gv->GA} :Po (λt=>match anyName t with
  | .error e=> .error e
  | .ok (w,r)=>if f w=b then fail n t else .ok (w,r):P Gv) λ_=>True:=λt a r nb e=>by
 dsimp only at e;split at e
 ·cases e
 ·rename_i w s h
  split at e
  ·unfold FT at e;cases e
  ·cases e;exact#[trivial,(jM t _ _ nb h).2]
theorem CM (B:Blocks):Po (knownBlock B) λ_=>True:=λt a r nb e=>by
 unfold knownBlock at e;split at e
 ·cases e
 ·rename_i w s h
  split at e
  ·cases e;exact#[trivial,(jM t _ _ nb h).2]
  ·unfold FT at e;cases e
theorem Bb (B:Blocks):Po (maybeName B) λ_=>True:=λt a r nb e=>by
 unfold maybeName at e;split at e
 ·cases e;exact#[trivial,nb]
 ·split at e
  ·cases e
  ·rename_i w s h
   cases e;exact#[trivial,(nJ (f:=λw=>B.contains w) (n:=4) (b:=FS) t _ _ nb h).2]
theorem wP (d:FH):Po (deeper d) λe=>e=d-1/\1<=d:=λt a r nb e=>by
 unfold deeper at e;split at e
 ·unfold FT at e;cases e
 ·cases e;exact#[#[Go,by lia],nb]
abbrev StQ (d:FH) (K:Known) (r:Stmt×Known×Blocks):Prop:=WT d K.values K.funs r.1/\r.2.1.values=bnd K.values r.1/\r.2.1.funs=K.funs
theorem fV: ∀k d K B,Po (stmts k d K B) (λr=>Aa d K.values K.funs r.1)/\Po (stmt k d K B) (StQ d K)
 |0,d,K,B=>#[by unfold stmts;exact Po.fail,by unfold stmt;exact Po.fail]
 |k+1,d,K,B=>by
  have E:=(rk k).expr;constructor
  ·unfold stmts
   refine Po.ite (λt a r nb e=>by cases e;exact#[by unfold Aa;trivial,nb.drop 1]) ((fV k d K B).2.bind λs hs=>(fV k d s.2.1 s.2.2).1.bind λl hl=>Po.pure ?_)
   ·unfold Aa
    rw[hs.2.1,hs.2.2] at hl;exact#[hs.1,hl]
  ·unfold stmt
   refine Po.ite ?_ (Po.ite ?_ (Po.ite ?_ (Po.ite ?_ ?_)))
   ·refine cO.bind λ_ _=>(de K).bind λx hx=>(bh _).bind λ_ _=>(E DEEP K).bind λe he=>(bh _).bind λ_ _=>Po.pure #[?_,Go,Go]
    unfold WT;exact#[hx.1,he]
   ·refine(wP d).bind λn hn=>cO.bind λ_ _=>(de K).bind λx hx=>(fY _).bind λ_ _=>(E DEEP K).bind λlo hlo=>(bh _).bind λ_ _=>(E DEEP K).bind λhi hhi=>(bh _).bind λ_ _=>(fV k n (K.with x) B).1.bind λl hl=>Po.pure #[?_,Go,Go]
    unfold WT;rw[hn.1] at hl;exact#[hx.1,hlo,hhi,hn.2,hl]
   ·refine(wP d).bind λn hn=>cO.bind λ_ _=>(E DEEP K).bind λc hc=>(bh _).bind λ_ _=>(fV k n K B).1.bind λx hx=>(Av _).bind λm _=>?_
    rw[hn.1] at hx;split
    ·refine(bh _).bind λ_ _=>(fV k n K x.2).1.bind λy hy=>Po.pure #[?_,Go,Go]
     unfold WT;rw[hn.1] at hy;exact#[hc,hn.2,hx,hy]
    ·refine Po.pure #[?_,Go,Go]
     unfold WT;exact#[hc,hn.2,hx,by unfold Aa;trivial]
   ·refine cO.bind λ_ _=>(Bb B).bind λm _=>xk.bind λ_ _=>(fY _).bind λ_ _=>(E DEEP K).bind λz hz=>(fY _).bind λ_ _=>(E DEEP K).bind λp hp=>(fY _).bind λ_ _=>(de K).bind λx hx=>(bh _).bind λ_ _=>(E DEEP (K.with x)).bind λq hq=>(k6 _ (CM B)).bind λ_ _=>(k6 _ (E DEEP K)).bind λg hg=>(bh _).bind λ_ _=>Po.pure #[?_,Go,Go]
    unfold WT;exact#[hx.1,hz,hp,hq,hg]
   ·refine xk.bind λ_ _=>(fY _).bind λ_ _=>(E DEEP K).bind λz hz=>(fY _).bind λ_ _=>(E DEEP K).bind λq hq=>(fY _).bind λ_ _=>(E DEEP K).bind λp hp=>(k6 _ (E DEEP K)).bind λtop ht=>(fY _).bind λ_ _=>(E DEEP K).bind λam ha=>(bh _).bind λ_ _=>Po.pure #[?_,Go,Go]
    unfold WT;exact#[hz,hq,hp,ht,ha]
theorem Po.itp {α:Type}{Q:α->Prop}{c:M0->Prop} [∀t,Decidable (c t)] {p q:P α}(h1:Po p Q) (h2:Po q Q):Po (λt=>if c t then p t else q t) Q:=λt a r nb e=>by
 dsimp only at e;split at e
 ·exact h1 t a r nb e
 ·exact h2 t a r nb e
theorem Po.itd {α:Type}{Q:α->Prop}{c:Prop} [Decidable c] {p q:P α}(h1:c->Po p Q) (h2: ¬c->Po q Q):Po (λt=>if c then p t else q t) Q:=λt a r nb e=>by
 dsimp only at e;split at e
 ·rename_i h;exact h1 h t a r nb e
 ·rename_i h;exact h2 h t a r nb e
theorem lw: ∀k n K,Po (params k n K) λps=>ps.Nodup/\ps.length<=n/\ ∀p∈ps,p∉K.values
 |0,n,K=>by unfold params;exact Po.fail
 |k+1,0,K=>by
  unfold params;intro t a r nb e;dsimp only at e;rw[Fv rfl] at e;unfold FT at e;cases e
 |k+1,n+1,K=>by
  unfold params;refine Po.itp (c:=λ_=>n+1=0) Po.fail ((de K).bind λx hx=>(gO _).bind λm _=>?_);split
  ·refine(lw k n (K.with x)).bind λl hl=>Po.pure #[Gu.mpr #[λz=>hl.2.2 x z Fy,hl.1],Hh hl.2.1,λp hp=>?_]
   rcases FF.mp hp with z|z
   ·rw[z];exact hx.1
   ·exact λy=>hl.2.2 p z (Fx _ y)
  ·refine(bh _).bind λ_ _=>Po.pure #[Gu.mpr #[nofun, .nil],Hh (F6 _),λp hp=>?_]
   rw[FW.mp hp];exact hx.1
theorem mv: ∀k K n D,K.funs.length+n=9->Po (tops k K n D) (xC K.values K.funs)
 |0,K,n,D,_=>by unfold tops;exact Po.fail
 |k+1,K,n,D,hn=>by
  have E:=(rk k).expr;unfold tops;refine Po.itp (c:=λt=>peek t= .eof) (λt a r nb e=>by cases e;exact#[by unfold xC;trivial,nb]) (Po.ite ?_ (Po.ite (Po.itd (c:=n=0) (λ_=>Po.fail) λn0=>?_) (Po.ite ?_ Po.fail)))
  ·refine cO.bind λ_ _=>(de K).bind λx hx=>(bh _).bind λ_ _=>(E DEEP K).bind λe he=>(bh _).bind λ_ _=>(mv k (K.with x) n D hn).bind λl hl=>Po.pure ?_
   unfold xC;exact#[hx.1,he,hl]
  ·refine cO.bind λ_ _=>(de K).bind λx hx=>(bh _).bind λ_ _=>(gO _).bind λm _=>(show Po (if m=FS then give [] else params k PARAMS (K.with x)) (λps=>ps.Nodup/\ps.length<=6) by
     split
     ·exact Po.pure #[.nil,F6 _]
     ·exact(lw k PARAMS (K.with x)).mono λ_ z=>#[z.1,z.2.1]).bind λps hp=>(bh _).bind λ_ _=>(E DEEP { K with values:=ps++K.values }).bind λe he=>(bh _).bind λ_ _=>(mv k { K with funs:=(x,ps.length)::K.funs } (n-1) D (by show K.funs.length+1+(n-1)=9;lia)).bind λl hl=>Po.pure ?_
   unfold xC;exact#[by lia,hx.2,hp.1,hp.2,he,hl]
  ·refine cO.bind λ_ _=>(nJ (f:=λw=>D.contains w) (n:=4) (b:=FS)).bind λx _=>(bh _).bind λ_ _=>(fV k NEST K []).1.bind λl hl=>(mv k K n (x::D) hn).bind λr hr=>Po.pure ?_
   unfold xC;exact#[hl,hr]
end OS
namespace OS
open PySem PySem.Spec L2
open PyProof.Rows hiding St
variable {P:Gh}{w:GR}{K:Fm}{mg:FY->FA Fp}{base:Ha}{a:bi}
theorem Ow.bas {B H:Hp}{o:HO}(O:Ow B L H) (h:B p≠FM\/H p=FM):Ow (aF B p o) L (aF H p o):=by
 refine#[λb u e=>?_,λx hx=>?_,O.nd]
 ·by_cases hb:b=p
  ·rw[hb,ae] at e ⊢; exact e
  ·rw[ac hb] at e ⊢; exact O.same b u e
 ·have h1:=O.at_ x hx
  have ne:x.1≠p:=λz=>by
   rcases h with h|h
   ·exact h (by rw[<-z];exact h1.2)
   ·rw[<-z,h1.1] at h;cases h
  rw[ac ne,ac ne];exact h1
theorem e9.up {a:bi}{M:Fq->Prop}{H:Hp}{o:HO}{x:Hv}{v:V}(m:M p) (h:e9 a M H x v):e9 a M (aF H p o) x v:=e9.Ic (λb u e n=>#[n,by rw[ac λz=>n (by rw[z];exact m)];exact e]) x h
theorem D7.up {a:bi}{M:Fq->Prop}{B:Hp}{o:HO}(m:M p) (h:D7 a #[M,B] F ff):D7 a #[M,aF B p o] F ff:=by
 refine#[h.1,λf=>?_];have:=h.2 f;split
 ·rename_i g hg
  rw[hg] at this;obtain⟨v,h1,h2⟩:=this;exact#[v,h1,h2.up m]
 ·rename_i hg
  rw[hg] at this;exact this
abbrev aby (b:GA):V:= .int (Pf b)
def ah3:FA FH->V
 |some k=> .int (k:FH)
 |none=> .int (-1)
abbrev EK (H:Hp) (C:Fq) (fs:Fh (FY×V)) (v:V):Prop:=bJ (λ_=>False) H C fs v
def fT (a:bi) (ol:Fq) (H:Hp) (v:V):GC->Prop
 | .step d z t b p q am=>EK H a.HB [("desk", .int d),("zone", .int z),("quarter", .int t),("side",aby b),("low", .int p),("high", .int q),("amount", .int am)] v
 | .block d z b p g u l=> ∃q,q≠ol/\EK H a.HS [("desk", .int d),("zone", .int z),("side",aby b),("price", .int p),("group", .int g),("parent",ah3 u),("amounts", .ref q)] v/\H q=FB (.lst (l.map V.int))/\l.length<=4
abbrev qh.at_ (c:qh) (z:FH):qh:=#[c.wk,c.dw,c.fa,c.sl,c.tl,z]
structure Zx where
 a:bi
 E:XK
 x:Fq
 dx:Fq
 m:Fq
 dm:Fq
 ol:Fq
 c:qh
 N:Hp
 K:Ks
 S:Ij
 F0:Fh (Fi×FH)
 d:Int
abbrev Zx.M (Z:Zx):Fq->Prop:=λp=>Z.N p=FM
abbrev xF (m w o:Fq) (d:Int) (nd:Fq):Fh (FY×V):=[("market", .ref m),("worker", .ref w),("orders", .ref o),("desk", .int d),("named", .ref nd)]
abbrev mF (K:Ks):Fh (FY×V):=[("zones", .int K.zones),("quarters", .int K.quarters),("low", .int K.lo),("high", .int K.hi)]
structure EB (Z:Zx) (B:Hp) (w:GF) (nd:Fq) (kk:Fh (be×V)) (os:Fh V):Prop where
 sm:aS Z.N B
 hx:B Z.x=FB (.ins Z.a.GG Z.dx (xF Z.m Z.c.wk Z.ol Z.d nd))
 hm:B Z.m=FB (.ins Z.a.Kj Z.dm (mF Z.K))
 ho:B Z.ol=FB (.lst os)
 hn:B nd=FB (.dK kk)
 nx:Z.N Z.x=FM/\Z.N Z.ol=FM/\Z.N nd=FM
 po:Paired (λv o=>fT Z.a Z.ol B v o) os w.orders
 le:w.orders.length<=48
 pn: ∀u,bO kk (nk u)=(w.names.find? λa=>a.1 == u).map λa=>V.int (a.2:FH)
 ln:kk.length<=w.names.length
 nl:w.names.length<=w.orders.length
 q4:Z.K.quarters<=4
inductive cQ (Z:Zx) (j:FH) (B H:Hp) (U:Fh Fi) (en:Hw) (w:GF) (n:FH):Prop
 |mk {r:V}{b:FH}{ff:Fh (be×V)}{d:rP}{s:fz}{nd:Fq}{kk:Fh (be×V)}{os:Fh V}(FO:gA Z.S Z.F0) (W:eV Z.a ⟨Z.M,B⟩ H (Z.c.at_ (60000-j)) Z.S.funs r b ff [d] [] [] [s] n) (A:Ag Z.S U en [s]) (gs:zF [s]) (eb:EB Z B w nd kk os) (hj:j<=50000):cQ Z j B H U en w n
inductive ES (Z:Zx) (j:FH) (H:Hp) (U:Fh Fi) (en:Hw) (w:GF) (n:FH):Prop
 |mk {B:Hp}(_:cQ Z j B H U en w n):ES Z j H U en w n
abbrev Qe (Z:Zx) (c:Int):Prop:= ∀H',aS Z.N H'->pj Z.a Z.E H' c
structure EX (X:Cx) (a:bi) (E:XK):Prop where
 T:aU X.K X.mg a
 C:XW X.K a
 KX:ms X.K a
 hr:bZ 9 X.A
 up:dn (f9 X.prog X.w) X E
section
variable {X:Cx}{Z:Zx}{i j n m k:FH}{B H H':Hp}{U:Fh Fi}{en:Hw}{w:GF}{σ:L2.St}{Q:VK}{o e f:HM}{to te tf:TE}{v:V}{x:Fz}{y:Fi}{z:Int}{p1 p2 p3 p4:Pos}
theorem eV.zz {a:bi}{B:tW}(W:eV a B H c F r b ff ds us ts sc n) (h:b+5*n<=z') (h':z'<=60000):eV a B H (c.at_ z') F r b ff ds us ts sc n:=#[W.O,W.fn,W.sq,W.tk,W.bn.VM,W.bn.tl,W.bn.sl,W.bn.b6,h,h']
theorem cQ.same (R:cQ Z j B H U en w n):aS Z.N H:=by
 obtain⟨_,W,_,_,eb,_⟩:=R;exact λb o e=>W.O.same b o (eb.sm b o e)
theorem cQ.less (R:cQ Z i B H U en w n) (h:j<=i):cQ Z j B H U en w n:=by
 obtain⟨FO,W,A,gs,eb,hj⟩:=R;exact#[FO,W.zz (by have:_<=60000-i:=W.bn.bn;lia) (by lia),A,gs,eb,by lia]
theorem cQ.unset {B0 H0:Hp}(R:cQ Z j B H (y::U) ((y,z)::en) w n) (ny:y∉U) (R0:cQ Z j0 B0 H0 U en w0 n0):cQ Z j B H U en w n:=by
 obtain⟨FO,W,A,gs,eb,hj⟩:=R;obtain⟨_,_,A0,_,_,_⟩:=R0;exact#[FO,W,A.unset ny A0.big λ_=>A0.low rfl,gs,eb,hj]
theorem cQ.wk (R:cQ Z j B H U en w n) (T:aU X.K X.mg Z.a) (q:Q (.ref Z.c.wk) H):dE X.K "worker" Q (.ref Z.x) H:=by
 obtain⟨_,W,_,_,eb,_⟩:=R;exact#[Z.x,_,Z.dx,_,_,Go,W.O.same _ _ eb.hx,T.HL,T.My,Go,q]
theorem mW (Y:EX X Z.a Z.E) (R:cQ Z j B H U en w n) (ho:PE X o to) (hvo: ∀Q:VK,Q (.ref Z.c.wk) H->to σ H Q) (he:PE X e te) (hv: ∀Q:VK,Q v H->te σ H Q) (ex:aw Z.a Z.M Z.N x v) (ws:WS U Z.F0 x) (hk:3*n+1<=k) (er: ∀c,L5 k Z.S en x n= .error c->Qe Z c) (q: ∀y m H',L5 k Z.S en x n= .ok (y,m)->m<n->dC y->cQ Z j B H' U en w m->Q (.int y) H')
  (KH:FU [e] X.env=[[001]]) (ht:eval (.Call (.Attribute o "work_out" p2) [e] [] p4) X.env=(do
   let ov<-eval o X.env
   standAt p2.atName
   let (f,first)<-holding [ov] (Lu ov "work_out" (do return (<-P1 o X.env).getD FS))
   NS p4 f first (Jf p4 (FU [e] X.env)) (Lf p4 (Jy [] X.env)))):Pe X (.Call (.Attribute o "work_out" p2) [e] [] p4) σ H Q:=by
 obtain @⟨r,b,ff,d,s,nd,kk,os,FO,W,A,gs,eb,hj⟩:=R;refine#[_,cB ho Y.T.Iq Y.T.ZY.c (tS Y.T Y.C Y.KX) Y.hr Y.up (aa he ag KH) KH rfl ht,hvo _ #[Z.c.wk,Z.c.dw,_,Go,W.ins,Go,hv _ (.mk (B:=#[Z.M,B]) (c:=Z.c.at_ (60000-j)) rfl FO ws (λ_ _ h=>h) A gs #[W] (aw.Ic (λb o e m=>#[m,eb.sm b o e]) x ex) hk (λc h H' s'=>er c h H' λb o e=>s' b o (eb.sm b o e)) λy m h hm hb H' b' s' A' gs' W'=>?_)]];obtain @⟨ff',ds',QN,W'⟩:=W';have sq:=W'.sq;have tk:=W'.tk;cases tk;cases sq with
 |cons h1 h2=>cases h2;exact q y m H' h hm hb #[FO,W',A',gs',eb,hj]
theorem vq (Y:EX X Z.a Z.E) (R:cQ Z j B H U en w n) (ho:PE X o to) (hvo: ∀Q:VK,Q (.ref Z.c.wk) H->to σ H Q) (j5:j+5<=50000) (er:n=0->Qe Z (-13)) (q: ∀m H',n=m+1->cQ Z (j+5) B H' U en w m->Q .IX H')
  (ht:eval (.Call (.Attribute o "take_step" p2) [] [] p4) X.env=(do
   let ov<-eval o X.env
   standAt p2.atName
   let (f,first)<-holding [ov] (Lu ov "take_step" (do return (<-P1 o X.env).getD FS))
   NS p4 f first (Jf p4 (FU [] X.env)) (Lf p4 (Jy [] X.env)))):Pe X (.Call (.Attribute o "take_step" p2) [] [] p4) σ H Q:=by
 obtain @⟨r,b,ff,d,s,nd,kk,os,FO,W,A,gs,eb,hj⟩:=R;refine#[_,bS ho Y.T.Iq Y.T.We.c (h8 Y.T Y.C) (Y.hr.mono [01]) Y.up ht,hvo _ #[Z.c.wk,Z.c.dw,_,Go,W.ins,Go, .mk (c:=Z.c.at_ (60000-j)) rfl W (λz=>er z H λb o e=>W.O.same b o (eb.sm b o e)) λm hm H' W'=>q m H' hm #[FO,W'.zz ?_ (by lia),A,gs,eb,j5]]];have:b+5*n<=60000-j:=W.bn.bn;lia
theorem wb (Y:EX X Z.a Z.E) (R:cQ Z (j+1) B H U en w n) (ho:PE X o to) (hvo: ∀Q:VK,Q (.ref Z.c.wk) H->to σ H Q) (he:PE X e te) (hv: ∀Q:VK,Q (.str (sb y)) H->te σ H Q) (q:Pe X f σ H λu H'=> ∃(B':Hp) (z:Int) (w':GF) (n':FH),u= .int z/\cQ Z (j+1) B' H' U en w' n'/\y∉U/\dC z/\ ∀H2,cQ Z j B' H2 (y::U) ((y,z)::en) w' n'->Q .IX H2)
  (KH:FU [e,f] X.env=[[001],(Gc,eval f X.env)]) (VL:FU [f] X.env=[(Gc,eval f X.env)]) (ht:eval (.Call (.Attribute o "set_value" p2) [e,f] [] p4) X.env=(do
   let ov<-eval o X.env
   standAt p2.atName
   let (g,first)<-holding [ov] (Lu ov "set_value" (do return (<-P1 o X.env).getD FS))
   NS p4 g first (Jf p4 (FU [e,f] X.env)) (Lf p4 (Jy [] X.env)))):Pe X (.Call (.Attribute o "set_value" p2) [e,f] [] p4) σ H Q:=by
 obtain @⟨r,b,ff,d,s,nd,kk,os,FO,W,A,gs,eb,hj⟩:=R;refine#[_,cB ho Y.T.Iq Y.T.Xh.c (jZ Y.T) (Y.hr.mono [01]) aT (aa he (aa dA ag VL) (by rw[KH,VL])) (by rw[KH,VL]) (by rw[VL];rfl) ht,hvo _ #[Z.c.wk,Z.c.dw,_,Go,W.ins,Go,hv _ (q.mono λu H' ⟨B',z,w',n',hu,R',ny,bz,k⟩=>?_)]];obtain @⟨r,b,ff,d,s,nd,kk,os,FO,W,A,gs,eb,hj⟩:=R';subst hu;have bn:b+5*n'<=60000-(j+1):=W.bn.bn;exact .mk (c:=Z.c.at_ (60000-j)) rfl (W.zz (c:=Z.c.at_ _) (by lia) (by lia)) (show b+1+5*n'<=60000-j by lia) λH2 W2=>k H2 #[FO,W2,A.set ny bz,Bu gs bz,eb,by lia]
end
theorem ah4 {X:Cx}{σ:L2.St}{H:Hp}{R:GA->Hp->Prop}{t1 t2 t3:TE}{lo x hi:Int}(h1:PE X e1 t1) (h2:PE X e2 t2) (h3:PE X e3 t3) (v1: ∀Q:VK,Q (.int lo) H->t1 σ H Q) (v2: ∀Q:VK,Q (.int x) H->t2 σ H Q) (v3: ∀Q:VK,Q (.int hi) H->t3 σ H Q) (q:R (FQ x lo hi) H) (hm:Vy [.LtE, .LtE] [e2,e3]=Gc:=by with_unfolding_all rfl):
  Pt X (.Compare e1 [.LtE, .LtE] [e2,e3] p) σ H R:=by
 refine#[_,Df eP eP h1 h2 h3 hm,v1 _ (v2 _ #[_,_,Go,Go,_,Go,?_])];unfold FQ at q;by_cases h:lo<=x
 ·rw[GQ h,JB] at q
  rw[GQ h];exact ca (v3 _ #[_,_,Go,Go,_,Go,q])
 ·rw[Gg h,Js] at q
  rw[Gg h];exact bM #[_,Go,q]
inductive ya (a:bi) (vs:Fh V) (H:Hp) (Q:VK) (E:XK):Prop
 |mk (x lo hi:Int) (_:vs=[.int x, .int lo, .int hi]) (_:FQ x lo hi=Gc->pj a E H (-14)) (_:FQ x lo hi=FS->Q .IX H):ya a vs H Q E
theorem ah5 (T:aU K mg a) (XC:XW K a):T.Z2.O P w base 4 (ya a):=by
 refine fS T.Z2.F agV [03] [02];obtain⟨x,lo,hi,rfl,h1,h2⟩:=h;refine bI (jr (ah4 (pv 1) (pv 0) (pv 2) [05] [05] [05] ?_));cases e:FQ x lo hi with
 |true=>exact bM (cf (h2 e))
 |false=>exact ca (aR (eT d8 XC.NX (jA T XC) hr (by rfl) T.OP T.ZN.c.b) #[F6 _,_,#[Go,Go],h1 e _ (.tail _ (.tail _ (.tail _ (.head _))))])
theorem Ow.ah6 {B H H':Hp}{p:Fq}{o:HO}(O:Ow B L H) (k:aS H H') (h:H p=FM) (e:H' p=FB o):Ow (aF B p o) L H':=by
 refine#[λb u z=>?_,λx hx=>?_,O.nd]
 ·by_cases hb:b=p
  ·rw[hb,ae] at z;rw[hb,e];exact z
  ·rw[ac hb] at z;exact k _ _ (O.same b u z)
 ·have h1:=O.at_ x hx
  have ne:x.1≠p:=ai h1.1 h;rw[ac ne];exact#[k _ _ h1.1,h1.2]
theorem AF {B:Hp}{C p:Fq}{fs:Fh (FY×V)}{v:V}{o:HO}(i:EK B C fs v) (h: ∀C d,B p≠FB (.ins C d fs)):EK (aF B p o) C fs v:=by
 obtain⟨q,dx,rfl,m,e⟩:=i;exact#[q,dx,Go,m,by rw[ac λz=>h _ _ (by rw[<-z];exact e)];exact e]
theorem nW {a:bi}{B:Hp}{v:V}{p:Fq}{o:HO} : ∀ {x:GC},fT a ol B v x->(∀C d fs,fs.length=7->B p≠FB (.ins C d fs))->(p=ol\/ ∀l,B p≠FB (.lst l))->fT a ol (aF B p o) v x
 | .step ..,h,hi,_=>AF h λC d=>hi C d _ rfl
 | .block ..,⟨q,nq,h,e,le⟩,hi,hl=>#[q,nq,AF h λC d=>hi C d _ rfl,by
  rw[ac λz=>?_]
  ·exact e
  ·rcases hl with hl|hl
   ·exact nq (z.trans hl)
   ·exact hl _ (by rw[<-z];exact e),le]
section
variable {B H H':Hp}{w:GF}{Q:VK}
theorem EB.new {nd:Fq}{kk:Fh (be×V)}{os:Fh V}(eb:EB Z B w nd kk os) (hB:B p=FM):EB Z (aF B p o) w nd kk os:=by
 have up: ∀ {b:Fq}{u:HO},B b=FB u->aF B p o b=FB u:=λe=>by rw[ac (ai e hB)];exact e
 exact#[λb u e=>up (eb.sm b u e),up eb.hx,up eb.hm,up eb.ho,up eb.hn,eb.nx,dZ eb.po λv x z=>nW z (λ_ _ _ _ z=>by rw[hB] at z;cases z) (.inr λ_ z=>by rw[hB] at z;cases z),eb.le,eb.pn,eb.ln,eb.nl,eb.q4]
theorem cQ.fresh (R:cQ Z j B H U en w n) (h:H p=FM):B p=FM/\Z.N p=FM/\p≠Z.ol:=by
 obtain⟨_,W,_,_,eb,_⟩:=R;have hB:B p=TB:=by
  cases z:B p with
  |none=>rfl
  |some u=>rw[W.O.same _ _ z] at h;cases h
 refine#[hB,?_,λz=>by rw[z,eb.ho] at hB;cases hB];cases z:Z.N p with
 |none=>rfl
 |some u=>rw[eb.sm _ _ z] at hB;cases hB
theorem cQ.new (R:cQ Z j B H U en w n) (k:aS H H') (h:H p=FM) (e:H' p=FB o):cQ Z j (aF B p o) H' U en w n:=by
 obtain⟨hB,hN,_⟩:=R.fresh h;obtain @⟨r,b,ff,d,s,nd,kk,os,FO,W,A,gs,eb,hj⟩:=R;exact#[FO,#[W.O.ah6 k h e,W.fn.up hN,W.sq, .nil,W.bn],A,gs,eb.new hB,hj]
theorem cQ.chg {o':HO}{nd:Fq}{kk:Fh (be×V)}{os:Fh V}(R:cQ Z j (aF B p o) H U en w n) (hB:B p=FM) (hN:Z.N p=FM) (eb:EB Z B w nd kk os):cQ Z j (aF B p o') (aF H p o') U en w n:=by
 obtain @⟨r,b,ff,d,s,VN,kk',os',FO,W,A,gs,_,hj⟩:=R;have O:=W.O.bas (p:=p) (o:=o') (.inl (by show aF B p o p≠FM;rw[ae];exact TX _));have F:=W.fn.up (o:=o') hN;rw[EF] at O F;exact#[FO,#[O,F,W.sq, .nil,W.bn],A,gs,eb.new hB,hj]
end
theorem cQ.put {Z:Zx}{j n b:FH}{B H:Hp}{U:Fh Fi}{en:Hw}{w:GF}{r:V}{ff:Fh (be×V)}{d:rP}{s:fz}{nd p:Fq}{kk:Fh (be×V)}{os:Fh V}{o o':HO}(FO:gA Z.S Z.F0) (W:eV Z.a #[Z.M,B] H (Z.c.at_ (60000-j)) Z.S.funs r b ff [d] [] [] [s] n) (A:Ag Z.S U en [s]) (gs:zF [s]) (hj:j<=50000) (h:B p=FB o) (hN:Z.N p=FM) (eb:EB Z (aF B p o') w nd kk os):cQ Z j (aF B p o') (aF H p o') U en w n:=#[FO,#[W.O.bas (.inl (by show B p≠FM;rw[h];exact TX _)),W.fn.up hN,W.sq, .nil,W.bn],A,gs,eb,hj]
theorem m9 {α β:Type}{F:α->β->Prop}{x:α}{y:β}(h:F x y): ∀ {l:Fh α}{m:Fh β},Paired F l m->Paired F (l++[x]) (m++[y])
 |_,_, .nil=> .cons h .nil
 |_,_, .cons r t=> .cons r (m9 h t)
inductive YQ (a:bi) (vs:Fh V) (H:Hp) (Q:VK) (E:XK):Prop
 |mk {Z:Zx}{j:FH}{B:Hp}{U:Fh Fi}{en:Hw}{w:GF}{n:FH}{v:V}{o:GC}(_:vs=[.ref Z.x,v]) (_:Z.a=a) (_:Z.E=E) (_:cQ Z j B H U en w n) (_:fT Z.a Z.ol B v o) (_:48<=w.orders.length->Qe Z (-15)) (_:w.orders.length<48-> ∀B' H',cQ Z j B' H' U en { w with orders:=w.orders++[o] } n->Q .IX H'):YQ a vs H Q E
theorem ah7 (T:aU K mg a) (XC:XW K a):T.d_W.O P w base 4 (YQ a):=by
 refine fS T.d_W.F alz [03] [02];obtain @⟨Z,j,B,U,en,w',n,v,o,rfl,rfl,rfl,R,ho,h1,h2⟩:=h;have sm:=R.same;obtain @⟨r,b,ff,d,s,nd,kk,os,FO,W,A,gs,eb,hj⟩:=R;have hl:=aV eb.po;have fl: ∀ {Q:VK},Q (.ref Z.ol) H->dE K "orders" Q (.ref Z.x) H:=λq=>#[Z.x,_,Z.dx,_,_,Go,W.O.same _ _ eb.hx,T.HL,T.JX,Go,q]
 have RI:=W.O.same _ _ eb.ho;refine bI (jw (iH T.J8 RI [000] (λ_ q=>fl q) #[_,aQ (by rfl) T.Ru,_,_,Go,Go,df (λz=>?_) λz=>?_]))
 ·exact aR (eT d8 XC.Mo (iu T XC) hr (by rfl) T.NA T.ZO.c.b) #[F6 _,_,#[Go,Go],h1 (by lia) H sm _ (.tail _ (.tail _ (.tail _ (.tail _ (.head _)))))]
 ·have lt:w'.orders.length<48:=by have:=eb.le;lia
  have ne: ∀ {b:Fq}{u:HO},B b=FB u->u≠ .lst os->aF B Z.ol (.lst (os++[v])) b=FB u:=λe n=>by rw[ac (qd e eb.ho n)];exact e
  have ni: ∀C d fs,fs.length=7->B Z.ol≠FB (.ins C d fs):=λ_ _ _ _ z=>by rw[eb.ho] at z;cases z
  have YR:EB Z (aF B Z.ol (.lst (os++[v]))) { w' with orders:=w'.orders++[o] } nd kk (os++[v]):=#[λb u e=>by rw[ac λz=>by rw[z,eb.nx.2.1] at e;cases e];exact eb.sm b u e,ne eb.hx nofun,ne eb.hm nofun,ae,ne eb.hn nofun,eb.nx,m9 (nW ho ni (.inl rfl)) (dZ eb.po λv x z=>nW z ni (.inl rfl)),by rw[FR];exact lt,eb.pn,eb.ln,by rw[FR];exact NL eb.nl,eb.q4]
  exact iP [000] (λ_ q=>fl q) RI (bD 1 #[_,RI,by rw[hl,Im];lia,cf (h2 lt _ _ (cQ.put FO W A gs hj eb.ho eb.nx.2.1 YR))])
inductive CZ (vs:Fh V) (H:Hp) (Q:VK) (_E:XK):Prop
 |mk (b:GA) (_:vs=[kE b]) (_:Q (aby b) H):CZ vs H Q _E
theorem ah8 (T:aU K mg a):T.d_M.U P w base 1 CZ:=by
 refine T.d_M.F.ok alf [03] [02];obtain⟨b,rfl,q⟩:=h;refine aM #[_,dD (aZ bX (pv 0) dJ (aK _)) (aQ (by rfl) T.UJ) (aQ (by rfl) T.Wn),Go,_,Go,?_];cases b with
 |true=>rw[show decide (kE FS=V.str "sell")=Gc by decide+kernel];exact bM q
 |false=>rw[show decide (kE Gc=V.str "sell")=FS by decide+kernel];exact ca q
section
variable {X:Cx}{Z:Zx}{j n m k iw:FH}{B H H':Hp}{U:Fh Fi}{en:Hw}{w:GF}{σ:L2.St}{Q:VK}{D:d9}{ss:Fh Stmt}{e1 e2 e3:HM}{t1 t2 t3:TE}{v u:V}{x:Fz}{y nm f:FY}{C:Fq}{fs:Fh (FY×V)}{lo z hi:Int}{p0 p1 p2 p3 p4 p5 p6:Pos}
theorem Pa.mono {Q Q':Fh V->Hp->Prop}(h:Pa X es σ H Q) (im: ∀b H,Q b H->Q' b H):Pa X es σ H Q':=by
 obtain⟨t,ht,q⟩:=h;refine#[λσ H Q'=> ∃Q:Fh V->Hp->Prop,(∀b H,Q b H->Q' b H)/\t σ H Q,λpos pins s σ H Q' I h=>?_,Q,im,q];obtain⟨Q,im,q⟩:=h;exact b9 (ht pos pins s σ H Q I q) λc s' ⟨v,H',I',r,q⟩=>#[v,H',I',r,im _ _ q]
theorem abz {C:Fq}{fs:Fh FY}(nb:NB X c C fs) (hr:bZ 2 X.A) (q:Pa X (e::es) σ H λws H1=>ws.length=fs.length/\ ∀x dx H2,H1 x=FM->aS H1 H2->H2 x=FB (.ins C dx (fs.zip ws))->Q (.ref x) H2)
  (hg:Gl X c:=by rfl) (hx:(c == [003])=Gc:=by decide) (he:FU (e::es) X.env=[001]::FU es X.env:=by rfl) (M3:(Jf p4 (FU es X.env)).any (·.1)=Gc:=by rfl):Pe X (.Call (.Name c p1) (e::es) [] p4) σ H Q:=by
 obtain⟨M,G,b,hm⟩:=nb;refine#[_,g7 M G hr hg hm b .nil aT tm hx he M3,q.mono λws H1 ⟨hl,q⟩ x dx h1 h2 ne=>?_];rw[GV];exact#[x,dx,ws,Go,hl,ae,λH2 e k=>#[Go,q x dx H2 h1 (λb o e=>k b o (by rw[ac (ai e h1),ac (ai e h2)];exact e) (ai e h1)) e]]
theorem gb (i iw:FH) (Y:EX X Z.a Z.E) (nd:X.N.Nodup) (R:cQ Z j B H U en w n) (hw:σ[iw]?=FB (FB (.ref Z.c.wk))) (hn:σ[1]?=FB (FB v)) (ins:bJ Z.M Z.N C fs v) (cl:gG X.K C) (no:au X.K C f) (hl:fs.lookup f=FB u) (ex:aw Z.a Z.M Z.N x u) (ws:WS U Z.F0 x) (hk:3*n+1<=k) (er: ∀c,L5 k Z.S en x n= .error c->Qe Z c)
  (q: ∀y m H',L5 k Z.S en x n= .ok (y,m)->m<n->dC y->cQ Z j B H' U en w m->Bd X ss D (σ.set i (FB (.int y))) H') (hp:iA p2 p4:=by rfl) (nw:X.N[iw]?=FB ("worker":FY):=by rfl) (vw:oZ X.env.scope "worker":=by exact G9 rfl) (n1:X.N[1]?=FB nm:=by rfl) (v1:oZ X.env.scope nm:=by exact G9 rfl) (hd:(nm == [003])=Gc:=by decide) (SN:(nm == ("__classdict__":FY))=Gc:=by decide) (h:Sl X i y:=by exact#[Go,G9 rfl,Go]):
  Bd X (.Assign [.Name y p0] (.Call (.Attribute (.Name "worker" p1) "work_out" p2) [.Attribute (.Name nm p3) f p6] [] p4) p5::ss) D σ H:=
 aN i nd (mW Y R (dX nw vw) (λ_ q=>oE q hw) (aj (dX n1 v1 hd SN) rfl) (λ_ q=>oE (ins.fld R.same cl no hl q) hn) ex ws hk er q rfl (ee hp rfl)) h
theorem o6 (Y:EX X Z.a Z.E) (R:cQ Z j B H U en w n) (h1:PE X e1 t1) (h2:PE X e2 t2) (h3:PE X e3 t3) (v1: ∀Q:VK,Q (.int z) H->t1 σ H Q) (v2: ∀Q:VK,Q (.int lo) H->t2 σ H Q) (v3: ∀Q:VK,Q (.int hi) H->t3 σ H Q) (er:FQ z lo hi=Gc->Qe Z (-14)) (q:FQ z lo hi=FS->Bd X ss D σ H) (hg:Gl X "need_range":=by rfl) (hs1:FU [e1,e2,e3] X.env=(Gc,eval e1 X.env)::FU [e2,e3] X.env:=by rfl) (VL:FU [e2,e3] X.env=(Gc,eval e2 X.env)::FU [e3] X.env:=by rfl) (hs3:FU [e3] X.env=[(Gc,eval e3 X.env)]:=by rfl):
  Bd X (.Expr (.Call (.Name "need_range" p1) [e1,e2,e3] [] p4) p5::ss) D σ H:=
 bF #[_,aI (ah5 Y.T Y.C) (Y.hr.mono [01]) hg Y.T.Z2.c Y.up (aa h1 (aa h2 (aa h3 ag hs3) VL) hs1) [01] hs1 (by rw[VL,hs3];rfl),v1 _ (v2 _ (v3 _ #[z,lo,hi,Go,λh=>er h H R.same,q]))] rfl
theorem cQ.XQ (R:cQ Z j B H U en w n) (T:aU X.K X.mg Z.a) (no:au X.K Z.a.Kj f) (hl:(mF Z.K).lookup f=FB v) (q:Q v H):dE X.K f Q (.ref Z.m) H:=by
 obtain⟨_,W,_,_,eb,_⟩:=R;exact#[Z.m,_,Z.dm,_,_,Go,W.O.same _ _ eb.hm,T.RH,no,hl,q]
theorem cQ.mk2 (R:cQ Z j B H U en w n) (T:aU X.K X.mg Z.a) (q:Q (.ref Z.m) H):dE X.K "market" Q (.ref Z.x) H:=by
 obtain⟨_,W,_,_,eb,_⟩:=R;exact#[Z.x,_,Z.dx,_,_,Go,W.O.same _ _ eb.hx,T.HL,T.Mx,Go,q]
theorem cQ.dk (R:cQ Z j B H U en w n) (T:aU X.K X.mg Z.a) (q:Q (.int Z.d) H):dE X.K "desk" Q (.ref Z.x) H:=by
 obtain⟨_,W,_,_,eb,_⟩:=R;exact#[Z.x,_,Z.dx,_,_,Go,W.O.same _ _ eb.hx,T.HL,T.Kw,Go,q]
end
inductive jT (a:bi) (lv:FH) (ok:Hj->Prop) (vs:Fh V) (H:Hp) (Q:VK) (E:XK):Prop
 |mk {Z:Zx}{B:Hp}{U:Fh Fi}{en:Hw}{w:GF}{n k dk:FH}{st:Hj}{v:V}(_:vs=[.ref Z.x,v]) (_:Z.a=a) (_:Z.E=E) (_:Z.d=dk) (_:ok st) (_:cQ Z 5 B H U en w n) (_:a9 Z.a Z.M Z.N st v) (_:WT lv U Z.F0 st) (_:3*n+4<=k) (_: ∀c,Jj k Z.S Z.K dk en st w n= .error c->Qe Z c) (_: ∀u m H',Jj k Z.S Z.K dk en st w n= .ok (u,m)->m<=n->ES Z 0 H' U en u m->Q .IX H'):jT a lv ok vs H Q E
theorem wF {x Hl y:FY}{st:Stmt}{f:Fq}{fd:Gz}{N:Fh FY}{lv:FH}{ok:Hj->Prop}(T:aU K mg a) (XC:XW K a) (KX:ms K a) (hk:9<=kl) (F:oY K x Hl st f fd) (S:ay N ["expansion",y] (af st))
  (JO: ∀(Hb:Fp) (A:Hc) (outer:Fh Env) (s:Fw) (H:Hp) (Z:Zx) (B:Hp) (U:Fh Fi) (en:Hw) (w':GF) (n k dk:FH) (sm:Hj) (v:V) (Q:VK),bZ kl (A.deeper [011])->Z.a=a->Z.d=dk->ok sm->cQ Z 5 B H U en w' n->a9 Z.a Z.M Z.N sm v->WT lv U Z.F0 sm->3*n+3<=k->(∀c,Jj (k+1) Z.S Z.K dk en sm w' n= .error c->Qe Z c)->(∀u m H',Jj (k+1) Z.S Z.K dk en sm w' n= .ok (u,m)->m<=n->ES Z 0 H' U en u m->Q .IX H')->
   let X:=fi (f9 P w) P w K mg base N Hl (af st) f Hb A outer s H Z.E
   let D:d9:= { nx:=λ_ H'=>Q .IX H',rt:=Q }
   EX X Z.a Z.E->Bd X (bf st) D (L2.start N [.ref Z.x,v]) H):bV P w K mg base (f9 P w) (kl+1) f fd ["expansion",y] (jT a lv ok):=by
 refine fS F S [03] [02];obtain @⟨Z,B,U,en,w',n,k,dk,sm,v,rfl,ha,rfl,hd,ho,R,sa,wt,hk',er,q⟩:=h;obtain⟨k,rfl⟩: ∃k',k=k'+1:=#[k-1,by lia];exact JO Hb A outer s H Z B U en w' n k dk sm v Q hr ha hd ho R sa wt (by lia) er q (by subst ha;exact#[T,XC,KX,hr.mono hk,aA])
section
variable {X:Cx}{Z:Zx}{j n m k:FH}{B H H':Hp}{U:Fh Fi}{en:Hw}{w:GF}{σ:L2.St}{Q:VK}{x:FA Fz}{u:V}{o e0 e1 e2:HM}{to t0 t1 t2:TE}{z:Int}{p2 p4 p5 p7 p8:Pos}{jj:FH}{R':GA->Hp->Prop}
theorem YS {e:HM}(q:Pe X e σ H λv H1=>R' (decide (v= .IX)) H1):Pt X (.Compare e [.Is] [.Constant .none jj p7] p8) σ H R':=cU aaI (q.mono λv H1 q=>mT #[Go,_,Go,q]) (aK _)
theorem YT (Y:EX X Z.a Z.E) (R:cQ Z j B H U en w n) (ho:PE X o to) (hvo: ∀Q:VK,Q (.ref Z.c.wk) H->to σ H Q) (h1:PE X e1 t1) (v1: ∀Q:VK,Q u H->t1 σ H Q) (h2:PE X e2 t2) (v2: ∀Q:VK,Q u H->t2 σ H Q) (h0:PE X e0 t0) (v0: ∀Q:VK,Q (.int z) H->t0 σ H Q) (ex:jx Z.a Z.M Z.N x u) (ws: ∀e,x=FB e->WS U Z.F0 e) (hk:3*n+1<=k) (er: ∀c,X6 k Z.S en z x n= .error c->Qe Z c) (q: ∀y m H',X6 k Z.S en z x n= .ok (y,m)->m<=n->cQ Z j B H' U en w m->Q (.int y) H')
  (KH:FU [e2] X.env=[(Gc,eval e2 X.env)]) (ht:eval (.Call (.Attribute o "work_out" p2) [e2] [] p4) X.env=(do
   let ov<-eval o X.env
   standAt p2.atName
   let (f,first)<-holding [ov] (Lu ov "work_out" (do return (<-P1 o X.env).getD FS))
   NS p4 f first (Jf p4 (FU [e2] X.env)) (Lf p4 (Jy [] X.env)))):Pe X (.IfExp (.Compare e1 [.Is] [.Constant .none jj p7] p8) e0 (.Call (.Attribute o "work_out" p2) [e2] [] p4) p5) σ H Q:=by
 refine#[_,dD jt h0 dA,YS #[_,h1,v1 _ ?_]];cases x with
 |none=>
  obtain rfl:u= .IX:=ex;exact ca (v0 _ (q z n H rfl (FN n) R))
 |some e=>
  obtain⟨⟨p,dx,rfl,_⟩,_⟩:=wL ex;exact bM (mW Y R ho hvo h2 v2 ex (ws e rfl) hk er (λy m H' h hm _ R'=>q y m H' h (K3 hm) R') KH ht)
end
section
variable {kl lv:FH}
theorem ah9 (T:aU K mg a) (XC:XW K a) (KX:ms K a) (TJ:9<=kl):T.Z3.O P w base (kl+1) (jT a lv λs=> ∃b z t p top q,s= .step b z t p top q):=by
 refine wF T XC KX TJ T.Z3.F YA λHb A outer s H Z B U en w' n k dk sm v Q hr ha hd ho R sa wt hk er q=>?_;intro X D Y;obtain⟨b,ez,et,ep,top,eq,rfl⟩:=ho;have T:=Y.T;unfold a9 at sa;obtain⟨u1,u2,u3,u4,u5,i,a1,a2,a3,a4,a5⟩:=sa;unfold WT at wt;obtain⟨w1,w2,w3,w4,w5⟩:=wt;generalize Hd:Jj (k+1) Z.S Z.K dk en (.step b ez et ep top eq) w' n=res at er q;unfold Jj at Hd;dsimp only at Hd;have nd:=YA.nd;refine aN 2 nd (ci (bD 0 (R.wk T ?_)) rfl);refine gb (k:=k) 3 2 Y nd R rfl rfl i T.MC T.Pz rfl a1 w1 (by lia) [012] λz n1 H h l1 _ R=>?_;rw[h] at Hd;dsimp only at Hd;refine gb (k:=k) 4 2 Y nd R rfl rfl i T.MC T.N4 rfl a2 w2 (by lia) [012] λt n2 H h l2 _ R=>?_;rw[h] at Hd;dsimp only at Hd;refine gb (k:=k) 5 2 Y nd R rfl rfl i T.MC T.OR rfl a3 w3 (by lia) [012] λlo n3 H h l3 _ R=>?_;rw[h] at Hd;dsimp only at Hd;refine aN 6 nd (YT (k:=k) Y R (pv 2) [05] [010] (λ_ q=>i.fld R.same T.MC T.LY rfl q) [010] (λ_ q=>i.fld R.same T.MC T.LY rfl q) (pv 5) [05] a4 w4 (by lia) [012] (λhi n4 H h l4 R=>?_) rfl (ee rfl rfl));rw[h] at Hd;dsimp only at Hd;refine gb (k:=k) 7 2 Y nd R rfl rfl i T.MC T.Oh rfl a5 w5 (by lia) [012] λam n5 H h l5 _ R=>?_;rw[h] at Hd;dsimp only at Hd;refine aN 8 nd (ci (bD 0 (R.mk2 T ?_)) rfl);have bad:(Jk Z.K z&&(FQ t 0 ((Z.K.quarters:Int)-1)&&(FQ lo Z.K.lo Z.K.hi&&(FQ hi lo Z.K.hi&&(decide (hi-lo<=PX)&&FQ am 0 Jp)))))=Gc->Qe Z (-14):=λh=>er (-14) (by rw[<-Hd];unfold WL;rw[Fv h]);subst ha;refine o6 Y R (pv 3) ak (bW cS (aj (pv 8) rfl) ak) [05] [05] (λ_ q=>R.XQ T T.Ml rfl #[_,_,Go,Go,q]) (λh=>bad (by unfold Jk;rw[h];rfl)) λc1=>?_;refine o6 Y R (pv 4) ak (bW cS (aj (pv 8) rfl) ak) [05] [05] (λ_ q=>R.XQ T T.Ll rfl #[_,_,Go,Go,q]) (λh=>bad (by simp only[h,Js,Iz])) λc2=>?_;refine o6 Y R (pv 5) (aj (pv 8) rfl) (aj (pv 8) rfl) [05] (λ_ q=>R.XQ T T.Nm rfl q) (λ_ q=>R.XQ T T.LH rfl q) (λh=>bad (by simp only[h,Js,Iz])) λc3=>?_;refine o6 Y R (pv 6) (pv 5) (aj (pv 8) rfl) [05] [05] (λ_ q=>R.XQ T T.LH rfl q) (λh=>bad (by simp only[h,Js,Iz])) λc4=>?_;refine o6 Y R (bW cS (pv 6) (pv 5)) ak (aQ (by rfl) T.Rv) (λ_ q=>#[_,_,Go,Go,q]) [05] [05] (λh=>bad ?_) λc5=>?_
 ·unfold FQ at h c4
  rw[G7,Gp] at c4;rw[GQ (show(0:Int)<=hi-lo by lia),JB] at h;rw[show decide (hi-lo<=PX)=Gc from h];simp only[Js,Iz]
 refine o6 Y R (pv 7) ak (aQ (by rfl) T.OX) [05] [05] [05] (λh=>bad (by rw[show FQ am 0 Jp=Gc from h];simp only[Iz])) λc6=>?_;have good: ¬(Jk Z.K z&&(FQ t 0 ((Z.K.quarters:Int)-1)&&(FQ lo Z.K.lo Z.K.hi&&(FQ hi lo Z.K.hi&&(decide (hi-lo<=PX)&&FQ am 0 Jp)))))=Gc:=λh=>by
  have c5:decide (hi-lo<=PX)=FS:=(G7 _ _▸c5:_/\_).2
  have c6:FQ am 0 Jp=FS:=c6
  have c1:Jk Z.K z=FS:=c1;rw[c1,c2,c3,c4,c5,c6] at h;cases h
 unfold WL at Hd;rw[Fs good] at Hd;refine cx (cU gk (bD 7 (cM #[_,_,Go,Go,_,Go,df (λh=>?_) λh=>?_])))
 ·rw[Fs (by lia)] at Hd
  refine aN 9 nd #[_,aI (ah8 T) [017] (by rfl) T.d_M.c aT (aa [010] ag),i.fld R.same T.MC T.Py rfl #[b,Go,?_]];refine fm (bL (aO (bD 0 (aO (abz (rf T) [017] (aO (ci (bD 0 (R.dk T (aO (bD 3 (aO (bD 4 (aO (bD 9 (aO (bD 5 (aO (bD 6 (aO (bD 7 (cE #[Go,λx dx H2 hx sm e=>cE ?_]))))))))))))))) rfl)))))) (ah7 T Y.C) [017] T.d_W.c aA) rfl;have z0:0<=z:=by unfold FQ at c1;rw[G7,Gp] at c1;exact c1.1
  have t0:0<=t:=by unfold FQ at c2;rw[G7,Gp] at c2;exact c2.1
  unfold Xe U9 at Hd;refine .mk (o:= .step dk z.toNat t.toNat b lo hi am) rfl rfl rfl (R.new sm hx e) #[x,dx,Go,λz=>z,?_] (λh=>er (-15) (by rw[<-Hd,Fv h])) λh B' H' R'=>q _ n5 H' (by rw[<-Hd,Fs (FH.not_le.mpr h)]) (by lia) #[R'.less (F6 _)];rw[ae,hd,MQ z0,MQ t0]
  rfl
 ·have am0:am=0:=by unfold FQ at c6;rw[G7,Gp] at c6;lia
  rw[Fv am0] at Hd;exact cf (q _ n5 H Hd.symm (by lia) #[R.less (F6 _)])
end
section
variable {H:Hp}{te:TE}
theorem E2 (i n:FH) (hp:Ql (model X.prog X.w) X.A X.env X.xe) (nd:X.N.Nodup) (hm:X.mg "range"=FM) (he:PE X e te) (hv: ∀R:VK,R (.int n) H->te σ H R) (hn:n<=1000) (I:FH->L2.St->Hp->Prop) (h0:I 0 σ H) (hs: ∀j σ H,j<n->I j σ H->Bd X A (D.lp X ss (I (j+1))) (σ.set i (FB (.int j))) H) (hd: ∀σ H,I n σ H->Bd X ss D σ H)
  (hg:Gl X "range":=by rfl) (hc:X.calm=FS:=by rfl) (h:Sl X i y:=by exact#[Go,G9 rfl,Go]) (KH:FU [e] X.env=[[001]]:=by rfl) (hf: ∀x,KU (.Call (.Name "range" p1) [e] [] p2) X.env x=pure x:=by intro _;rfl):Bd X (.For (.Name y p0) (.Call (.Name "range" p1) [e] [] p2) A [] p5::ss) D σ H:=
 aR (rn hp hc (pL hg hm (aa he ag KH) KH) (fF nd h.hi h.hx (.inl h.hf)) iR hf) (hv _ #[n,Go,by lia,by lia,qv (n:=n) I h0 (λj σ H lt z=>by rw[T1];exact hs j σ H lt z) hd])
end
structure LB (Z:Zx) (B:Hp) (L:Fq) (l:Fh Int):Prop where
 h:B L=FB (.lst (l.map V.int))
 n:Z.N L=FM
 o:L≠Z.ol
inductive aia (a:bi) (vs:Fh V) (H:Hp) (Q:VK) (E:XK):Prop
 |mk {Z:Zx}{B:Hp}{U:Fh Fi}{en:Hw}{w:GF}{n k:FH}{x:Fi}{e:Fz}{v:V}(_:vs=[.ref Z.x,v]) (_:Z.a=a) (_:Z.E=E) (_:cQ Z 5 B H U en w n) (_:sI Z.a Z.M Z.N (x,e) v) (_:x∉U) (_:WS (x::U) Z.F0 e) (_:3*n+1<=k) (_: ∀c,IK k Z.S en x e (Jb Z.K.quarters) n= .error c->Qe Z c)
  (_: ∀l m B' H' L,IK k Z.S en x e (Jb Z.K.quarters) n= .ok (l,m)->m<=n->LB Z B' L l->cQ Z 0 B' H' U en w m->Q (.ref L) H'):aia a vs H Q E
theorem cQ.q4 {B H:Hp}{w:GF}(R:cQ Z j B H U en w n):Z.K.quarters<=4:=by
 obtain⟨_,_,_,_,eb,_⟩:=R;exact eb.q4
theorem xJ {e:Fz} :IK k S en x e (t::l) n=(match L5 k S ((x,(t:Int))::en) e n with
  | .error c=> .error c
  | .ok (a,m)=>match IK k S en x e l m with
   | .error c=> .error c
   | .ok (b,o)=> .ok (a::b,o)):=rfl
theorem xf {e:Fz} : ∀ {L:Fh FH}{n:FH}{l:Fh Int}{m:FH},IK k S en x e L n= .ok (l,m)->l.length=L.length
 |[],n,l,m,h=>by
  unfold IK at h;cases h
  rfl
 |t::L,n,l,m,h=>by
  rw[xJ] at h;cases h1:L5 k S ((x,(t:Int))::en) e n with
  |error c=>rw[h1] at h;cases h
  |ok z=>
   obtain⟨z1,z2⟩:=z;rw[h1] at h;dsimp only at h;cases h2:IK k S en x e L z2 with
   |error c=>rw[h2] at h;cases h
   |ok y=>
    rw[h2] at h;cases h;exact Gx (· +1) (xf h2)
theorem amd (T:aU K mg a) (XC:XW K a) (KX:ms K a) (TJ:9<=kl):T.d_E.O P w base (kl+1) (aia a):=by
 refine fS T.d_E.F agW [03] [02];obtain @⟨Z,B,U,en,w',n,k,x,e,v,rfl,rfl,rfl,R,⟨u,i,ex⟩,nx,ws,hk,er,q⟩:=h;have nd:=agW.nd;have Y:EX (fi (f9 P w) P w K mg base ["expansion","amounts","found","quarter"] "work_out_amounts" (af s_E) Z.a.f_E Hb A outer s H Z.E) Z.a Z.E:=#[T,XC,KX,hr.mono TJ,aA];refine aN 2 nd (mw λL hL=>?_);obtain⟨hB,hN,hO⟩:=R.fresh hL;obtain⟨nn,kk,os,eb⟩: ∃nn kk os,EB Z B w' nn kk os:=by obtain⟨_,_,_,_,eb,_⟩:=R;exact#[_,_,_,eb]
 have R1:=R.new (o:= .lst []) (bC hL) hL ae
 have q4:=R.q4;refine E2 3 Z.K.quarters Jo nd T.UK (aj [000] rfl) (λ_ q=>R1.mk2 T (R1.XQ T T.Ll rfl q)) (by lia) (λt σ H=> ∃(done:Fh Int) (m:FH) (y:FA V),σ=[FB (.ref Z.x),FB v,FB (.ref L),y]/\done.length=t/\m<=n/\cQ Z (5-t) (aF B L (.lst (done.map V.int))) H U en w' m/\(∀c,IK k Z.S en x e ((Jb Z.K.quarters).drop t) m= .error c->Qe Z c)/\ ∀l m',IK k Z.S en x e ((Jb Z.K.quarters).drop t) m= .ok (l,m')->IK k Z.S en x e (Jb Z.K.quarters) n= .ok (done++l,m')) #[[],n,FM,Go,Go,FN n,R1,er,λ_ _ h=>h] ?_ ?_
 ·rintro t σ H3 lt ⟨done,m,y,rfl,dl,lm,R3,er3,q3⟩
  have dr:(Jb Z.K.quarters).drop t=t::(Jb Z.K.quarters).drop (t+1):=by rw[Hy (by rw[Qk];exact lt),Fh.getElem_range]
  rw[dr] at er3 q3;rw[xJ] at er3 q3;rw[show 5-t=(4-t)+1 by lia] at R3;refine bF (wb Y R3 [000] (λ_ q=>R3.wk T q) [010] (λ_ q=>i.fld R3.same T.O0 T.N5 rfl q) (bD 3 #[_,(t:Int),w',m,Go,R3,nx,by unfold dC KG;lia,λH4 R4=>?_]) rfl rfl rfl);have hl4:H4 L=FB (.lst (done.map V.int)):=by obtain⟨_,W,_,_,_,_⟩:=R4;exact W.O.same _ _ ae
  refine iP (pv 2) [05] hl4 (mW (k:=k) Y R4 [000] (λ_ q=>R4.wk T q) [010] (λ_ q=>i.fld R4.same T.O0 T.Oi rfl q) ex ws (by lia) (λc h=>er3 c (by rw[h])) (λz m5 H5 h hm _ R5=>?_) rfl rfl);rw[h] at er3 q3;dsimp only at er3 q3;have hl5:H5 L=FB (.lst (done.map V.int)):=by obtain⟨_,W,_,_,_,_⟩:=R5;exact W.O.same _ _ ae
  refine#[_,hl5,by rw[FE,dl,Im];lia,gt #[done++[z],m5,_,Go,by rw[FR,dl];rfl,by lia,?_,λc h=>er3 c (by rw[h]),λl m' h=>?_]]
  ·have R6:=(R5.unset nx R).chg (o':= .lst ((done++[z]).map V.int)) hB hN eb
   rw[He] at R6 ⊢;rw[show 5-(t+1)=4-t by lia];exact R6
  ·rw[q3 (z::l) m' (by rw[h]),GN]
   rfl
 ·rintro σ H3 ⟨done,m,y,rfl,dl,lm,R3,er3,q3⟩
  rw[Km (by rw[Qk];exact FN _)] at q3;have:=q3 [] m rfl;rw[GV] at this;exact aM (bD 2 (q done m _ H3 L this lm #[ae,hN,hO] (R3.less (F6 _))))
def zD (w:GF):FA Fi->Except Int (FA FH)
 |none=> .ok FM
 |some u=>match w.names.find? λa=>a.1 == u with
  |some a=> .ok (FB a.2)
  |none=> .error (-16)
def Db (w:GF) (o:GC):FA Fi->GF
 |some x=> { w with orders:=w.orders++[o],names:=(x,w.orders.length)::w.names }
 |none=> { w with orders:=w.orders++[o] }
inductive YU (a:bi) (vs:Fh V) (H:Hp) (Q:VK) (E:XK):Prop
 |mk {Z:Zx}{j:FH}{B:Hp}{U:Fh Fi}{en:Hw}{w:GF}{n:FH}{fs:Fh (FY×V)}{un:FA Fi}{v:V}(_:vs=[.ref Z.x,v]) (_:Z.a=a) (_:Z.E=E) (_:cQ Z j B H U en w n) (_:bJ Z.M Z.N Z.a.JN fs v) (_:fs.lookup ("under":FY)=FB (ii un)) (_: ∀c,zD w un= .error c->Qe Z c) (_: ∀p,zD w un= .ok p->Q (ah3 p) H):YU a vs H Q E
theorem aib (T:aU K mg a) (XC:XW K a):T.Z5.O P w base 4 (YU a):=by
 refine fS T.Z5.F agX [03] [02];obtain @⟨Z,j,B,U,en,w',n,fs,un,v,rfl,rfl,rfl,R,i,hl,er,q⟩:=h;have fl: ∀ {Q:VK},Q (ii un) H->dE K "under" Q v H:=λq=>i.fld R.same T.K6 T.Ol hl q
 have sm:=R.same;obtain⟨_,W,_,_,eb,_⟩:=R
 have nm: ∀ {Q:VK},Q (.ref _) H->dE K "named" Q (.ref Z.x) H:=λq=>#[Z.x,_,Z.dx,_,_,Go,W.O.same _ _ eb.hx,T.HL,T.Kh,Go,q]
 refine bI (YS (ci (bD 1 (fl ?_)) rfl));cases un with
 |none=>exact ca (aM #[_,dO cK ak,_,Go,q FM rfl])
 |some u=>
  have g:=gz.k (k:=nk u) (W.O.same _ _ eb.hn);rw[eb.pn] at g;refine bM (bI #[_,fD (i6 (dz hr) [010] [000]),fl (nm #[_,_,Go,g,_,Go,?_])]);cases hf:w'.names.find? λa=>a.1 == u with
  |none=>exact ca (aR (eT d8 XC.O6 (lh T XC) hr (by rfl) T.Qv T.ZP.c.b) #[F6 _,_,#[Go,Go],er (-16) (by unfold zD;dsimp only;rw[hf]) H sm _ (.tail _ (.tail _ (.tail _ (.tail _ (.tail _ (.head _))))))])
  |some p=>
   rw[hf] at g;exact bM (aM #[_,kh (dz hr) [000] [010] [002],nm (fl #[_,_,Go,g,q (FB p.2) (by unfold zD;dsimp only;rw[hf])])])
inductive Dd (a:bi) (vs:Fh V) (H:Hp) (Q:VK) (E:XK):Prop
 |mk {Z:Zx}{j:FH}{B:Hp}{U:Fh Fi}{en:Hw}{w:GF}{n:FH}{v:V}{nm:FA Fi}{o:GC}(_:vs=[.ref Z.x,ii nm,v]) (_:Z.a=a) (_:Z.E=E) (_:cQ Z j B H U en w n) (_:fT Z.a Z.ol B v o) (_:48<=w.orders.length->Qe Z (-15)) (_:w.orders.length<48-> ∀B' H',cQ Z j B' H' U en (Db w o nm) n->Q .IX H'):Dd a vs H Q E
theorem aic (T:aU K mg a) (XC:XW K a):T.Z6.O P w base 5 (Dd a):=by
 refine fS T.Z6.F agY [03] [02];obtain @⟨Z,j,B,U,en,w',n,v,nm,o,rfl,rfl,rfl,R,ho,h1,h2⟩:=h;refine bF (bL (aO (bD 0 (aO (bD 2 (cE (.mk rfl rfl rfl R ho h1 λlt B' H' R'=>?_)))))) (ah7 T XC) hr T.d_W.c aA);have h2:=h2 lt;have nl:w'.names.length<=w'.orders.length:=by obtain⟨_,_,_,_,eb,_⟩:=R;exact eb.nl
 refine cx (cU Ey (bD 1 (mT [013])));cases nm with
 |none=>exact bM (cf (h2 _ _ R'))
 |some x=>
  obtain @⟨r,b,ff,d,s,nd,kk,os,FO,W,A,gs,eb,hj⟩:=R';have RI:=W.O.same _ _ eb.ho;have kl:kk.length<=48:=FV eb.ln (FV eb.nl eb.le);have ne: ∀ {b:Fq}{u:HO},B' b=FB u->(∀k,u≠ .dK k)->aF B' nd (.dK (dB kk (nk x) (.int w'.orders.length))) b=FB u:=λe n=>by rw[ac (qd e eb.hn (n _))];exact e
  have ni: ∀C d fs,fs.length=7->B' nd≠FB (.ins C d fs):=λ_ _ _ _ z=>by rw[eb.hn] at z;cases z
  have YR:EB Z (aF B' nd (.dK (dB kk (nk x) (.int w'.orders.length)))) (Db w' o (FB x)) nd (dB kk (nk x) (.int w'.orders.length)) os:=by
   refine#[λb u e=>by rw[ac λz=>by rw[z,eb.nx.2.2] at e;cases e];exact eb.sm b u e,ne eb.hx nofun,ne eb.hm nofun,ne eb.ho nofun,ae,eb.nx,dZ eb.po λv x z=>nW z ni (.inr λ_ z=>by rw[eb.hn] at z;cases z),eb.le,λu=>?_,FV (cD _ _ _) (Hh eb.ln),?_,eb.q4]
   ·rw[gI]
    show _=FA.map _ (Fh.find? _ ((x,w'.orders.length)::w'.names))
    rw[Hr];by_cases hu:x=u
    ·rw[Fv (by rw[hu]),show(x == u)=FS from beq_iff_eq.mpr hu];rfl
    ·rw[Fs λz=>hu (eJ (JM z)).symm,show(x == u)=Gc from beq_eq_false_iff_ne.mpr hu];exact eb.pn u
   ·show _+1<=(w'.orders++[o]).length;rw[FR];exact Hh nl
  refine ca (eu (g9 (dz hr) [000] (pv 1) (bW cS (aY bv (by rfl) T.J8 HF (aa [000] ag)) ak) rfl) #[Z.x,_,Z.dx,_,_,Go,W.O.same _ _ eb.hx,T.HL,T.JX,Go,Z.ol,_,Go, .inl (cw.of RI),_,_,Go,Go,Z.x,_,Z.dx,_,_,Go,W.O.same _ _ eb.hx,T.HL,T.Kh,Go,nd,_,Go,tR.k (k:=nk x) (W.O.same _ _ eb.hn) (by rw[Im];lia),?_]);have e:(os.length:Int)-1=w'.orders.length:=by rw[aV eb.po];show((w'.orders++[o]).length:Int)-1=_;rw[FR];show((w'.orders.length+1:FH):Int)-1=_;lia
  rw[e];exact h2 _ _ (cQ.put FO W A gs hj eb.hn eb.nx.2.2 YR)
theorem nE (h:FQ x 0 hi=FS):0<=x:=by unfold FQ at h;rw[G7,Gp] at h;exact h.1
theorem CW {w:GF}(h:(Jk M z&&(FQ p M.lo M.hi&&(l.all (λq=>FQ q 0 Jp)&&FQ g 0 9)))=Gc):Li M d nm b z p l un g w= .error (-14):=by unfold Li;rw[Fv h]
theorem yR {w:GF}(h: ¬(Jk M z&&(FQ p M.lo M.hi&&(l.all (λq=>FQ q 0 Jp)&&FQ g 0 9)))=Gc) (h0:l.all (λq=>q == 0)=FS):Li M d nm b z p l un g w= .ok w:=by unfold Li;rw[Fs h,Fv h0]
theorem Ei {w:GF}(h: ¬(Jk M z&&(FQ p M.lo M.hi&&(l.all (λq=>FQ q 0 Jp)&&FQ g 0 9)))=Gc) (h0: ¬l.all (λq=>q == 0)=FS):
  Li M d nm b z p l un g w=(match zD w un with
   | .error c=> .error c
   | .ok par=>if 48<=w.orders.length then .error (-15) else .ok (Db w (.block d z.toNat b p g.toNat par l) nm)):=by
 unfold Li zD;rw[Fs h,Fs h0];unfold Xe U9;cases un with
 |none=>
  dsimp only;split
  ·rename_i h;split at h<;>cases h;rename_i z;rw[Fv z]
  ·rename_i h;split at h<;>cases h;rename_i z;rw[Fs z];cases nm<;>rfl
 |some u=>
  dsimp only;cases w.names.find? λa=>a.1 == u with
  |none=>rfl
  |some a=>
   dsimp only;split
   ·rename_i h;split at h<;>cases h;rename_i z;rw[Fv z]
   ·rename_i h;split at h<;>cases h;rename_i z;rw[Fs z];cases nm<;>rfl
theorem xw: ∀ {l:Fh Int},(∀q∈l,0<=q)->(0<l.sum ↔ ¬l.all (λq=>q == 0)=FS)/\0<=l.sum
 |[],_=>by simp
 |x::l,h=>by
  obtain⟨h1,h2⟩:=xw λq hq=>h q (Fx _ hq);have hx:=h x Fy;rw[Zn,NO,G7,beq_iff_eq];refine#[#[λz y=>h1.mp (by lia) y.2,λz=>?_],by lia];by_cases y:x=0
  ·have:=h1.mpr λw=>z #[y,w];lia
  ·lia
theorem aid (T:aU K mg a) (XC:XW K a) (KX:ms K a) (TJ:10<=kl):T.Z4.O P w base (kl+1) (jT a lv λs=> ∃nm b z p x q u g,s= .block nm b z p x q u g):=by
 refine wF T XC KX (LS TJ) T.Z4.F YB λHb A outer s H Z B U en w' n k dk sm v Q hr ha hd ho R sa wt hk er q=>?_;intro X D Y;subst ha;obtain⟨nm,b,ez,ep,x,eq,un,eg,rfl⟩:=ho;unfold a9 at sa;obtain⟨u1,u2,u3,u4,i,a1,a2,a3,a4⟩:=sa;unfold WT at wt;obtain⟨nx,w1,w2,w3,w4⟩:=wt;generalize Hd:Jj (k+1) Z.S Z.K dk en (.block nm b ez ep x eq un eg) w' n=res at er q;unfold Jj at Hd;dsimp only at Hd;have nd:=YB.nd;refine aN 2 nd (ci (bD 0 (R.wk T ?_)) rfl);refine gb (k:=k) 3 2 Y nd R rfl rfl i T.K6 T.OV rfl a1 w1 (by lia) [012] λz n1 H h l1 _ R=>?_;rw[h] at Hd;dsimp only at Hd;refine gb (k:=k) 4 2 Y nd R rfl rfl i T.K6 T.Oj rfl a2 w2 (by lia) [012] λp n2 H h l2 _ R=>?_;rw[h] at Hd;dsimp only at Hd;refine aN 5 nd (bL (aO (bD 0 (aO (ci (bD 1 (i.fld R.same T.K6 T.NH rfl (cE (.mk (k:=k) rfl rfl rfl R a3 nx w3 (by lia) [012] λl n3 B H L h l3 hL R=>?_)))) rfl)))) (amd T XC KX (FN 9)) (hr.mono TJ) T.d_E.c aA);have ll:l.length<=4:=by
  obtain⟨_,_,_,_,eb,_⟩:=R;rw[xf h,Qk];exact eb.q4
 rw[h] at Hd;dsimp only at Hd;refine aN 6 nd (YT (k:=k) Y R (pv 2) [05] [010] (λ_ q=>i.fld R.same T.K6 T.ML rfl q) [010] (λ_ q=>i.fld R.same T.K6 T.ML rfl q) ak [05] a4 w4 (by lia) [012] (λg n4 H h l4 R=>?_) rfl (ee rfl rfl));rw[h] at Hd;dsimp only at Hd;have bad:(Jk Z.K z&&(FQ p Z.K.lo Z.K.hi&&(l.all (λq=>FQ q 0 Jp)&&FQ g 0 9)))=Gc->Qe Z (-14):=λh=>er (-14) (by rw[<-Hd,CW h])
 refine o6 Y R (pv 3) ak (bW cS (aj [000] rfl) ak) [05] [05] (λ_ q=>R.mk2 T (R.XQ T T.Ml rfl #[_,_,Go,Go,q])) (λh=>bad (by unfold Jk;rw[h];rfl)) λc1=>?_;refine o6 Y R (pv 4) (aj [000] rfl) (aj [000] rfl) [05] (λ_ q=>R.mk2 T (R.XQ T T.Nm rfl q)) (λ_ q=>R.mk2 T (R.XQ T T.LH rfl q)) (λh=>bad (by rw[h,Js,Iz])) λc2=>?_;have hL':H L=FB (.lst (l.map V.int)):=by obtain⟨_,W,_,_,_,_⟩:=R;exact W.O.same _ _ hL.h
 refine ki 7 Jo nd (pv 5) [05] (λj σ H'=>H'=H/\(∃y,σ=[FB (.ref Z.x),FB v,FB (.ref Z.c.wk),FB (.int z),FB (.int p),FB (.ref L),FB (.int g),y,FM,FM])/\ ∀q∈l.take j,FQ q 0 Jp=FS) #[Go,#[_,Go],by rw[OK];exact nofun] (λj σ H' _ h=>by rw[h.1];exact hL') ?_ ?_
 ·rintro j y σ H' hj ⟨rfl,⟨y',rfl⟩,ha⟩
  rw[GB] at hj;obtain⟨c,hc,rfl⟩:=Gs.mp hj;refine o6 Y R (pv 7) ak (aQ (by rfl) T.OX) [05] [05] [05] (λh=>bad ?_) λc3=>gt #[Go,#[_,Go],λq hq=>?_]
  ·rw[show l.all (λq=>FQ q 0 Jp)=Gc by
    rw[Fh.all_eq_false];exact#[c,Hg hc,by rw[show FQ c 0 Jp=Gc from h];exact Fl],Js,Iz,Iz]
  ·rw[JS,hc] at hq
   rcases F8.mp hq with z|z
   ·exact ha q z
   ·rw[FW.mp z];exact c3
 ·rintro σ H' ⟨rfl,⟨y',rfl⟩,ha⟩
  rw[FE,J6] at ha;refine o6 Y R (pv 6) ak (aQ (by rfl) T.Sd) [05] [05] [05] (λh=>bad (by rw[h,Iz,Iz,Iz])) λc4=>?_;have al:l.all (λq=>FQ q 0 Jp)=FS:=Md.mpr ha
  have good: ¬(Jk Z.K z&&(FQ p Z.K.lo Z.K.hi&&(l.all (λq=>FQ q 0 Jp)&&FQ g 0 9)))=Gc:=λh=>by
   rw[show Jk Z.K z=FS from c1,c2,al,c4] at h;cases h
  obtain⟨sp,_⟩:=xw (l:=l) λq hq=>nE (ha q hq);refine cx (cU gk #[_,aY (vW rfl) (by rfl) T.Wt boot_sum (aa (pv 5) ag),L,l,Go,cw.of hL',cM #[_,_,Go,Go,_,Go,df (λh=>?_) λh=>?_]])
  ·rw[Ei good (sp.mp h)] at Hd
   refine aN 8 nd (bL (aO (bD 0 (aO (bD 1 (cE (.mk rfl rfl rfl R i rfl [012] λpar h=>?_)))))) (aib T XC) [017] T.Z5.c aA);rw[h] at Hd;dsimp only at Hd;refine aN 9 nd #[_,aI (ah8 T) [017] (by rfl) T.d_M.c aT (aa [010] ag),i.fld R.same T.K6 T.OU rfl #[b,Go,?_]];refine fm (bL (aO (bD 0 (aO (ci (bD 1 (i.fld R.same T.K6 T.OT rfl ?_)) rfl)))) (aic T XC) [017] T.Z6.c aA) rfl;refine aO (abz (o5 T) [017] (aO (ci (bD 0 (R.dk T ?_)) rfl)));refine aO (bD 3 (aO (bD 9 (aO (bD 4 (aO (bD 6 (aO (bD 8 (aO (bD 5 (cE #[Go,λy dx H2 hy sm e=>cE ?_]))))))))))));have hB:=(R.fresh hy).1;refine .mk (nm:=nm) (o:= .block dk z.toNat b p g.toNat par l) rfl rfl rfl (R.new sm hy e) #[L,hL.o,#[y,dx,Go,λz=>z,?_],?_,ll] (λh=>er (-15) (by rw[<-Hd,Fv h])) λh B' H' R'=>q _ n4 H' (by rw[<-Hd,Fs (FH.not_le.mpr h)]) (by lia) #[R'.less (F6 _)]
   ·rw[ae,hd,MQ (nE c1),MQ (nE c4)]
    rfl
   ·rw[ac (ai hL.h hB)];exact hL.h
  ·rw[yR good (Classical.byContradiction λz=>h (sp.mpr z))] at Hd
   exact cf (q _ n4 H' Hd.symm (by lia) #[R.less (F6 _)])
section
open Vbemac (ev runOne)
def wj (k:FH) (S:Ij) (M:Ks) (d:FH) (v:Hw) (s:Hj) (w:GF) (n:FH):Vbemac.Res (Hw×GF):=match s with
 | .bind x e=>(match ev k S v e n with
  | .error c=> .error c
  | .ok (a,m)=> .ok (((x,a)::v,w),m))
 |s=>(match runOne k S M d v s w n with
  | .error c=> .error c
  | .ok (u,m)=> .ok ((v,u),m))
theorem AQ {w:GF} :JU (k+1) S M d v (.cons s r) w (n+1)=(match wj k S M d v s w n with
  | .error c=> .error c
  | .ok (x,m)=>JU k S M d x.1 r x.2 m):=by
 conv=>lhs;unfold JU
 unfold wj;cases s<;>dsimp only
 ·cases ev k S v _ n<;>rfl
 all_goals cases runOne k S M d v _ w n<;>rfl
inductive EU (S:Ij) (U:Fh Fi) (en:Hw):Fh Fi->Hw->Prop
 |refl:EU S U en U en
 |cons {U':Fh Fi}{Ul:Hw}{x:Fi}{z:Int}(_:EU S U en U' Ul) (_:x∉U') (_: ∀y,dC (Ri Ul y)) (_: ∀y∈S.consts.map (·.1),y∈U'):EU S U en (x::U') ((x,z)::Ul)
theorem cQ.back {Z:Zx}{U:Fh Fi}{en:Hw}{U':Fh Fi}{Ul:Hw}(x:EU Z.S U en U' Ul): ∀ {j n:FH}{B H:Hp}{w:GF},cQ Z j B H U' Ul w n->cQ Z j B H U en w n:=by
 induction x with
 |refl=>exact λR=>R
 |cons _ ny bg lo ih=>
  intro j n B H w R;obtain⟨FO,W,A,gs,eb,hj⟩:=R;exact ih #[FO,W,A.unset ny bg λ_=>lo,gs,eb,hj]
theorem cQ.ext {B H:Hp}{w:GF}(E:EU Z.S U en U' Ul) (R:cQ Z j B H U' Ul w n) (ny:x∉U'):EU Z.S U en (x::U') ((x,z)::Ul):=by
 obtain⟨_,_,A,_,_,_⟩:=R;exact .cons E ny A.big (A.low rfl)
inductive Bx (K:Fm) (a:bi) (vs:Fh V) (H:Hp) (Q:VK) (E:XK):Prop
 |mk {Z:Zx}{j:FH}{B:Hp}{U:Fh Fi}{en:Hw}{w:GF}{n k:FH}{C:Fq}{x:Fi}{e:Fz}{u v:V}(_:vs=[.ref Z.c.wk,v]) (_:Z.a=a) (_:Z.E=E) (_:cQ Z (j+1) B H U en w n) (_:bJ Z.M Z.N C [("name", .str (sb x)),("exp",u)] v) (_:gG K C) (_:au K C "name") (_:au K C "exp") (_:aw Z.a Z.M Z.N e u) (_:x∉U) (_:WS U Z.F0 e) (_:3*n+1<=k) (_: ∀c,ev k Z.S en e n= .error c->Qe Z c) (_: ∀y m H',ev k Z.S en e n= .ok (y,m)->m<n->dC y->cQ Z j B H' (x::U) ((x,y)::en) w m->Q .IX H'):Bx K a vs H Q E
theorem aie (T:aU K mg a) (XC:XW K a) (KX:ms K a) (TJ:9<=kl):T.d_z.O P w base (kl+1) (Bx K a):=by
 refine fS T.d_z.F alx [03] [02];obtain @⟨Z,j,B,U,en,w',n,k,C,x,e,u,v,rfl,rfl,rfl,R,i,cl,n1,n2,ex,nx,ws,hk,er,q⟩:=h;have Y:EX (fi (f9 P w) P w K mg base ["worker","given"] "give_value" (af s_z) Z.a.f_z Hb A outer s H Z.E) Z.a Z.E:=#[T,XC,KX,hr.mono TJ,aA];exact fm (wb Y R (pv 0) [05] [010] (λ_ q=>i.fld R.same cl n1 rfl q) (mW (k:=k) Y R (pv 0) [05] [010] (λ_ q=>i.fld R.same cl n2 rfl q) ex ws hk er (λy m H' h hm hb R'=>#[B,y,w',m,Go,R',nx,hb,λH2 R2=>q y m H2 h hm hb R2]) rfl (ee rfl rfl)) rfl rfl (ee rfl rfl)) rfl
inductive sR (a:bi) (lv:FH) (vs:Fh V) (H:Hp) (Q:VK) (E:XK):Prop
 |mk {Z:Zx}{j:FH}{B:Hp}{U:Fh Fi}{en:Hw}{w:GF}{n k dk:FH}{l:Jn}{v:V}(_:vs=[.ref Z.x,v]) (_:Z.a=a) (_:Z.E=E) (_:Z.d=dk) (_:cQ Z j B H U en w n) (_:mJ Z.a Z.M Z.N l v) (_:Aa lv U Z.F0 l) (_:3*n+2<=k) (_: ∀c,JU k Z.S Z.K dk en l w n= .error c->Qe Z c) (_: ∀u m B' H',JU k Z.S Z.K dk en l w n= .ok (u,m)->m<=n->cQ Z 0 B' H' U en u m->Q .IX H'):sR a lv vs H Q E
inductive Cm (a:bi) (lv:FH) (vs:Fh V) (H:Hp) (Q:VK) (E:XK):Prop
 |mk {Z:Zx}{B:Hp}{U:Fh Fi}{en:Hw}{w:GF}{n k dk:FH}{st:Hj}{v:V}(_:vs=[.ref Z.x,v]) (_:Z.a=a) (_:Z.E=E) (_:Z.d=dk) (_:cQ Z 5 B H U en w n) (_:a9 Z.a Z.M Z.N st v) (_:WT lv U Z.F0 st) (_:3*n+4<=k) (_: ∀c,wj k Z.S Z.K dk en st w n= .error c->Qe Z c) (_: ∀x m B' H',wj k Z.S Z.K dk en st w n= .ok (x,m)->m<=n->cQ Z 0 B' H' (bnd U st) x.1 x.2 m->(∀ {U0 en0},EU Z.S U0 en0 U en->EU Z.S U0 en0 (bnd U st) x.1)->Q .IX H'):Cm a lv vs H Q E
theorem ame (T:aU K mg a) (XC:XW K a) (KX:ms K a) (TJ:9<=kl) (G:T.Xj.O P w base kl (sR a (lv-1))):T.d_D.O P w base (kl+1) (jT a lv λs=> ∃c x y,s= .cond c x y):=by
 refine wF T XC KX TJ T.d_D.F agU λHb A outer s H Z B U en w' n k dk sm v Q hr ha hd ho R sa wt hk er q=>?_;intro X D Y;subst ha;obtain⟨ec,l1,l2,rfl⟩:=ho;unfold a9 at sa;obtain⟨u,q1,us,q2,vs,i,ex,h1,h2,h3,h4⟩:=sa;unfold WT at wt;obtain⟨w1,lv1,w2,w3⟩:=wt;generalize Hd:runOne (k+1) Z.S Z.K dk en (.cond ec l1 l2) w' n=res at er q;unfold runOne at Hd;dsimp only at Hd;refine cx (cU qc (mW (k:=k) Y R [000] (λ_ q=>R.wk T q) [010] (λ_ q=>i.fld R.same T.SW T.N3 rfl q) ex w1 (by lia) [012] (λz m H h hm _ R=>cM [013]) rfl rfl));rw[h] at Hd;dsimp only at Hd;rw[cj,<-decide_not];refine df (λhz=>?_) λhz=>?_
 ·rw[Fv hz] at Hd
  exact fm (bL (aO (bD 0 (aO (ci (bD 1 (i.fld R.same T.SW T.NG rfl (cE (.mk (k:=k) rfl rfl rfl hd R #[us,h1,h2] w2 (by lia) (λc h=>er c (Hd.symm.trans h)) λu m' B' H' h Qi R'=>q u m' H' (Hd.symm.trans h) (by lia) #[R'])))) rfl)))) G hr T.Xj.c aA) rfl
 ·rw[Fs hz] at Hd
  exact fm (bL (aO (bD 0 (aO (ci (bD 1 (i.fld R.same T.SW T.LQ rfl (cE (.mk (k:=k) rfl rfl rfl hd R #[vs,h3,h4] w3 (by lia) (λc h=>er c (Hd.symm.trans h)) λu m' B' H' h Qi R'=>q u m' H' (Hd.symm.trans h) (by lia) #[R'])))) rfl)))) G hr T.Xj.c aA) rfl
end
def stx:Hj->FH
 | .bind .. =>7
 | .loop .. =>8
 | .cond .. =>9
 | .step .. =>10
 | .block .. =>11
theorem Dp {a:bi}{M:Fq->Prop}{H:Hp}(h:a9 a M H s v):Nd1 a M H (stx s) v:=by
 cases s<;>unfold a9 at h
 ·obtain⟨_,h,_⟩:=h;exact#[h,Go]
 ·obtain⟨_,_,_,_,h,_⟩:=h;exact#[h,Go]
 ·obtain⟨_,_,_,_,_,h,_⟩:=h;exact#[h,Go]
 ·obtain⟨_,_,_,_,_,h,_⟩:=h;exact#[h,Go]
 ·obtain⟨_,_,_,_,h,_⟩:=h;exact#[h,Go]
theorem amf (T:aU K mg a) (XC:XW K a) (KX:ms K a) (TJ:9<=kl) (G:T.Xj.O P w base kl (sR a (lv-1))):T.d_A.O P w base (kl+1) (jT a lv λs=> ∃x lo hi l,s= .loop x lo hi l):=by
 refine wF T XC KX TJ T.d_A.F aa7 λHb A outer s H Z B U en w' n k dk sm v Q hr ha hd ho R sa wt hk er q=>?_;intro X D Y;subst ha;obtain⟨x,lo,hi,l,rfl⟩:=ho;unfold a9 at sa;obtain⟨u1,u2,ql,us,i,a1,a2,h1,h2⟩:=sa;unfold WT at wt;obtain⟨nx,w1,w2,lv1,w3⟩:=wt;generalize Hd:Jj (k+1) Z.S Z.K dk en (.loop x lo hi l) w' n=res at er q;unfold Jj at Hd;dsimp only at Hd;have nd:=aa7.nd;refine aN 2 nd (ci (bD 0 (R.wk T ?_)) rfl);refine gb (k:=k) 3 2 Y nd R rfl rfl i T.Qa T.Px rfl a1 w1 (by lia) [012] λt n1 H h l1 bt R=>?_;rw[h] at Hd;dsimp only at Hd;refine gb (k:=k) 4 2 Y nd R rfl rfl i T.Qa T.QA rfl a2 w2 (by lia) [012] λlast n2 H h l2 bl R=>?_;rw[h] at Hd;dsimp only at Hd;clear h;refine f7 Jo (λi σ H=> ∃(t:Int) (B:Hp) (w'':GF) (k:FH),σ=[FB (.ref Z.x),FB v,FB (.ref Z.c.wk),FB (.int t),FB (.int last)]/\ -KG<=t/\i<=n/\3*i+3<=k/\cQ Z 0 B H U en w'' i/\WM k Z.S Z.K dk en x t last l w'' i=res) n2 #[t,B,w',k,Go,bt.1,by lia,by lia,R.less (F6 _),Hd] ?_;rintro m σ H3 ⟨t,B,w3',k,rfl,bt,hm,hk,R,Hd⟩;obtain⟨k,rfl⟩: ∃k',k=k'+1:=#[k-1,by lia];unfold WM at Hd;refine cU eP (bD 3 (bD 4 #[_,_,Go,Go,_,Go,df (λz=>?_) λz=>?_]))
 ·rw[Fs (by lia)] at Hd
  refine bF (vq Y R (pv 2) [05] [01] (λh=>er (-13) (by rw[<-Hd,h])) (λm' H' h R'=>?_) (ee rfl rfl));subst h;dsimp only at Hd;refine bF (wb (j:=4) Y R' (pv 2) [05] [010] (λ_ q=>i.fld R'.same T.Qa T.Qz rfl q) (bD 3 #[_,t,w3',m',Go,R',nx,#[bt,Int.le_trans z bl.2],λH2 R2=>?_]) rfl rfl (ee rfl rfl));refine bF (bL (aO (bD 0 (aO (ci (bD 1 (i.fld R2.same T.Qa T.M7 rfl (cE (.mk (k:=k) rfl rfl rfl hd R2 #[us,h1,h2] w3 (by lia) [012] λu m2 B2 H4 h hm2 R4=>?_)))) rfl)))) G hr T.Xj.c aA);rw[h] at Hd;dsimp only at Hd;exact aR (kZ (i:=3) nd rfl (G9 rfl) ak lj) #[_,Go,_,_,Go,Go,cf #[m2,by lia,t+1,B2,u,k,Go,by lia,by lia,by lia,R4.unset nx R,Hd]]
 ·rw[Fv (by lia)] at Hd
  exact cf (q w3' m H3 Hd.symm hm #[R])
theorem Au {w:GF}(h:stx s≠7):wj k S M d v s w n=(match Jj k S M d v s w n with
  | .error c=> .error c
  | .ok (u,m)=> .ok ((v,u),m))/\ ∀U,bnd U s=U:=by
 cases s<;>first|exact FP rfl h|exact#[Go,λ_=>rfl]
theorem aif (T:aU K mg a) (XC:XW K a) (KX:ms K a) (TJ:11<=kl)
  (G1:T.d_A.O P w base kl (jT a lv λs=> ∃x lo hi l,s= .loop x lo hi l))
  (G2:T.d_D.O P w base kl (jT a lv λs=> ∃c x y,s= .cond c x y)):
  T.d_V.O P w base (kl+1) (Cm a lv):=by
 refine okL T.d_V.F aly [03] [02];intro X D;obtain @⟨Z,B,U,en,w',n,k,dk,st,v,rfl,rfl,rfl,hd,R,sa,wt,hk,er,q⟩:=h;have nd:=Dp sa;have one: ∀ {ok:Hj->Prop},ok st->stx st≠7->jT Z.a lv ok [.ref Z.x,v] H (λ_ H'=>Q .IX H') Z.E:=λho h7=>by
  obtain⟨e1,e2⟩:=Au (k:=k) (S:=Z.S) (M:=Z.K) (d:=dk) (v:=en) (w:=w') (n:=n) h7;refine .mk (k:=k) rfl rfl rfl hd ho R sa wt hk (λc h=>er c (by rw[e1,h])) λu m H' h hm ⟨R'⟩=>q (en,u) m _ H' (by rw[e1,h]) hm (by rw[e2];exact R') λx=>by rw[e2];exact x
 have is: ∀ {cl:FY}{C:Fq}{A' Ui:Fh Stmt}{p1 p2 p3 p4 p5:Pos}(j:FH),mg cl=FB (.ref C)->(zQ Z.a)[j]?=FB C->Gl X cl->(cl == [003])=Gc->(stx st=j->Bd X A' D [FB (.ref Z.x),FB v] H)->(stx st≠j->Bd X Ui D [FB (.ref Z.x),FB v] H)->Bd X [.If (.Call (.Name "isinstance" p1) [.Name "statement" p2, .Name cl p3] [] p4) A' Ui p5] D [FB (.ref Z.x),FB v] H:=λj hm hj hg hx yes no=>cx (uM KX T.KQ nd R.same hj hm (pv 1) [05] (df yes no) (by rfl) hg hx)
 refine is 7 T.T6 rfl rfl [01] (λz=>?_) λz7=>?_
 ·cases st<;>first|cases z|skip
  rename_i x e;unfold a9 at sa;obtain⟨u,i,ex⟩:=sa;unfold WT at wt;refine fm (bL (aO (ci (bD 0 (R.wk T (aO (bD 1 (cE (.mk (k:=k) (j:=4) rfl rfl rfl R i T.RY T.Og T.Q1 ex wt.1 wt.2 (by lia) (λc h=>er c (by unfold wj;dsimp only;rw[h])) λy m H' h hm hb R'=>?_)))))) rfl)) (aie T XC KX (FN 9)) [017] T.d_z.c aA) rfl;exact q ((x,y)::en,w') m _ H' (by unfold wj;dsimp only;rw[h]) (by lia) (R'.less (F6 _)) λX=>cQ.ext X R wt.1
 refine is 8 T.Wb rfl rfl [01] (λz=>?_) λz8=>?_
 ·exact fm (bL (aO (bD 0 (aO (bD 1 (cE (one (by cases st<;>first|exact#[_,_,_,_,Go]|cases z) z7)))))) G1 hr T.d_A.c aA) rfl
 refine is 9 T.Yg rfl rfl [01] (λz=>?_) λz9=>?_
 ·exact fm (bL (aO (bD 0 (aO (bD 1 (cE (one (by cases st<;>first|exact#[_,_,_,Go]|cases z) z7)))))) G2 hr T.d_D.c aA) rfl
 refine is 10 T.UH rfl rfl [01] (λz=>?_) λz10=>?_
 ·exact fm (bL (aO (bD 0 (aO (bD 1 (cE (one (by cases st<;>first|exact#[_,_,_,_,_,_,Go]|cases z) z7)))))) (ah9 T XC KX (FN 9)) [017] T.Z3.c aA) rfl
 exact fm (bL (aO (bD 0 (aO (bD 1 (cE (one (by cases st<;>first|exact#[_,_,_,_,_,_,_,_,Go]|exact FP rfl z7|exact FP rfl z8|exact FP rfl z9|exact FP rfl z10) z7)))))) (aid T XC KX (FN 10)) (hr.mono TJ) T.Z4.c aA) rfl
theorem aih (T:aU K mg a) (XC:XW K a) (KX:ms K a) (TJ:9<=kl) (G:T.d_V.O P w base kl (Cm a lv)):
  T.Xj.O P w base (kl+1) (sR a lv):=by
 refine okL T.Xj.F agT [03] [02];intro X D;obtain @⟨Z,j,B,U,en,w',n,k,dk,l,v,rfl,rfl,rfl,hd,R,⟨us,⟨L,rfl,_,hL⟩,sa⟩,wt,hk,er,q⟩:=h;have Y:EX X Z.a Z.E:=#[T,XC,KX,hr.mono TJ,aA];generalize Hd:JU k Z.S Z.K dk en l w' n=res at er q;refine ki 2 Jo agT.nd (pv 1) [05] (λi σ H=> ∃(U':Fh Fi) (Ul:Hw) (B:Hp) (w'':GF) (n' k':FH) (r:Jn) (y:FA V),σ=[FB (.ref Z.x),FB (.ref L),y]/\EU Z.S U en U' Ul/\cQ Z 0 B H U' Ul w'' n'/\bE Z.a Z.M Z.N r (us.drop i)/\Aa lv U' Z.F0 r/\3*n'+2<=k'/\n'<=n/\JU k' Z.S Z.K dk Ul r w'' n'=res) #[U,en,B,w',n,k,l,_,Go, .refl,R.less (F6 _),sa,wt,hk,FN n,Hd] (λi σ H _ ⟨_,_,_,_,_,_,_,_,_,_,R,_⟩=>R.same _ _ hL) ?_ ?_
 ·rintro i v σ H2 hi ⟨U',Ul,B,w2,n2,k2,r,y,rfl,xt,R,sa,wt,hk,hn,Hd⟩
  obtain⟨lt,hv⟩:=Gq.mp hi;rw[Hy lt,hv] at sa;cases r with
  |nil=>unfold bE at sa;cases sa
  |cons st r=>
  unfold bE at sa;obtain⟨u,vs,e,s1,s2⟩:=sa;cases e;unfold Aa at wt;obtain⟨k,rfl⟩: ∃k',k2=k'+1:=#[k2-1,by lia];refine bF (vq Y R [000] (λ_ q=>R.wk T q) [01] (λh=>er (-13) (by rw[<-Hd,h];unfold JU;rfl)) (λm' H' h R'=>?_) rfl);subst h;rw[AQ] at Hd;refine bF (bL (aO (bD 0 (aO (bD 2 (cE (.mk (k:=k) rfl rfl rfl hd R' s1 wt.1 (by lia) [012] λx m B' H' h hm R2 xt'=>?_)))))) G hr T.d_V.c aA);rw[h] at Hd;exact gt #[_,x.1,B',x.2,m,k,r,_,Go,xt' xt,R2,s2,wt.2,by lia,by lia,Hd]
 ·rintro σ H2 ⟨U',Ul,B,w2,n2,k2,r,y,rfl,xt,R,sa,wt,hk,hn,Hd⟩
  rw[Km (FN _)] at sa;cases r with
  |cons st r=>unfold bE at sa;obtain⟨_,_,e,_⟩:=sa;cases e
  |nil=>
  obtain⟨k,rfl⟩: ∃k',k2=k'+1:=#[k2-1,by lia];unfold JU at Hd;exact cf (q w2 n2 B H2 Hd.symm hn (R.back xt))
theorem AS (T:aU K mg a) (XC:XW K a) (KX:ms K a): ∀lv,T.Xj.O P w base (13+3*lv) (sR a lv)
 |0=>aih T XC KX (by decide) (aif T XC KX (FN 11)
   (fS T.d_A.F aa7 (λvs H Q E h=>by obtain⟨rfl,_⟩:=h;rfl) λHb A outer s H vs Q E hr h=>by
    obtain⟨_,_,_,_,⟨x,lo,hi,l,rfl⟩,_,_,wt,_⟩:=h;unfold WT at wt;exact FP wt.2.2.2.1 [01])
   (fS T.d_D.F agU (λvs H Q E h=>by obtain⟨rfl,_⟩:=h;rfl) λHb A outer s H vs Q E hr h=>by
    obtain⟨_,_,_,_,⟨c,x,y,rfl⟩,_,_,wt,_⟩:=h;unfold WT at wt;exact FP wt.2.1 [01]))
 |lv+1=>by
  have G:=AS T XC KX lv
  have:=aih T XC KX (by lia) (aif T XC KX (by lia) (amf (lv:=lv+1) T XC KX (by lia) G) (ame (lv:=lv+1) T XC KX (by lia) G));exact this.mono (by lia)
section
open Vbemac (ev runAll DOWN)
def BQ (M:Ks) (t:Hv) (d:FH) (S:Ij) (l:Fh GC) (n:FH):Vbemac.Res (FH×Ij×Fh GC):=match t with
 | .const x e=>(match n with
  |0=> .error (-13)
  |n+1=>match ev DOWN S S.consts e n with
   | .error c=> .error c
   | .ok (a,m)=> .ok ((d,{ S with consts:=(x,a)::S.consts },l),m))
 | .func x ps e=> .ok ((d,{ S with funs:=(x,ps,e)::S.funs },l),n)
 | .desk _ b=>match runAll DOWN S M d S.consts b ⟨l,[]⟩ n with
  | .error c=> .error c
  | .ok (w,m)=> .ok ((d+1,S,w.orders),m)
theorem ym {d n:FH} :Ni M (t::r) d S l n=(match BQ M t d S l n with
  | .error c=> .error c
  | .ok (x,m)=>Ni M r x.1 x.2.1 x.2.2 m):=by
 conv=>lhs;unfold Ni
 unfold BQ;cases t with
 |const x e=>
  cases n with
  |zero=>rfl
  |succ n=>dsimp only;cases ev DOWN S S.consts e n<;>rfl
 |func x ps e=>rfl
 |desk x b=>dsimp only;cases runAll DOWN S M d S.consts b #[l,[]] n<;>rfl
theorem aii {s:fz} :look [s] x=s x:=by
 show(match s x with|some a=>FB a|none=>s x)=s x
 cases s x<;>rfl
abbrev Zx.to (Z:Zx) (S:Ij) (F:Fh (Fi×FH)) (d:Int):Zx:= { Z with S:=S,F0:=F,d:=d }
theorem yP {Z:Zx}{j n:FH}{B H:Hp}{U:Fh Fi}{w:GF}(R:cQ Z j B H (x::U) ((x,y)::Z.S.consts) w n) (lo: ∀z∈Z.S.consts.map (·.1),z∈U):cQ (Z.to { Z.S with consts:=(x,y)::Z.S.consts } Z.F0 Z.d) j B H (x::U) ((x,y)::Z.S.consts) w n:=by
 obtain @⟨r,b,ff,d,s,nd,kk,os,FO,W,A,gs,eb,hj⟩:=R;have sub: ∀z∈(((x,y)::Z.S.consts).map λa:Fi×Int=>a.1),z∈x::U:=λz hz=>by
  rcases FF.mp hz with h|h
  ·rw[h];exact Fy
  ·exact Fx _ (lo z h)
 refine#[#[λf p hf=>?_,A.big],W,#[A.val,λz hz=>?_,λ_=>sub,A.big],gs,#[eb.sm,eb.hx,eb.hm,eb.ho,eb.hn,eb.nx,eb.po,eb.le,eb.pn,eb.ln,eb.nl,eb.q4],hj]
 ·rcases FO.all f p hf with⟨g,h1,h2,⟨Kg,Fg,h3,h4,h5⟩,h6,h7⟩|h
  ·exact .inl #[g,h1,h2,#[Kg,Fg,h3,λz hz=>Fx _ (h4 z hz),h5],h6,h7]
  ·exact .inr h
 ·have:=A.val z (sub z hz)
  rw[aii] at this;exact this
theorem gD {α:Type}{F:Fh (Fi×α)}{x f:Fi}{y:α} :(((x,y)::F).find? λh=>h.1 == f)=if x=f then FB (x,y) else F.find? λh=>h.1 == f:=by
 rw[Hr];by_cases h:x=f
 ·rw[Fv h,show((x,y).1 == f)=FS from beq_iff_eq.mpr h]
 ·rw[Fs h,show((x,y).1 == f)=Gc from beq_eq_false_iff_ne.mpr h]
theorem yk {S:Ij}{F:Fh (Fi×FH)}{x:Fi}{ps:Fh Fi}{e:Fz}{U:Fh Fi}(FO:gA S F) (nx: ∀g∈F,g.1≠x) (nd:ps.Nodup) (l6:ps.length<=6) (ws:WS (ps++U) F e) (vc: ∀z∈U,z∈S.consts.map (·.1)):gA { S with funs:=(x,ps,e)::S.funs } ((x,ps.length)::F):=by
 have sub:Sub F ((x,ps.length)::F):=λf p h=>by
  rw[gD,Fs λz=>nx p (KY h) (by have:=Rh h;rw[z];exact beq_iff_eq.mp this)];exact h
 refine#[λf p hf=>?_,FO.ahO];rw[gD] at hf;by_cases h:x=f
 ·rw[Fv h] at hf
  cases hf;exact .inl #[(x,ps,e),by show Fh.find? _ ((x,ps,e)::S.funs)=_;rw[gD,Fv h],Go,#[U,F,ws,vc,sub],nd,l6]
 ·rw[Fs h] at hf
  have e1:(((x,ps,e)::S.funs).find? λh=>h.1 == f)=S.funs.find? λh=>h.1 == f:=by rw[gD,Fs h]
  rcases FO.all f p hf with⟨g,h1,h2,⟨Kg,Fg,h3,h4,h5⟩,h6,h7⟩|⟨h1,h2⟩
  ·exact .inl #[g,e1.trans h1,h2,#[Kg,Fg,h3,h4,λf p h=>sub f p (h5 f p h)],h6,h7]
  ·exact .inr #[e1.trans h1,h2]
section
variable {B H:Hp}{w:GF}
theorem EB.aij {nd VN:Fq}{kk kk':Fh (be×V)}{os:Fh V}{w':GF}{d':Int}(eb:EB Z B w nd kk os) (hn:aF B Z.x (.ins Z.a.GG Z.dx (xF Z.m Z.c.wk Z.ol d' VN)) VN=FB (.dK kk')) (hN:Z.N VN=FM) (ho:w'.orders=w.orders) (pn: ∀u,bO kk' (nk u)=(w'.names.find? λa=>a.1 == u).map λa=>V.int (a.2:FH)) (ln:kk'.length<=w'.names.length) (nl:w'.names.length<=w'.orders.length):EB (Z.to Z.S Z.F0 d') (aF B Z.x (.ins Z.a.GG Z.dx (xF Z.m Z.c.wk Z.ol d' VN))) w' VN kk' os:=by
 have ne: ∀ {b:Fq}{u:HO},B b=FB u->(∀C d fs,fs.length=5->u≠ .ins C d fs)->aF B Z.x (.ins Z.a.GG Z.dx (xF Z.m Z.c.wk Z.ol d' VN)) b=FB u:=λe n=>by rw[ac (qd e eb.hx (n _ _ _ rfl))];exact e
 have n7: ∀C d fs,fs.length=7->B Z.x≠FB (.ins C d fs):=λC d fs hl z=>by
  rw[eb.hx] at z;have:=Gx OL (HO.ins.inj (FL z)).2.2;rw[hl] at this;cases this
 refine#[λb u e=>by rw[ac λz=>by rw[z,eb.nx.1] at e;cases e];exact eb.sm b u e,ae,ne eb.hm λC d fs hl z=>?_,ne eb.ho nofun,hn,#[eb.nx.1,eb.nx.2.1,hN],by rw[ho];exact dZ eb.po λv x z=>nW z n7 (.inr λ_ z=>by rw[eb.hx] at z;cases z),by rw[ho];exact eb.le,pn,ln,nl,eb.q4]
 ·have:=Gx OL (HO.ins.inj z).2.2
  rw[hl] at this;cases this
theorem cQ.desk (R:cQ Z j B H U en w n): ∃nd,H Z.x=FB (.ins Z.a.GG Z.dx (xF Z.m Z.c.wk Z.ol Z.d nd))/\ ∀d',cQ (Z.to Z.S Z.F0 d') j (aF B Z.x (.ins Z.a.GG Z.dx (xF Z.m Z.c.wk Z.ol d' nd))) (aF H Z.x (.ins Z.a.GG Z.dx (xF Z.m Z.c.wk Z.ol d' nd))) U en w n:=by
 obtain @⟨r,b,ff,d,s,nd,kk,os,FO,W,A,gs,eb,hj⟩:=R;refine#[nd,W.O.same _ _ eb.hx,λd'=>cQ.put (Z:=Z.to Z.S Z.F0 d') FO W A gs hj eb.hx eb.nx.1 (eb.aij (by rw[ac (qd eb.hn eb.hx nofun)];exact eb.hn) eb.nx.2.2 rfl eb.pn eb.ln eb.nl)]
theorem cQ.reset (R:cQ Z j B H U en w n) (h:H p=FM): ∃nd,aF H p (.dK []) Z.x=FB (.ins Z.a.GG Z.dx (xF Z.m Z.c.wk Z.ol Z.d nd))/\ ∃B',cQ Z j B' (aF (aF H p (.dK [])) Z.x (.ins Z.a.GG Z.dx (xF Z.m Z.c.wk Z.ol Z.d p))) U en #[w.orders,[]] n:=by
 obtain⟨hB,hN,_⟩:=R.fresh h;have R:=R.new (o:= .dK []) (bC h) h ae;obtain @⟨r,b,ff,d,s,nd,kk,os,FO,W,A,gs,eb,hj⟩:=R;exact#[nd,W.O.same _ _ eb.hx,_,cQ.put FO W A gs hj eb.hx eb.nx.1 (eb.aij (Z:=Z) (d':=Z.d) (w':=#[w.orders,[]]) (kk':=[]) (by rw[ac (qd ae eb.hx nofun),ae]) hN rfl (λ_=>rfl) (F6 _) (F6 _))]
end
def tpx:Hv->FH
 | .const .. =>12
 | .func .. =>13
 | .desk .. =>14
theorem Ed {a:bi}{M:Fq->Prop}{H:Hp} : ∀ {t:Hv}{v:V},e9 a M H t v->Nd1 a M H (tpx t) v
 | .const ..,_,⟨_,h,_⟩=>#[h,Go]
 | .func ..,_,⟨_,_,h,_⟩=>#[h,Go]
 | .desk ..,_,⟨_,_,h,_⟩=>#[h,Go]
inductive TS (Z:Zx) (H:Hp) (U:Fh Fi) (l:Fh GC) (n d:FH) (r:Jz):Prop
 |mk (B:Hp) (nm:Fh (Fi×FH)) (_:cQ Z 0 B H U Z.S.consts ⟨l,nm⟩ n) (_: ∀z∈U,z∈Z.S.consts.map (·.1)) (_:Z.d+1=d) (_:Z.S.funs.length<=Z.F0.length) (_:xC U Z.F0 r):TS Z H U l n d r
inductive YV (a:bi) (vs:Fh V) (H:Hp) (Q:VK) (E:XK):Prop
 |mk {Z:Zx}{U:Fh Fi}{l:Fh GC}{n d:FH}{t:Hv}{r:Jz}{v:V}(_:vs=[.ref Z.x,v]) (_:Z.a=a) (_:Z.E=E) (_:TS Z H U l n d (t::r)) (_:n<=10000) (_:e9 Z.a Z.M Z.N t v) (_: ∀c,BQ Z.K t d Z.S l n= .error c->Qe Z c) (_: ∀x m H' U' F',BQ Z.K t d Z.S l n= .ok (x,m)->m<=n->TS (Z.to x.2.1 F' ((x.1:Int)-1)) H' U' x.2.2 m x.1 r->Q .IX H'):YV a vs H Q E
theorem aik (T:aU K mg a) (XC:XW K a) (KX:ms K a):T.Z1.O P w base 32 (YV a):=by
 refine okL T.Z1.F agS [03] [02];intro X D;obtain @⟨Z,U,l,n,d,t,r,v,rfl,rfl,rfl,⟨B,nm,R,vc,hd,fl,wt⟩,hn,ta,er,q⟩:=h;have Y:EX X Z.a Z.E:=#[T,XC,KX,hr.mono [01],aA];have nd:=Ed ta;have is: ∀ {cl:FY}{C:Fq}{A' Ui:Fh Stmt}{p1 p2 p3 p4 p5:Pos}(j:FH),mg cl=FB (.ref C)->(zQ Z.a)[j]?=FB C->Gl X cl->(cl == [003])=Gc->(tpx t=j->Bd X A' D [FB (.ref Z.x),FB v] H)->(tpx t≠j->Bd X Ui D [FB (.ref Z.x),FB v] H)->Bd X [.If (.Call (.Name "isinstance" p1) [.Name "top" p2, .Name cl p3] [] p4) A' Ui p5] D [FB (.ref Z.x),FB v] H:=λj hm hj hg hx yes no=>cx (uM KX T.KQ nd R.same hj hm (pv 1) [05] (df yes no) (by rfl) hg hx)
 generalize Hd:BQ Z.K t d Z.S l n=res at er q;refine is 12 T.SS rfl rfl [01] (λz=>?_) λz12=>?_
 ·cases t<;>first|cases z|skip
  rename_i x e;obtain⟨u,i,ex⟩:=ta;unfold xC at wt;obtain⟨nx,ws,wr⟩:=wt;unfold BQ at Hd;dsimp only at Hd;refine bF (vq Y R [000] (λ_ q=>R.wk T q) [01] (λh=>er (-13) (by rw[<-Hd,h])) (λm H1 h R1=>?_) rfl);subst h;dsimp only at Hd;refine fm (bL (aO (ci (bD 0 (R1.wk T (aO (bD 1 (cE (.mk (k:=DOWN) (j:=4) rfl rfl rfl R1 i T.Q2 T.OW T.PB ex nx ws (by show 3*m+1<=34000;lia) [012] λy m' H' h hm hb R'=>?_)))))) rfl)) (aie T XC KX (FN 9)) [07] T.d_z.c aA) rfl;rw[h] at Hd;have lo: ∀z∈Z.S.consts.map (·.1),z∈U:=by obtain⟨_,_,A,_,_,_⟩:=R;exact A.low rfl
  have e1:((d:Int)-1)=Z.d:=by lia
  refine q (d,_,l) m' H' (x::U) Z.F0 Hd.symm (by lia) #[B,nm,?_,λz hz=>?_,?_,fl,wr]
  ·show cQ (Z.to _ Z.F0 ((d:Int)-1)) 0 B H' _ _ _ m'
   rw[e1];exact(yP R' lo).less (F6 _)
  ·rcases FF.mp hz with h|h
   ·rw[h];exact Fy
   ·exact Fx _ (vc z h)
  ·show(d:Int)-1+1=d;lia
 refine is 13 T.Wd rfl rfl [01] (λz=>?_) λz13=>?_
 ·cases t<;>first|cases z|skip
  rename_i x ps e;have ta':=ta;obtain⟨ql,u,i,_⟩:=ta;unfold xC at wt;obtain⟨f8,nx,VN,l6,ws,wr⟩:=wt;unfold BQ at Hd;have wk: ∀ {Q:VK},Q (.ref Z.c.wk) H->dE K "worker" Q (.ref Z.x) H:=λq=>R.wk (X:=X) T q
  have sm:=R.same;obtain @⟨r',b,ff,sd,sco,nn,kk,os,FO,W,A,gs,eb,hj⟩:=R
  have e1:((d:Int)-1)=Z.d:=by lia
  refine eu (g9 (dz hr) (aj [000] rfl) [010] (pv 1) rfl) (wk (W.fld T T.KS rfl (i.fld sm T.Q3 T.QB rfl #[Z.c.fa,_,Go,tR.k (k:=nk x) (W.O.get 3 rfl) (by rw[Im];have:=W.fn.1;lia),?_])));refine q (d,_,l) n _ U ((x,ps.length)::Z.F0) Hd.symm (FN n) #[B,nm,?_,vc,?_,Hh fl,wr]
  ·show cQ (Z.to _ _ ((d:Int)-1)) 0 B _ _ _ _ n
   rw[e1];refine#[yk FO nx VN l6 ws vc,#[W.O.put (L1:=[_,_,_]),#[FV (cD _ _ _) (Hh W.fn.1),λf=>?_],W.sq, .nil,W.bn],#[A.val,A.bot,A.low,A.big],gs,#[eb.sm,eb.hx,eb.hm,eb.ho,eb.hn,eb.nx,eb.po,eb.le,eb.pn,eb.ln,eb.nl,eb.q4],hj];rw[gD,gI];by_cases hf:x=f
   ·rw[Fv hf,Fv (by rw[hf])]
    exact#[v,Go,e9.Ic (λb o e m=>#[m,eb.sm b o e]) _ ta']
   ·rw[Fs hf,Fs λz=>hf (eJ (JM z)).symm]
    exact W.fn.2 f
  ·show(d:Int)-1+1=d;lia
 ·cases t<;>first|exact FP rfl z12|exact FP rfl z13|skip
  rename_i x b;obtain⟨ql,us,i,h1,h2⟩:=ta;unfold xC at wt;unfold BQ at Hd;dsimp only at Hd;refine is 14 T.UI rfl rfl [01] (λ_=>?_) λz=>FP rfl z;obtain⟨nn,hx,R1⟩:=R.desk;have R1:=R1 d;refine aR (gR (pv 0) ak oh) #[Z.x,_,Z.dx,_,_,Go,hx,T.HL,T.Kw,Go,_,_,Go,Go,Z.dx,_,hx,(by show 5<1000;decide),?_];rw[hd];refine aR (b4 (pv 0) fk rfl) λVN Yp=>?_;obtain⟨nn',hx',B',R2⟩:=R1.reset Yp;refine#[Z.x,_,Z.dx,_,Go,hx',T.HL,T.Kh,(by show 5<1000;decide),?_];refine fm (bL (aO (bD 0 (aO (ci (bD 1 (i.fld R2.same T.RZ T.MM rfl (cE (.mk (Z:=Z.to Z.S Z.F0 d) (k:=DOWN) rfl rfl rfl rfl R2 #[us,h1,h2] wt.1 (by show 3*n+2<=34000;lia) [012] λu m B2 H2 h hm R3=>?_)))) rfl)))) (AS T XC KX 6) hr T.Xj.c aA) rfl;rw[h] at Hd;refine q (d+1,Z.S,u.orders) m H2 U Z.F0 Hd.symm hm #[B2,u.names,?_,vc,?_,fl,wt.2]
  ·show cQ (Z.to _ _ (((d+1:FH):Int)-1)) 0 B2 _ _ _ _ m
   rw[show(((d+1:FH):Int)-1)=d by lia];exact R3
  ·show((d+1:FH):Int)-1+1=_;lia
end
section
variable {B N H H':Hp}
theorem Ow.Um (O:Ow B (c::L) H) (h:H p=FM):Ow B (c::(p,o)::L) (aF H p o):=
 (O.adds (N:=[(p,o)]) (bC h) (λx hx=>by rw[FW.mp hx];exact#[h,ae]) (Gu.mpr #[nofun, .nil])).perm (.swap _ _ _)
theorem Ow.toB (O:Ow B (c::L) H):Ow (aF B c.1 c.2) L H:=by
 have h0:=O.at_ c Fy;obtain⟨n1,n2⟩:=Gu.mp O.nd;refine#[λb u e=>?_,λx hx=>#[(O.at_ x (Fx _ hx)).1,?_],n2]
 ·by_cases hb:b=c.1
  ·rw[hb,ae] at e;rw[hb,<-e];exact h0.1
  ·rw[ac hb] at e;exact O.same b u e
 ·rw[ac λz=>n1 (by show c.1∈_;rw[<-z];exact La (f:=λx:kW=>x.1) hx)]
  exact(O.at_ x (Fx _ hx)).2
end
abbrev wk0 (a:bi) (c:qh) (sd:Fq):Fh kW:=wkL a c 10000 (.int 0) [] [(sd,[])] []
inductive YW (a:bi) (vs:Fh V) (H:Hp) (Q:VK) (_E:XK):Prop
 |mk {N:Hp}{L:Fh kW}{p dx:Fq}(_:vs=[.ref p]) (_:Ow N ((p, .ins a.HN dx [])::L) H) (_: ∀fa sd sl tl H',Ow N (wk0 a ⟨p,dx,fa,sl,tl,0⟩ sd++L) H'->Q .IX H'):YW a vs H Q _E
theorem oH (T:aU K mg a):T.ZV.U P w mg base 1 (YW a):=by
 refine T.ZV.F.ok agE [03] [02];obtain @⟨N,L,p,dx,rfl,O,q⟩:=h;refine aR (b4 (pv 0) ak rfl) #[p,_,dx,_,Go,O.get 0 rfl,T.Iq,T.Mj,(by show 0<1000;decide),?_];have O:=O.put (L1:=[]) (o':= .ins a.HN dx (Il "taken" (.int 0) []));refine aR (b4 (pv 0) fk rfl) λfa hfa=>#[p,_,dx,_,Go,(O.Um (c:=(_,_)) hfa).get 0 rfl,T.Iq,T.KS,(by show 1<1000;decide),?_];have O:=(O.Um (c:=(_,_)) (o:= .dK []) hfa).put (L1:=[]) (o':= .ins a.HN dx (Il "functions" (.ref fa) (Il "taken" (.int 0) [])));refine aR (b4 (pv 0) (hZ (aa fk ag)) rfl) λsd hsd=>#[by show 1<=Gk;decide,λsl hsl=>?_];have O:=(O.Um (c:=(_,_)) (o:= .dK []) hsd).Um (c:=(_,_)) (o:= .lst [.ref sd]) hsl;refine#[p,_,dx,_,Go,O.get 0 rfl,T.Iq,T.JY,(by show 2<1000;decide),?_];have O:=O.put (L1:=[]) (o':= .ins a.HN dx (Il "scopes" (.ref sl) (Il "functions" (.ref fa) (Il "taken" (.int 0) []))));refine aR (b4 (pv 0) (hZ ag) rfl) #[F6 _,λtl htl=>?_];have O:=O.Um (c:=(_,_)) (o:= .lst []) htl;refine#[p,_,dx,_,Go,O.get 0 rfl,T.Iq,T.Jc,(by show 3<1000;decide),?_];have O:=O.put (L1:=[]) (o':= .ins a.HN dx (Il "tasks" (.ref tl) (Il "scopes" (.ref sl) (Il "functions" (.ref fa) (Il "taken" (.int 0) [])))));refine eu (b4 (pv 0) ak rfl) #[p,_,dx,_,Go,O.get 0 rfl,T.Iq,T.LZ,(by show 4<1000;decide),q fa sd sl tl _ ?_];have O:=O.put (L1:=[]) (o':= .ins a.HN dx (Il "result" (.int 0) (Il "tasks" (.ref tl) (Il "scopes" (.ref sl) (Il "functions" (.ref fa) (Il "taken" (.int 0) []))))));exact O.perm (.cons _ (.cons _ (.cons _ (.swap _ _ _))))
inductive YX (a:bi) (vs:Fh V) (H:Hp) (Q:VK) (_E:XK):Prop
 |mk {N:Hp}{L:Fh kW}{p dx m:Fq}(_:vs=[.ref p, .ref m]) (_:Ow N ((p, .ins a.GG dx [])::L) H) (_: ∀c sd ol nd H',Ow N ((p, .ins a.GG dx (xF m c.wk ol (-1) nd))::(nd, .dK [])::(ol, .lst [])::(wk0 a c sd++L)) H'->Q .IX H'):YX a vs H Q _E
theorem kL (T:aU K mg a):T.Z0.U P w mg base 3 (YX a):=by
 refine T.Z0.F.ok agR [03] [02];obtain @⟨N,L,p,dx,m,rfl,O,q⟩:=h;refine aR (b4 (pv 0) (pv 1) rfl) #[p,_,dx,_,Go,O.get 0 rfl,T.HL,T.Mx,(by show 0<1000;decide),?_];have O:=O.put (L1:=[]) (o':= .ins a.GG dx (Il "market" (.ref m) []));refine aR (b4 (pv 0) (Ba T.Vk (oH T) hr (by rfl) T.Vf T.ZV.c.b .nil aT) rfl) λx dw hx hdw ne=>?_;have O:=O.adds (N:=[(x, .ins a.HN dw [])]) (H':=aF (aF (aF H p (.ins a.GG dx (Il "market" (.ref m) []))) dw (.own x)) x (.ins a.HN dw [])) (λb o e=>by rw[ac (ai e hx),ac (ai e hdw)];exact e) (λy hy=>by rw[FW.mp hy];exact#[hx,ae]) (Gu.mpr #[nofun, .nil]);refine .mk rfl O λfa sd sl tl H2 O=>#[Go,?_];have O:=O.perm (WG (l₁:=wk0 a #[x,dw,fa,sl,tl,0] sd));refine#[p,_,dx,_,Go,O.get 0 rfl,T.HL,T.My,(by show 1<1000;decide),?_];have O:=O.put (L1:=[]) (o':= .ins a.GG dx (Il "worker" (.ref x) (Il "market" (.ref m) [])));refine aR (b4 (pv 0) (hZ ag) rfl) #[F6 _,λol hol=>?_];have O:=O.Um (c:=(_,_)) (o:= .lst []) hol;refine#[p,_,dx,_,Go,O.get 0 rfl,T.HL,T.JX,(by show 2<1000;decide),?_];have O:=O.put (L1:=[]) (o':= .ins a.GG dx (Il "orders" (.ref ol) (Il "worker" (.ref x) (Il "market" (.ref m) []))));refine aR (b4 (pv 0) (dO cK ak) rfl) #[_,Go,p,_,dx,_,Go,O.get 0 rfl,T.HL,T.Kw,(by show 3<1000;decide),?_];have O:=O.put (L1:=[]) (o':= .ins a.GG dx (Il "desk" (.int (-1)) (Il "orders" (.ref ol) (Il "worker" (.ref x) (Il "market" (.ref m) [])))));refine eu (b4 (pv 0) fk rfl) λnd DI=>?_;have O:=O.Um (c:=(_,_)) (o:= .dK []) DI;refine#[p,_,dx,_,Go,O.get 0 rfl,T.HL,T.Kh,(by show 4<1000;decide),q #[x,dw,fa,sl,tl,0] sd ol nd _ ?_];exact O.put (L1:=[]) (o':= .ins a.GG dx (Il "named" (.ref nd) (Il "desk" (.int (-1)) (Il "orders" (.ref ol) (Il "worker" (.ref x) (Il "market" (.ref m) []))))))
theorem abA:gA #[[],[]] LJ:=#[λf p h=> .inr #[Go,h],λx=>by unfold Ri;exact#[by show-KG<=0;decide,by show 0<=KG;decide]]
theorem ED:Ag #[[],[]] [] [] [λ_=>FM]:=#[nofun,nofun,(λ_ x h=>by cases h),λx=>by unfold Ri;exact#[by show-KG<=0;decide,by show 0<=KG;decide]]
def dk1:Hv->FH
 | .desk .. =>1
 |_=>0
theorem ER:Hz (t::r)=dk1 t+Hz r:=by
 unfold Hz;cases t with
 |desk x b=>show _+1=_;rw[K4];rfl
 |const x e=>exact(K5 _).symm
 |func x p e=>exact(K5 _).symm
theorem ail (h:BQ M t d S l n= .ok (x,m)):x.1=d+dk1 t:=by
 unfold BQ at h;cases t with
 |func y p e=>cases h;rfl
 |const y e=>
  dsimp only at h;split at h
  ·cases h
  ·split at h
   ·cases h
   ·cases h;rfl
 |desk y b=>
  dsimp only at h;split at h
  ·cases h
  ·cases h;rfl
inductive BT (a:bi) (vs:Fh V) (H:Hp) (Q:VK) (E:XK):Prop
 |mk {m dm l:Fq}{us:Fh V}{ss:Jz}{G:Ks}(_:vs=[.ref m, .ref l]) (_:H m=FB (.ins a.Kj dm (mF G))) (_:G.quarters<=4) (_:H l=FB (.lst us)) (_:Paired (λs v=>e9 a (λp=>H p=FM) H s v) ss us) (_:xC [] LJ ss) (_: ∀c,Lm G ss= .error c-> ∀H',aS H H'->pj a E H' c) (_: ∀Z H' U o n,Lm G ss= .ok (o,n)->Z.a=a->Z.N=H->TS Z H' U o n (Hz ss) []->Q (.ref Z.x) H'):BT a vs H Q E
theorem amg (T:aU K mg a) (XC:XW K a) (KX:ms K a):T.d_U.O P w base 33 (BT a):=by
 refine okL T.d_U.F aa6 [03] [02];intro X D;obtain @⟨m,dm,l,us,ss,G,rfl,hm,q4,hl,tl,wt,er,q⟩:=h;refine aR (cr (i:=2) aa6.nd rfl (.inl rfl) (g7 T.R9 (kL T) [07] (by rfl) T.RV T.Z0.c.b .nil aT (aa (pv 0) ag))) λx dx hx Vo ne=>?_;have O:Ow H [(x, .ins a.GG dx [])] (aF (aF H dx (.own x)) x (.ins a.GG dx [])):=#[λb o e=>by rw[ac (ai e hx),ac (ai e Vo)];exact e,λy hy=>by rw[FW.mp hy];exact#[ae,hx],Gu.mpr #[nofun, .nil]];refine .mk rfl O λc sd ol nd H1 O=>#[Go,?_];have nn: ∀ {c:kW},c∈_->H c.1=FM:=λh=>(O.at_ _ h).2
 have n1:=(O.at_ _ (Fy)).2
 have n2:=(O.at_ _ (Fx _ Fy)).2
 have n3:=(O.at_ _ (Fx _ (Fx _ Fy))).2
 have VN:=O.nd
 have O1:=O.toB.toB.toB;rw[GV] at O1
 let Z:Zx:=#[a,E,x,dx,m,dm,ol,c,H,G,#[[],[]],LJ,-1]
 have T0:TS Z H1 [] [] 10000 0 ss:=by
  obtain⟨m1,nd2⟩:=Gu.mp VN;obtain⟨m2,_⟩:=Gu.mp nd2;have x1:x≠nd:=λz=>m1 (by show x∈_;rw[z];exact .head _);have x2:x≠ol:=λz=>m1 (by show x∈_;rw[z];exact .tail _ (.head _));have x3:nd≠ol:=λz=>m2 (by show nd∈_;rw[z];exact .head _);have sm:aS H (aF (aF (aF H x (.ins a.GG dx (xF m c.wk ol (-1) nd))) nd (.dK [])) ol (.lst [])):=λb o e=>by rw[ac (ai e n3),ac (ai e n2),ac (ai e n1)];exact e
  have eb:EB Z (aF (aF (aF H x (.ins a.GG dx (xF m c.wk ol (-1) nd))) nd (.dK [])) ol (.lst [])) ⟨[],[]⟩ nd [] []:=#[sm,by show aF _ _ _ x=_;rw[ac x2,ac x1,ae],sm _ _ hm,ae,by rw[ac x3,ae],#[n1,n3,n2], .nil,F6 _,λ_=>rfl,FN _,FN _,q4]
  refine#[_,[],#[abA,#[O1,#[F6 _,λf=>rfl], .cons #[λ_=>rfl,F6 6] .nil, .nil,#[by decide,nofun,by show 1+10000<=10002;decide,by decide,by show 6+5*10000<=60000-0;decide,by show 60000-0<=60000;decide]],ED,λs hs y z hz=>?_,eb,F6 _],nofun,Go,F6 _,wt];rw[FW.mp hs] at hz;cases hz
 generalize Hd:Lm G ss=res at er q;refine ki (L:=l) (xs:=us) 3 Jo aa6.nd (pv 1) [05] (λj σ H'=> ∃y S F d U o n e,σ=[FB (.ref m),FB (.ref l),FB (.ref x),y]/\TS (Z.to S F d) H' U o n e (ss.drop j)/\n<=10000/\e+Hz (ss.drop j)=Hz ss/\Ni G (ss.drop j) e S o n=res) #[_,_,_,_,_,_,_,_,Go,T0,FN _,K5 _,Hd] ?_ ?_ ?_
 ·rintro j σ H2 _ ⟨y,S,F,d,U,o,n,e,rfl,⟨B,nm,R,_⟩,_⟩
  exact R.same _ _ hl
 ·rintro j v σ H2 hv ⟨y,S,F,d,U,o,n,e,rfl,TS1,hn,he,ht⟩
  obtain⟨t,ht',at_⟩:=jk tl hv;have dr:ss.drop j=t::ss.drop (j+1):=(Gq.mp ht').elim λh z=>by rw[<-z];exact Hy h
  rw[dr] at TS1 he ht;rw[ym] at ht;rw[ER] at he;refine fm (bL (aO (bD 2 (aO (bD 3 (cE (.mk (Z:=Z.to S F d) rfl rfl rfl TS1 hn at_ (λc h=>er c ?_) λx' m' H3 U' F' h Qi TS2=>?_)))))) (aik T XC KX) [07] T.Z1.c aA) rfl
  ·rw[<-ht]
   show(match BQ G t e S o n with| .error c=>_| .ok (x,m)=>_)=_
   rw[h]
  ·rw[h] at ht
   have:=ail h;exact#[_,_,_,_,_,_,_,_,Go,TS2,by lia,by lia,ht]
 ·rintro σ H2 ⟨y,S,F,d,U,o,n,e,rfl,TS1,hn,he,ht⟩
  have dr:ss.drop us.length=[]:=by rw[<-aV tl,QQ]
  rw[dr] at TS1 he ht;have:e=Hz ss:=he;subst this;exact aM (bD 2 (q (Z.to S F d) H2 U o n ht.symm rfl rfl TS1))
end OS
namespace OS
open Vbemac
def W {α:Type}(p:P α) (t:M0) (Qo:α->M0->Prop) (Qe:FH->Pos->Prop):Prop:=match p t with
 | .ok (a,r)=>Qo a r
 | .error e=>Qe e.1 e.2
section
variable {α β:Type}{p:P α}{f:α->P β}{Qo Qo':α->M0->Prop}{Qe Qe':FH->Pos->Prop}{Ro:β->M0->Prop}
theorem zX {a:α}(e:p t= .ok (a,r)):W p t Qo Qe=Qo a r:=by unfold W;rw[e]
theorem i9 (h:p t= .error e):W p t Qo Qe=Qe e.1 e.2:=by unfold W;rw[h]
theorem jL:W (p>>=f) t Ro Qe=W p t (λa r=>W (f a) r Ro Qe) Qe:=by
 have e:(p>>=f) t=(match p t with
  | .error x=> .error x
  | .ok (a,r)=>f a r):=by
  show(F3 p f) t=_
  unfold F3;show(Except.bind (p t) _)=_;cases p t with
  |error x=>rfl
  |ok z=>rfl
 unfold W;rw[e];cases h:p t with
 |error x=>rfl
 |ok z=>rfl
theorem DB {a:α} :W (pure a:P α) t Qo Qe=Qo a t:=rfl
theorem abB:W (fail n:P α) t Qo Qe=Qe (if peek t= .bad then 1 else n) (place t):=rfl
theorem W.mono (h:W p t Qo Qe) (ho: ∀a r,Qo a r->Qo' a r) (he: ∀n q,Qe n q->Qe' n q):W p t Qo' Qe':=by
 unfold W at h ⊢;cases e:p t with
 |error x=>rw[e] at h;exact he _ _ h
 |ok z=>rw[e] at h;exact ho _ _ h
end
def aL {α:Type}(p:P α):Prop:= ∀t,peek t= .bad->p t= .error (1,place t)
def hJ {α:Type}(p:P α):Prop:= ∀t,peek t= .bad->p t= .error (1,place t)\/ ∃a,p t= .ok (a,t)
theorem aL.PQ {α:Type}{p:P α}(h:aL p):hJ p:=λt e=> .inl (h t e)
section
variable {α β:Type}{p:P α}{f:α->P β}{Qo:α->M0->Prop}{Qe:FH->Pos->Prop}{Ro:β->M0->Prop}
theorem aL.bind (h:aL p):aL (p>>=f):=λt e=>by
 show(F3 p f) t=_
 unfold F3;rw[h t e]
 rfl
theorem hJ.bind (h:hJ p) (k: ∀a,hJ (f a)):hJ (p>>=f):=λt e=>by
 show(F3 p f) t=_\/ ∃a,(F3 p f) t=_
 unfold F3;rcases h t e with z|⟨a,z⟩
 ·rw[z];exact .inl rfl
 ·rw[z];exact k a t e
theorem hJ.strict (h:hJ p) (k: ∀a,aL (f a)):aL (p>>=f):=λt e=>by
 show(F3 p f) t=_
 unfold F3;rcases h t e with z|⟨a,z⟩
 ·rw[z];rfl
 ·rw[z];exact k a t e
theorem aL.L4 (h:aL p) (e:peek t= .bad) (w:W p t Qo Qe):Qe 1 (place t):=by
 rw[i9 (h t e)] at w;exact w
end
theorem cq {t:M0}(e:peek t= .bad) (w:String):HX t w=Gc:=by unfold HX;rw[e];rfl
theorem cY {t:M0}(e:peek t= .bad) (w:String):Mi t w=Gc:=by unfold Mi;rw[e];rfl
theorem aG {α:Type}(n:FH):aL (fail n:P α):=λt e=>by unfold fail;rw[Fv e]
theorem eS (w:String):aL (key w):=λt e=>by unfold key;rw[cq e];exact aG 2 t e
theorem bo (w:String):aL (sign w):=λt e=>by unfold sign;rw[cY e];exact aG 2 t e
theorem eM:aL anyName:=λt e=>by unfold anyName;rw[e];exact aG 2 t e
theorem fZ (K:Known):aL (newName K):=λt e=>by unfold newName;rw[eM t e]
theorem kY (B:Blocks):aL (blockName B):=λt e=>by unfold blockName;rw[eM t e]
theorem j8 (B:Blocks):aL (knownBlock B):=λt e=>by unfold knownBlock;rw[eM t e]
theorem lT:aL side:=λt e=>by unfold side;rw[cq e,cq e];exact aG 2 t e
theorem gT (B:Blocks):aL (maybeName B):=λt e=>by
 unfold maybeName;rw[cq e,cq e,Fs (by simp),kY B t e]
theorem fL {α:Type}(a:α):hJ (pure a:P α):=λt _=> .inr #[a,Go]
theorem lP (w:String):hJ (ifSign w):=λt e=>by unfold ifSign;rw[cY e];exact .inr #[_,Go]
theorem su (l:Fh String):hJ (LV l):=λt e=>by unfold LV;rw[e];exact .inr #[_,Go]
theorem gm {α:Type}(w:String) (p:P α):hJ (behind w p):=λt e=>by unfold behind;rw[cq e];exact .inr #[_,Go]
theorem iN (k d:FH) (K:Known):aL (primary k d K):=λt e=>by
 cases k with
 |zero=>rw[primary];exact aG 6 t e
 |succ k=>rw[primary];simp only[e];exact aG 2 t e
theorem kQ (k d:FH) (K:Known):aL (unary k d K):=λt e=>by
 cases k with
 |zero=>rw[unary];exact aG 6 t e
 |succ k=>rw[unary];simp only[cY e,Ji,MX];exact iN k d K t e
theorem ra (k d:FH) (K:Known):aL (times k d K):=by
 cases k with
 |zero=>rw[times];exact aG 6
 |succ k=>rw[times];exact(kQ k d K).bind
theorem jR (k d:FH) (K:Known):aL (added k d K):=by
 cases k with
 |zero=>rw[added];exact aG 6
 |succ k=>rw[added];exact(ra k d K).bind
theorem l8 (k d:FH) (K:Known):aL (compared k d K):=by
 cases k with
 |zero=>rw[compared];exact aG 6
 |succ k=>rw[compared];exact(jR k d K).bind
theorem sh (k d:FH) (K:Known):aL (ands k d K):=by
 cases k with
 |zero=>rw[ands];exact aG 6
 |succ k=>rw[ands];exact(l8 k d K).bind
theorem lS (k d:FH) (K:Known):aL (expr k d K):=λt e=>by
 cases k with
 |zero=>rw[expr];exact aG 6 t e
 |succ k=>rw[expr];simp only[cq e,Ji,MX];exact(sh k d K).bind t e
theorem lD (k d:FH) (K:Known) (n:FH):aL (arguments k d K n):=λt e=>by
 cases k with
 |zero=>rw[arguments];exact aG 6 t e
 |succ k=>rw[arguments];simp only[cY e,Ji,MX];exact(lS k d K).bind t e
theorem oj (k d:FH) (K:Known):hJ (moreTimes k d K):=by
 cases k with
 |zero=>rw[moreTimes];exact(aG 6).PQ
 |succ k=>
  rw[moreTimes];intro t e;refine .inr #[.nil,?_];show(F3 _ _) t=_;unfold F3 LV;rw[e]
  rfl
theorem nj (k d:FH) (K:Known):hJ (moreAdded k d K):=by
 cases k with
 |zero=>rw[moreAdded];exact(aG 6).PQ
 |succ k=>
  rw[moreAdded];intro t e;refine .inr #[.nil,?_];show(F3 _ _) t=_;unfold F3 LV;rw[e]
  rfl
theorem rN (k d:FH) (K:Known):hJ (moreAnd k d K):=by
 cases k with
 |zero=>rw[moreAnd];exact(aG 6).PQ
 |succ k=>
  rw[moreAnd];intro t e;refine .inr #[.nil,?_];show(F3 _ _) t=_;unfold F3 ifSign;rw[cY e]
  rfl
theorem t9 (k d:FH) (K:Known):hJ (moreOr k d K):=by
 cases k with
 |zero=>rw[moreOr];exact(aG 6).PQ
 |succ k=>
  rw[moreOr];intro t e;refine .inr #[.nil,?_];show(F3 _ _) t=_;unfold F3 ifSign;rw[cY e]
  rfl
theorem lX (k d:FH) (K:Known) (B:Blocks):aL (stmt k d K B):=λt e=>by
 cases k with
 |zero=>rw[stmt];exact aG 6 t e
 |succ k=>rw[stmt];simp only[cq e,Ji,MX];exact lT.bind t e
theorem jU (k d:FH) (K:Known) (B:Blocks):aL (stmts k d K B):=λt e=>by
 cases k with
 |zero=>rw[stmts];exact aG 6 t e
 |succ k=>rw[stmts];simp only[cY e,Ji,MX];exact(lX k d K B).bind t e
theorem jp (k n:FH) (K:Known):aL (params k n K):=λt e=>by
 cases k with
 |zero=>rw[params];exact aG 6 t e
 |succ k=>
  rw[params];dsimp only;by_cases h:n=0
  ·rw[Fv h];exact aG 7 t e
  ·rw[Fs h];exact(fZ K).bind t e
theorem tP (k:FH) (K:Known) (n:FH) (D:Fh Gv):aL (tops k K n D):=λt e=>by
 cases k with
 |zero=>rw[tops];exact aG 6 t e
 |succ k=>rw[tops];simp only[e,reduceCtorEq,MX,cq e,Ji];exact aG 2 t e
end OS
namespace OS
open PySem PySem.Spec L2
open PyProof.Rows hiding St
variable {P:Gh}{w:GR}{K:Fm}{mg:FY->FA Fp}{base:Ha}{a:bi}
structure YY where
 p:Fq
 c:Fh (be×V)
 x:Fq->Fh V->Prop
instance:Coe YY Fq:=#[YY.p]
structure Rb where
 r:Fq
 q:Fq
 kd:Fq
 fn:Fq
 ds:YY
 bl:YY
def eU (B:Rb) (b:Fq):Prop:=b=B.r\/b=B.kd\/b=B.fn\/b=B.ds.p\/b=B.bl.p\/ ∃xs,B.bl.x b xs
inductive YZ (H:Hp) (kd:Fq) (Kn:Ft):Prop
 |mk (kk:Fh (be×V)) (_:H kd=FB (.dK kk)) (_:kk.length<=Kn.values.length) (_: ∀u,has kk u=Kn.values.contains u):YZ H kd Kn
inductive Y0 (H:Hp) (fn:Fq) (Kn:Ft):Prop
 |mk (ff:Fh (be×V)) (_:H fn=FB (.dK ff)) (_: ∀u,bO ff (nk u)=(Kn.funs.find? λf=>f.1 == u).map λf=>V.int (f.2:FH)):Y0 H fn Kn
inductive Dif (k f d b:Fq):Prop
 |mk (_:k≠f) (_:k≠d) (_:k≠b) (_:f≠d) (_:f≠b) (_:d≠b):Dif k f d b
structure abC (H:Hp) (kd fn:Fq) (Kn:Ft) (room:FH):Prop where
 vals:YZ H kd Kn
 funs:Y0 H fn Kn
 len:Kn.values.length+room<=4000
 amh: ∃ff,H fn=FB (.dK ff)/\ff.length=Kn.funs.length
theorem abC.fl {H:Hp}(h:abC H kd fn Kn room) (e:H fn=FB (.dK ff)):ff.length=Kn.funs.length:=by
 obtain⟨gg,g1,g2⟩:=h.amh;rw[e] at g1;cases g1;exact g2
structure fo (a:bi) (B:Rb) (H:Hp) (n:FH) (t:Fn) (Kn:Ft):Prop where
 rd:mQ a H B.r B.q B.kd B.fn B.ds.p B.bl.p n t
 wh:fP t
 kn:abC H B.kd B.fn Kn t.length
 Tf:H B.ds.p=FB (.dK B.ds.c)
 SH:H B.bl.p=FB (.dK B.bl.c)
 Qh:Dif B.kd B.fn B.ds.p B.bl.p
 fr: ∀b xs,B.bl.x b xs->H b=FB (.lst xs)
theorem rC (kk:Fh (be×V)) (u v:Fi) (y:V):has (dB kk (nk u) y) v=(decide (v=u)||has kk v):=by
 unfold has;rw[gI];by_cases e:v=u
 ·rw[Fv (by rw[e]),GQ e];rfl
 ·rw[Fs (λz=>e (eJ (JM z))),Gg e];rfl
theorem wo (kk:Fh (be×V)) (k j:be):bO (fE kk k) j=if j=k then FM else bO kk j:=by
 induction kk with
 |nil=>unfold fE bO;split<;>rfl
 |cons p r ih=>
  unfold fE at ih ⊢;rw[IP];by_cases e:p.1=k
  ·rw[Fs (by simp [e]),ih]
   by_cases j1:j=k
   ·rw[Fv j1,Fv j1]
   ·rw[Fs j1,Fs j1,b8 λz=>j1 (z.symm.trans e)]
  ·rw[Fv (by simp [e])]
   by_cases j1:p.1=j
   ·rw[cg j1,cg j1,Fs λz=>e (j1.trans z)]
   ·rw[b8 j1,b8 j1,ih]
theorem ug (kk:Fh (be×V)) (u v:Fi):has (fE kk (nk u)) v=(!decide (v=u)&&has kk v):=by
 unfold has;rw[wo];by_cases e:v=u
 ·rw[Fv (by rw[e]),GQ e];rfl
 ·rw[Fs (λz=>e (eJ (JM z))),Gg e];rfl
theorem nB:me v k=decide (va k=FB v):=by
 unfold me;cases k with
 |word u=>exact decide_eq_decide.mpr #[λz=>Gx FB (V.str.inj z),λz=>Gx V.str (FL z)]
 |num n=>exact decide_eq_decide.mpr #[(λz=>nomatch z),(λz=>nomatch z)]
 |sign u=>exact decide_eq_decide.mpr #[λz=>Gx FB (V.str.inj z),λz=>Gx V.str (FL z)]
 |eof=>exact decide_eq_decide.mpr #[λz=>Gx FB (V.str.inj z),λz=>Gx V.str (FL z)]
 |bad=>exact decide_eq_decide.mpr #[λz=>Gx FB (V.str.inj z),λz=>Gx V.str (FL z)]
theorem b7 (ok:ga k) (h:cX x u):me x k=(k == .word u):=by
 rw[nB,Hq,Gp,beq_iff_eq];exact BI ok h
theorem cP (ok:ga k) (h:d7 x u):me x k=(k == .sign u):=by
 rw[nB,Hq,Gp,beq_iff_eq];exact ud ok h
inductive Y1 (t:Fn):Prop
 |mk (x:GO×GD) (r:Fn) (_:t=x::r) (_:ga x.1) (_:FK t=x.1) (_:IA t=x.2) (_: ¬jP x->fP r):Y1 t
theorem fP.first (w:fP t):Y1 t:=by
 cases t with
 |nil=>exact FP rfl w.ne
 |cons x r=>
  refine#[x,r,Go,?_,Go,Go,λh=>(w.tail h).2];by_cases h:jP x
  ·rcases h with h|h
   ·rw[h];exact Hs
   ·rw[h];exact Hs
  ·exact(w.tail h).1.2.2
section
variable {H H' H2:Hp}{M:Fq->Prop}
theorem aS.keeps (s:aS H H'):dg M H H':=λb o e _=>s b o e
theorem dg.trans (k:dg M H H') (l:dg M H' H2):dg M H H2:=λb o e m=>l b o (k b o e m) m
theorem dg.refl:dg M H H:=λ_ _ e _=>e
theorem mQ.same (R:mQ a H r q kd fn ds bl n t) (s:aS H H'):mQ a H' r q kd fn ds bl n t:=by
 obtain⟨dr,e⟩:=R.ins;obtain⟨as,all,h1,h2,h3⟩:=R.toks;exact#[#[dr,s _ _ e],as,all,s _ _ h1,Paired.Nq h2 λb z k=>k.keep λb' o e _=>s b' o e,h3]
theorem fo.same (S:fo a B H n t Kn) (s:aS H H'):fo a B H' n t Kn:=by
 obtain⟨kk,k1,k2,k3⟩:=S.kn.vals;obtain⟨ff,f1,f2⟩:=S.kn.funs;exact#[S.rd.same s,S.wh,#[#[kk,s _ _ k1,k2,k3],#[ff,s _ _ f1,f2],S.kn.len,#[ff,s _ _ f1,S.kn.fl f1]],s _ _ S.Tf,s _ _ S.SH,S.Qh,λb xs h=>s _ _ (S.fr b xs h)]
theorem vX (h:past a H B.r B.q B.kd B.fn B.ds.p B.bl.p n H'):dg (eU B) H H':=λb o e m=>by
 obtain⟨dr,e1,rfl⟩:=h;rw[ac λz=>m (.inl z)];exact e
theorem fo.past (S:fo a B H n (x::t) Kn) (hx: ¬jP x) (h:OS.past a H B.r B.q B.kd B.fn B.ds.p B.bl.p n H'):fo a B H' (n+1) t Kn:=by
 have R:=S.rd.step h;obtain⟨dr,e1,rfl⟩:=h;obtain⟨kk,k1,k2,k3⟩:=S.kn.vals;obtain⟨ff,f1,f2⟩:=S.kn.funs
 have hy:=S.Tf
 have hz:=S.SH
 have nk:B.kd≠B.r:=λw=>by rw[w,e1] at k1;cases k1
 have nf:B.fn≠B.r:=λw=>by rw[w,e1] at f1;cases f1
 have nd:B.ds.p≠B.r:=λw=>by rw[w,e1] at hy;cases hy
 have nb:B.bl.p≠B.r:=λw=>by rw[w,e1] at hz;cases hz
 refine#[R,(S.wh.tail hx).2,#[#[kk,by rw[ac nk];exact k1,k2,k3],#[ff,by rw[ac nf];exact f1,f2],?_,#[ff,by rw[ac nf];exact f1,S.kn.fl f1]],(by rw[ac nd];exact hy),(by rw[ac nb];exact hz),S.Qh,λb xs h=>by
  have e2:=S.fr b xs h;rw[ac λw=>by rw[w,e1] at e2;cases e2]
  exact e2]
 have:=S.kn.len;rw[FG] at this;lia
theorem fo.aim (S:fo a B H n t Kn) (free:Kn.values.contains u=Gc) (room:Kn.values.length+1+t.length<=4000) (e:H B.kd=FB (.dK kk)):
  fo a B (aF H B.kd (.dK (dB kk (nk u) (.bl FS)))) n t (Kn.with u):=by
 rw[02];obtain⟨as,all,h1,h2,h3⟩:=S.rd.toks;obtain⟨kk',k1,k2,k3⟩:=S.kn.vals;obtain⟨ff,f1,f2⟩:=S.kn.funs;have hy:=S.Tf;have hz:=S.SH;obtain rfl:kk'=kk:=by rw[e] at k1;cases k1;rfl
 obtain⟨d1,d2,d3,d4,d5,d6⟩:=S.Qh;have nr:B.r≠B.kd:=λw=>by rw[w,e] at er;cases er
 have nq:B.q≠B.kd:=λw=>by rw[w,e] at h1;cases h1
 refine#[#[#[dr,by rw[ac nr];exact er],as,all,by rw[ac nq];exact h1,Paired.Nq h2 λb x ⟨dx,ex⟩=>#[dx,?_],h3],S.wh,#[#[_,ae,?_,λv=>?_],#[ff,by rw[ac d1.symm];exact f1,f2],by show Kn.values.length+1+t.length<=4000;exact room,#[ff,by rw[ac d1.symm];exact f1,S.kn.fl f1]],(by rw[ac d2.symm];exact hy),(by rw[ac d3.symm];exact hz),S.Qh,λb xs h=>by
  have e2:=S.fr b xs h;rw[ac λw=>by rw[w,e] at e2;cases e2]
  exact e2]
 ·rw[ac λw=>by rw[w,e] at ex;cases ex]
  exact ex
 ·have:=cD kk' (nk u) (.bl FS)
  show _<=Kn.values.length+1
  lia
 ·rw[rC,k3]
  show _=(u::Kn.values).contains v
  rw[GJ]
  congr 1
  rw[Hq,Gp,beq_iff_eq]
theorem fo.forget (S:fo a B H n t (Kn.with u)) (free:Kn.values.contains u=Gc) (e:H B.kd=FB (.dK kk)):
  has kk u=FS/\fo a B (aF H B.kd (.dK (fE kk (nk u)))) n t Kn:=by
 rw[02];obtain⟨as,all,h1,h2,h3⟩:=S.rd.toks;obtain⟨kk',k1,k2,k3⟩:=S.kn.vals;obtain⟨ff,f1,f2⟩:=S.kn.funs;have hy:=S.Tf;have hz:=S.SH;obtain rfl:kk'=kk:=by rw[e] at k1;cases k1;rfl
 obtain⟨d1,d2,d3,d4,d5,d6⟩:=S.Qh;have nr:B.r≠B.kd:=λw=>by rw[w,e] at er;cases er
 have nq:B.q≠B.kd:=λw=>by rw[w,e] at h1;cases h1
 have hu:has kk' u=FS:=by
  rw[k3];show(u::Kn.values).contains u=FS;rw[GJ,Hf]
  rfl
 have len:Kn.values.length+1+t.length<=4000:=S.kn.len
 have k2:kk'.length<=Kn.values.length+1:=k2;refine#[hu,#[#[dr,by rw[ac nr];exact er],as,all,by rw[ac nq];exact h1,Paired.Nq h2 λb x ⟨dx,ex⟩=>#[dx,?_],h3],S.wh,#[#[_,ae,?_,λv=>?_],#[ff,by rw[ac d1.symm];exact f1,f2],by lia,#[ff,by rw[ac d1.symm];exact f1,S.kn.fl f1]],(by rw[ac d2.symm];exact hy),(by rw[ac d3.symm];exact hz),S.Qh,λb xs h=>by
  have e2:=S.fr b xs h;rw[ac λw=>by rw[w,e] at e2;cases e2]
  exact e2]
 ·rw[ac λw=>by rw[w,e] at ex;cases ex]
  exact ex
 ·have:(fE kk' (nk u)).length<kk'.length:=by
   unfold fE;refine VQ (Iv _ _) λw=>?_;rw[Qj] at w;unfold has bO at hu;rw[Ip,Nv] at hu;obtain⟨p,hp,e1⟩:=hu;have:=w p hp;simp only[N8] at this e1;exact this e1
  lia
 ·rw[ug,k3]
  show(!decide (v=u)&&(u::Kn.values).contains v)=_
  rw[GJ];by_cases w:v=u
  ·rw[w,GQ rfl,free];rfl
  ·rw[Gg w,show(v == u)=Gc from beq_eq_false_iff_ne.mpr w];rfl
theorem fo.fresh (S:fo a B H n t Kn) (h:H b=FM): ¬eU B b:=by
 obtain⟨dr,e1⟩:=S.rd.ins;obtain⟨kk,k1,_⟩:=S.kn.vals;obtain⟨ff,f1,_⟩:=S.kn.funs;have hy:=S.Tf;have hz:=S.SH;rintro(rfl|rfl|rfl|rfl|rfl|⟨xs,hx⟩)
 ·rw[e1] at h;cases h
 ·rw[k1] at h;cases h
 ·rw[f1] at h;cases h
 ·rw[hy] at h;cases h
 ·rw[hz] at h;cases h
 ·rw[S.fr _ _ hx] at h;cases h
end
section
variable {H H' H0:Hp}{B:Rb}{n:FH}{t:Fn}{Kn:Ft}{M M':Fq->Prop}
def Rb.more (B:Rb) (l:Fq) (xs:Fh V):Rb:= { B with bl:=#[B.bl.p,B.bl.c,λb ys=>B.bl.x b ys\/(b=l/\ys=xs)] }
theorem fo.more (S:fo a B H n t Kn) (h:H l=FB (.lst xs)):fo a (B.more l xs) H n t Kn:=
 #[S.rd,S.wh,S.kn,S.Tf,S.SH,S.Qh,λb ys z=>z.elim (S.fr b ys) λ⟨e1,e2⟩=>by rw[e1,e2];exact h]
theorem fo.less (S:fo a (B.more l xs) H n t Kn):fo a B H n t Kn:=
 #[S.rd,S.wh,S.kn,S.Tf,S.SH,S.Qh,λb ys z=>S.fr b ys (.inl z)]
theorem fo.QU (S:fo a (B.more l xs) H n t Kn):H l=FB (.lst xs):=S.fr l xs (.inr #[Go,Go])
theorem cA (m:eU B b):eU (B.more l xs) b:=by
 rcases m with h|h|h|h|h|⟨ys,h⟩
 ·exact .inl h
 ·exact .inr (.inl h)
 ·exact .inr (.inr (.inl h))
 ·exact .inr (.inr (.inr (.inl h)))
 ·exact .inr (.inr (.inr (.inr (.inl h))))
 ·exact .inr (.inr (.inr (.inr (.inr #[ys, .inl h]))))
theorem dh (m:eU (B.more l xs) b):b=l\/eU B b:=by
 rcases m with h|h|h|h|h|⟨ys,h|⟨h,_⟩⟩
 ·exact .inr (.inl h)
 ·exact .inr (.inr (.inl h))
 ·exact .inr (.inr (.inr (.inl h)))
 ·exact .inr (.inr (.inr (.inr (.inl h))))
 ·exact .inr (.inr (.inr (.inr (.inr (.inl h)))))
 ·exact .inr (.inr (.inr (.inr (.inr (.inr #[ys,h])))))
 ·exact .inl h
theorem fb:eU (B.more l xs) l:= .inr (.inr (.inr (.inr (.inr #[xs, .inr #[Go,Go]]))))
theorem eX (h:M l):dg M H (aF H l o):=λb o' e m=>by
 rw[ac λz=>m (by rw[z];exact h)];exact e
theorem fo.write (S:fo a (B.more l xs) H n t Kn) (apart: ∀zs,¬B.bl.x l zs) (hq:l≠B.q):fo a (B.more l ys) (aF H l (.lst ys)) n t Kn:=by
 have hl:=S.QU;rw[02];obtain⟨as,all,h1,h2,h3⟩:=S.rd.toks;obtain⟨kk,k1,k2,k3⟩:=S.kn.vals;obtain⟨ff,f1,f2⟩:=S.kn.funs
 have up: ∀ {b:Fq}{o:HO},H b=FB o->(∀zs,o≠ .lst zs)->aF H l (.lst ys) b=FB o:=λe no=>by
  rw[ac λw=>by rw[w,hl] at e;exact no _ (FL e).symm];exact e
 refine#[#[#[dr,up er (λ_ z=>nomatch z)],as,all,(by show aF H l (.lst ys) B.q=_;rw[ac hq.symm];exact h1),Paired.Nq h2 λb x ⟨dx,ex⟩=>#[dx,up ex (λ_ z=>nomatch z)],h3],S.wh,
  #[#[kk,up k1 (λ_ z=>nomatch z),k2,k3],#[ff,up f1 (λ_ z=>nomatch z),f2],S.kn.len,#[ff,up f1 (λ_ z=>nomatch z),S.kn.fl f1]],up S.Tf (λ_ z=>nomatch z),up S.SH (λ_ z=>nomatch z),S.Qh,λb zs z=>?_]
 rcases z with z|⟨e1,e2⟩
 ·rw[ac λw=>apart zs (by rw[<-w];exact z)]
  exact S.fr b zs (.inl z)
 ·rw[e1,e2]
  exact ae
end
theorem yt:abk=GK.map λu=>V.str (sb u):=by decide+kernel
theorem dI:cR (.word u)=!Vbemac.KEYS.contains u:=by
 show(!uA (.str (sb u)) abk)=_
 congr 1
 rw[yt];unfold uA;rw[Tz,Fh.contains_eq_any_beq]
 congr 1
 funext z
 show(sb z == sb u)=(u == z)
 rw[Hq,beq_iff_eq,beq_iff_eq];exact#[λe=>(eJ e).symm,λe=>by rw[e]]
theorem BY (T:aU K mg a) (XC:XT K a):T.aac.O P w mg base 6 (xr a):=by
 have G_q:=mr (P:=P) (w:=w) (base:=base) T XC;refine fS T.aac.F ahd [03] [02];obtain⟨r,q,kd,fn,ds,bl,n,x,t,v,rfl,R,hb,hf,hg⟩:=h;obtain⟨dr,er⟩:=R.ins;refine#[_,(ao (cv (kR (cT (cB (pv 0) T.Gj T.d_q.c G_q [07] aA (aa (pv 1) ag)))) (ah (aJ tM)) bw)
   (ao (gR (pv 0) ak oh)
   (ah (aJ tM)))),?_]
 refine#[r,dr,_,Go,er,Go,r,q,kd,fn,ds,bl,n,x,t,v,Go,R,hb,λnb=>[021]];cases e:me v x.1 with
 |false=>exact ca (hf nb e)
 |true=>
  refine bM ?_;exact#[r,_,dr,_,_,Go,er,T.Gj,T.KP,Go,_,_,Go,Go,dr,_,er,(by show 6<1000;decide),hg nb e _ #[dr,er,Go]]
theorem jn (T:aU K mg a) (XC:XT K a):T.aae.O P w mg base 7 (xi a):=by
 have G_B:=g8 (P:=P) (w:=w) (base:=base) T XC
 have Uj:=c8 (P:=P) (w:=w) (base:=base) T XC
 have Vp:=fH (P:=P) (w:=w) (base:=base) T XC
 have G_w:=qW (P:=P) (w:=w) (base:=base) T XC;refine fS T.aae.F ahe [03] [02];obtain⟨r,q,kd,fn,ds,bl,g,n,⟨x,xp⟩,t,gg,rfl,R,eg,hb,hn,h4,hg⟩:=h;obtain⟨dr,er⟩:=R.ins;refine#[_,(ao (bj (bS (pv 0) T.Gj T.d_B.c G_B [07] aA))
   (ao (cv (fD (nI (dz hr) (aj (bS (pv 0) T.Gj T.Wf.c Uj [07] aA) rfl) (pv 1))) (ah (bj (cB (pv 0) T.Gj T.Wg.c Vp [07] aA (aa (aQ (by rfl) T.O4) ag)))) bw)
   (ah (aJ (bS (pv 0) T.Gj T.d_w.c G_w [07] aA))))),?_]
 refine#[r,dr,_,Go,er,Go,r,q,kd,fn,ds,bl,n,(x,xp),t,Go,R,hb,hn,λnb e=>?_];cases x with
 |word u=>
  refine#[r,dr,_,Go,er,Go,r,q,kd,fn,ds,bl,n,(.word u,xp),t,Go,R,hb,λ_ p ⟨dx,et⟩=>#[p,_,dx,_,_,Go,et,T.IW,T.JD,Go,?_]];refine#[g,_,Go,gz.k (k:=nk u) eg,_,Go,aP (λe1=>?_) λe1=>?_]
  ·refine#[r,dr,_,Go,er,Go,r,q,kd,fn,ds,bl,n,(.word u,xp),t,4,Go,R,?_]
   rw[Fs nb];exact h4 u rfl e e1
  ·exact#[r,dr,_,Go,er,Go,r,q,kd,fn,ds,bl,n,(.word u,xp),t,Go,R,hb,λ_=>hg u rfl e e1]
 |num m=>cases e
 |sign u=>cases e
 |eof=>cases e
 |bad=>exact FP rfl nb
theorem fK {α:Type}{p:FC α}{n:FH}{t:Fn}{Qo:α->Fn->Prop}{Qe:FH->GD->Prop}(e:p t=FT n t) (nb:FK t≠ .bad) (h:W p t Qo Qe):Qe n (IA t):=by
 have e:p t= .error (n,IA t):=by rw[e];unfold FT;rw[Fs nb]
 rw[i9 e] at h;exact h
theorem ain {α:Type}{p p':FC α}{t:Fn}{Qo:α->Fn->Prop}{Qe:FH->GD->Prop}(e:p t=p' t) (h:W p t Qo Qe):W p' t Qo Qe:=by
 unfold W at h ⊢;rw[<-e];exact h
abbrev QE (a:bi) (B:Rb) (H0:Hp) (E:XK):FH->GD->Prop:=λk x=> ∀H',dg (eU B) H0 H'->mI a.HW E H' k x
theorem cW {t:Fn} :WN ((.word u,xp)::t)=if GK.contains u=FS then FT 2 ((.word u,xp)::t) else .ok (u,t):=rfl
theorem iQ {Kn:Ft}{t:Fn}(h:GK.contains u=FS):GY Kn ((.word u,xp)::t)=FT 2 ((.word u,xp)::t):=by
 unfold GY;rw[cW,Fv h]
 rfl
theorem eA {Kn:Ft}{t:Fn}(h:GK.contains u=Gc):GY Kn ((.word u,xp)::t)=if Kn.taken u=FS then FT 4 ((.word u,xp)::t) else .ok (u,t):=by
 unfold GY;rw[cW,Fs (by rw[h];exact Fl)]
structure Zf (β:Type) where
 a:bi
 E:XK
 B:Rb
 L:FH
 H0:Hp
 Ro:β->Fn->Prop
inductive CB (X:Cx) (x:FY) (ps:Fh FY) (sp:Sp):Prop
 |mk {k:FH}{f:Fq}{fd:Gz}(F:bV X.prog X.w X.K X.mg X.base (f9 X.prog X.w) k f fd ps sp) (hr:bZ k X.A) (d:CD X.K X.mg x f fd ps) (hg:Gl X x):CB X x ps sp
structure RX (X:Cx) (a:bi) (E:XK):Prop where
 T:aU X.K X.mg a
 C:XT X.K a
 hr:bZ 8 X.A
 up:dn (f9 X.prog X.w) X E
 lv:Ql (model X.prog X.w) X.A X.env X.xe
 nd:X.N.Nodup
 n0:X.N[0]?=FB ("reader":FY)
 v0:oZ X.env.scope "reader"
structure RS {β:Type}(Z:Zf β) (F:Fh (Fk×V)) (b:GA) (H:Hp) (t:Fn) (Kn:Ft) (p:FC β):Prop where
 S: ∃n,fo Z.a Z.B H n t Kn
 k:dg (eU Z.B) Z.H0 H
 f: ∀ {i:FH}{x:Fk×V},F[i]?=FB x->jm Z.a (eU Z.B) H x
 l:t.length+b.toNat<=Z.L
 w:W p t Z.Ro (QE Z.a Z.B Z.H0 Z.E)
section
variable {β:Type}{Z:Zf β}{H H':Hp}{p p':FC β}
theorem RS.go (R:RS Z F b H t Kn p) (S:fo Z.a Z.B H' n t' XS) (k:dg (eU Z.B) H H') (l:t'.length+b'.toNat<=Z.L) (w:W p' t' Z.Ro (QE Z.a Z.B Z.H0 Z.E)):RS Z F b' H' t' XS p':=
 #[#[n,S],R.k.trans k,λe=>jm.Ic k.two (R.f e),l,w]
theorem RS.and (R:RS Z F b H t Kn p) (h:jm Z.a (eU Z.B) H e):RS Z (e::F) b H t Kn p:=
 #[R.S,R.k,λ{i x} q=>match i,q with
  |0,q=>by cases q;exact h
  |i+1,q=>R.f (i:=i) q,R.l,R.w]
theorem RS.as (R:RS Z F b H t Kn p) (e:p t=p' t):RS Z F b H t Kn p':=#[R.S,R.k,R.f,R.l,ain e R.w]
theorem RS.one (R:RS Z F b H (x::t) Kn p):t.length+1<=Z.L:=FV (Ka _ _) R.l
theorem RS.past (R:RS Z F b H (x::t) Kn p) (S:fo Z.a Z.B H n (x::t) Kn) (hx: ¬jP x) (h:OS.past Z.a H Z.B.r Z.B.q Z.B.kd Z.B.fn Z.B.ds.p Z.B.bl.p n H') (w:W p' t Z.Ro (QE Z.a Z.B Z.H0 Z.E)):RS Z F FS H' t Kn p':=
 R.go (S.past hx h) (vX h) R.one w
end
structure XpP (v:FY) (p:FC Nj) (x:GO×GD) (r:Fn):Prop where
 bad:x.1= .bad->p (x::r)= .error (1,x.2)
 no:x.1≠ .bad->me v x.1=Gc->p (x::r)= .error (2,x.2)
 yes:x.1≠ .bad->me v x.1=FS->p (x::r)= .ok ((),r)/\ ¬jP x
theorem d7.p {v:FY}{s:String}(l:d7 v (Fj s)) (r:Fn) (ok:ga x.1):XpP v (Gm s) x r:=by
 refine#[λb=>bo s (x::r) b,λnb e=>?_,λnb e=>?_]
 ·rw[cP ok l] at e
  show(if Gn (x::r) s=FS then _ else FT 2 (x::r))=_
  rw[Fs (by show¬(x.1 == .sign (Fj s))=FS;rw[e];exact Fl)];unfold FT;rw[Fs (show¬FK (x::r)= .bad from nb)]
  rfl
 ·rw[cP ok l] at e
  refine#[?_,λz=>?_]
  ·show(if Gn (x::r) s=FS then _ else FT 2 (x::r))=_
   rw[Fv (by show(x.1 == .sign (Fj s))=FS;exact e)]
   rfl
  ·have:=beq_iff_eq.mp e
   exact z.elim (λz=>by rw[this] at z;cases z) nb
theorem cX.p {v:FY}{s:String}(l:cX v (Fj s)) (r:Fn) (ok:ga x.1):XpP v (Hx s) x r:=by
 refine#[λb=>eS s (x::r) b,λnb e=>?_,λnb e=>?_]
 ·rw[b7 ok l] at e
  show(if FD (x::r) s=FS then _ else FT 2 (x::r))=_
  rw[Fs (by show¬(x.1 == .word (Fj s))=FS;rw[e];exact Fl)];unfold FT;rw[Fs (show¬FK (x::r)= .bad from nb)]
  rfl
 ·rw[b7 ok l] at e
  refine#[?_,λz=>?_]
  ·show(if FD (x::r) s=FS then _ else FT 2 (x::r))=_
   rw[Fv (by show(x.1 == .word (Fj s))=FS;exact e)]
   rfl
  ·have:=beq_iff_eq.mp e
   exact z.elim (λz=>by rw[this] at z;cases z) nb
theorem B7 {v:FY}(r:Fn) (e:me v x.1=FS) (nb:x.1≠ .bad) (nf: ¬jP x):XpP v GL x r:=
 #[λb=>FP b nb,λ_ z=>(by rw[e] at z;cases z),λ_ _=>#[Go,nf]]
theorem RS.tok {β:Type}{Z:Zf β}{F:Fh (Fk×V)}{b:GA}{H:Hp}{t:Fn}{Kn:Ft}{p:FC β}(R:RS Z F b H t Kn p):ga (FK t):=by
 rw[00];obtain⟨x,t',rfl,tok,Rc,_,_⟩:=S.wh.first;exact tok
section
variable {X:Cx}{β:Type}{Z:Zf β}{F:Fh (Fk×V)}{b:GA}{H:Hp}{t:Fn}{Kn:Ft}{D:d9}{ss:Fh Stmt}{σ:L2.St}{p0 p1 p2 p3 p4 p5:Pos}{j:FH}{v y:FY}{s:String}{E:XK}{Q:VK}{B:Rb}{n:FH}{m:FY}{f:Fq}{fd:Gz}{ps:Fh FY}{sp:Sp}{k:FH}{CX:pV}{E':XK}{p:FC β}
theorem RX.rd (Y:RX X a E):PE X [005] (ir 0):=dX Y.n0 Y.v0
theorem RX.m1 (Y:RX X a E) (d:MD X.K a.GI m f fd ps) (G:bV X.prog X.w X.K X.mg X.base CX k f fd ps sp) (hk:k<=8) (up:dn CX X E') (S:fo a B H n t Kn) (hm:(qY B.q B.kd B.fn B.ds.p B.bl.p n).lookup m=FM) (q:Pe X e (FB (.ref B.r)::σ) H λv H1=>sp [.ref B.r,v] H1 Q E')
  (hp:iA p2 p4) (KH:FU [e] X.env=[[001]]):Pe X (.Call (.Attribute [005] m p2) [e] [] p4) (FB (.ref B.r)::σ) H Q:=by
 rw[02];exact#[_,cB Y.rd Y.T.Gj d G (Y.hr.mono hk) up (aa dA ag KH) KH rfl (ee hp (by rw[KH];rfl)),B.r,dr,_,Go,er,hm,q]
theorem RX.m0 (Y:RX X a E) (d:MD X.K a.GI m f fd ps) (G:bV X.prog X.w X.K X.mg X.base CX k f fd ps sp) (hk:k<=8) (up:dn CX X E') (S:fo a B H n t Kn) (hm:(qY B.q B.kd B.fn B.ds.p B.bl.p n).lookup m=FM) (q:sp [.ref B.r] H Q E')
  (hp:iA p2 p4):Pe X (.Call (.Attribute [005] m p2) [] [] p4) (FB (.ref B.r)::σ) H Q:=by
 rw[02];exact#[_,bS Y.rd Y.T.Gj d G (Y.hr.mono hk) up (ee hp rfl),B.r,dr,_,Go,er,hm,q]
theorem wW {e:HM}{te:TE}{u:FC Nj}{g:Nj->FC β}(Y:RX X Z.a Z.E) (R:RS Z F b H t Kn (u>>=g)) (he:PE X e te) (hv: ∀Q:VK,Q (.str v) H->te (FB (.ref Z.B.r)::σ) H Q) (l: ∀ {x:GO×GD} r,t=x::r->ga x.1->XpP v u x r) (q: ∀H' t',RS Z F FS H' t' Kn (g ())->Bd X ss D (FB (.ref Z.B.r)::σ) H') (hp:iA p2 p4:=by rfl) (KH:FU [e] X.env=[[001]]:=by rfl):
  Bd X (.Expr (.Call (.Attribute [005] "expect" p2) [e] [] p4) p5::ss) D (FB (.ref Z.B.r)::σ) H:=by
 rw[00];obtain⟨x,t',rfl,tok,Rc,M3,_⟩:=S.wh.first;have hW:=R.w;rw[jL] at hW;have l:=l t' rfl tok;refine bF (Y.m1 Y.T.aab.c (yI Y.T Y.C) [01] Y.up S rfl #[_,he,hv _ #[Z.B.r,Z.B.q,Z.B.kd,Z.B.fn,Z.B.ds,Z.B.bl,n,x,t',v,Go,S.rd,λb=>?_,λnb e=>?_,λnb e H' hp=>?_]] hp KH)
 ·rw[i9 (l.bad b)] at hW;exact hW H R.k
 ·rw[i9 (l.no nb e)] at hW;exact hW H R.k
 ·obtain⟨h1,h2⟩:=l.yes nb e
  rw[zX h1] at hW;exact q H' t' (R.past S h2 hp hW)
theorem mq {te:TE}(Y:RX X Z.a Z.E) (R:RS Z F b H t Kn p) (he:PE X e te) (hv: ∀Q:VK,Q (.str v) H->te (FB (.ref Z.B.r)::σ) H Q) (hb:FK t= .bad->QE Z.a Z.B Z.H0 Z.E 1 (IA t)) (q:FK t≠ .bad->Q (.bl (me v (FK t))) H) (hp:iA p2 p4:=by rfl) (KH:FU [e] X.env=[[001]]:=by rfl):
  Pe X (.Call (.Attribute [005] "sees" p2) [e] [] p4) (FB (.ref Z.B.r)::σ) H Q:=by
 rw[00];obtain⟨x,t',rfl,tok,Rc,M3,_⟩:=S.wh.first;exact Y.m1 Y.T.d_q.c (mr Y.T Y.C) [01] Y.up S rfl #[_,he,hv _ #[Z.B.r,Z.B.q,Z.B.kd,Z.B.fn,Z.B.ds,Z.B.bl,n,x,t',v,Go,S.rd,λb=>hb (Rc.trans b) H R.k,q]] hp KH
theorem rH {u:FC Nj}{g:Nj->FC β}(Y:RX X Z.a Z.E) (R:RS Z F b H t Kn (u>>=g)) (l: ∀ {x:GO×GD} r,t=x::r->ga x.1->XpP v u x r) (q: ∀H' t',RS Z F FS H' t' Kn (g ())->Bd X ss D (FB (.ref Z.B.r)::σ) H') (hp:iA p2 p4:=by rfl):
  Bd X (.Expr (.Call (.Attribute [005] "expect" p2) [.Constant (.str v) j p3] [] p4) p5::ss) D (FB (.ref Z.B.r)::σ) H:=wW Y R dJ [05] l q hp
theorem cF {g:Nj->FC β}(Y:RX X Z.a Z.E) (lit:d7 v (Fj s)) (R:RS Z F b H t Kn (Gm s>>=g)) (q: ∀H' t',RS Z F FS H' t' Kn (g ())->Bd X ss D (FB (.ref Z.B.r)::σ) H') (hp:iA p2 p4:=by rfl):
  Bd X (.Expr (.Call (.Attribute [005] "expect" p2) [.Constant (.str v) j p3] [] p4) p5::ss) D (FB (.ref Z.B.r)::σ) H:=rH Y R (λr _ ok=>lit.p r ok) q hp
theorem lr {g:Nj->FC β}(Y:RX X Z.a Z.E) (lit:cX v (Fj s)) (R:RS Z F b H t Kn (Hx s>>=g)) (q: ∀H' t',RS Z F FS H' t' Kn (g ())->Bd X ss D (FB (.ref Z.B.r)::σ) H') (hp:iA p2 p4:=by rfl):
  Bd X (.Expr (.Call (.Attribute [005] "expect" p2) [.Constant (.str v) j p3] [] p4) p5::ss) D (FB (.ref Z.B.r)::σ) H:=rH Y R (λr _ ok=>lit.p r ok) q hp
theorem iC (Y:RX X Z.a Z.E) (R:RS Z F b H t Kn p) (st:aL p) (q:FK t≠ .bad->Q (.bl (me v (FK t))) H) (hp:iA p2 p4:=by rfl):
  Pe X (.Call (.Attribute [005] "sees" p2) [.Constant (.str v) j p3] [] p4) (FB (.ref Z.B.r)::σ) H Q:=mq Y R dJ [05] (λb=>st.L4 b R.w) q hp
theorem ji (Y:RX X Z.a Z.E) (R:RS Z F b H t Kn p) (nb:FK t≠ .bad) (q:Q (.bl (me v (FK t))) H) (hp:iA p2 p4:=by rfl):
  Pe X (.Call (.Attribute [005] "sees" p2) [.Constant (.str v) j p3] [] p4) (FB (.ref Z.B.r)::σ) H Q:=mq Y R dJ [05] (λb=>FP b nb) (λ_=>q) hp
theorem Y2 {c:GO->GA}(Y:RX X Z.a Z.E) (d:MD X.K Z.a.GI m f fd ps) (G:bV X.prog X.w X.K X.mg X.base (f9 X.prog X.w) k f fd ps (rT Z.a c)) (hk:k<=8) (hm: ∀n,(qY Z.B.q Z.B.kd Z.B.fn Z.B.ds.p Z.B.bl.p n).lookup m=FM) (R:RS Z F b H t Kn p) (st:aL p) (q:FK t≠ .bad->Q (.bl (c (FK t))) H) (hp:iA p2 p4:=by rfl):
  Pe X (.Call (.Attribute [005] m p2) [] [] p4) (FB (.ref Z.B.r)::σ) H Q:=by
 rw[00];obtain⟨x,t',rfl,tok,Rc,M3,_⟩:=S.wh.first;exact Y.m0 d G hk Y.up S (hm n) #[Z.B.r,Z.B.q,Z.B.kd,Z.B.fn,Z.B.ds,Z.B.bl,n,x,t',Go,S.rd,λb=>st.L4 (Rc.trans b) R.w H R.k,q] hp
theorem iJ {g:Nj->FC β}(Y:RX X Z.a Z.E) (R:RS Z F b H (x::r) Kn (GL>>=g)) (nf: ¬jP x) (q: ∀H',RS Z F FS H' r Kn (g ())->Q (iy x.1) H') (hp:iA p2 p4:=by rfl):
  Pe X (.Call (.Attribute [005] "take" p2) [] [] p4) (FB (.ref Z.B.r)::σ) H Q:=by
 rw[00];exact Y.m0 Y.T.d_w.c (qW Y.T Y.C) [01] Y.up S rfl #[Z.B.r,Z.B.q,Z.B.kd,Z.B.fn,Z.B.ds,Z.B.bl,n,x,r,Go,S.rd,λb=>FP (.inr b) nf,λ_ H' hp=>q H' (R.past S nf hp R.w)] hp
theorem qM {e:HM}{i:FH}(Y:RX X Z.a Z.E) (he:PE X e (tC (.int i))) (R:RS Z F b H t Kn p) (nb:FK t≠ .bad) (h:p t=FT i t) (hp:iA p2 p4:=by rfl) (KH:FU [e] X.env=[[001]]:=by rfl):
  Pe X (.Call (.Attribute [005] "fail" p2) [e] [] p4) (FB (.ref Z.B.r)::σ) H Q:=by
 rw[00];obtain⟨x,t',rfl,tok,Rc,M3,_⟩:=S.wh.first;refine Y.m1 Y.T.Wg.c (fH Y.T Y.C) [01] Y.up S rfl #[_,he,Z.B.r,Z.B.q,Z.B.kd,Z.B.fn,Z.B.ds,Z.B.bl,n,x,t',i,Go,S.rd,?_] hp KH;rw[Fs (show¬x.1= .bad from nb)];exact fK h nb R.w H R.k
theorem p_g (Y:RX X Z.a Z.E) (R:RS Z F b H t Kn p) (st:aL p) (h:FK t≠ .bad->cR (FK t)=Gc->p t=FT 2 t) (q:FK t≠ .bad->cR (FK t)=FS->Q .IX H) (hp:iA p2 p4:=by rfl):
  Pe X (.Call (.Attribute [005] "need_name" p2) [] [] p4) (FB (.ref Z.B.r)::σ) H Q:=by
 rw[00];obtain⟨x,t',rfl,tok,Rc,M3,_⟩:=S.wh.first;exact Y.m0 Y.T.d_B.c (g8 Y.T Y.C) [01] Y.up S rfl #[Z.B.r,Z.B.q,Z.B.kd,Z.B.fn,Z.B.ds,Z.B.bl,n,x,t',Go,S.rd,λb=>st.L4 (Rc.trans b) R.w H R.k,λnb e=>fK (h nb e) nb R.w H R.k,q] hp
theorem uU (Y:RX X Z.a Z.E) (R:RS Z F b H t Kn p) (hb:FK t= .bad->QE Z.a Z.B Z.H0 Z.E 1 (IA t)) (q:FK t≠ .bad->Q (iy (FK t)) H) (hp:iA p2 p4:=by rfl):
  Pe X (.Attribute (.Call (.Attribute [005] "current" p2) [] [] p4) "value" p5) (FB (.ref Z.B.r)::σ) H Q:=by
 rw[00];obtain⟨x,t',rfl,tok,Rc,M3,_⟩:=S.wh.first;refine#[_,aj dA rfl,Y.m0 Y.T.Wf.c (c8 Y.T Y.C) [01] Y.up S rfl #[Z.B.r,Z.B.q,Z.B.kd,Z.B.fn,Z.B.ds,Z.B.bl,n,x,t',Go,S.rd,λb=>hb (Rc.trans b) H R.k,λnb c ⟨dx,et⟩=>#[c,_,dx,_,_,Go,et,Y.T.IW,Y.T.JD,Go,q nb]] hp]
theorem aio (Y:RX X Z.a Z.E) (R:RS Z F b H t Kn p) (st:aL p) (q:FK t≠ .bad->Q (iy (FK t)) H) (hp:iA p2 p4:=by rfl):
  Pe X (.Attribute (.Call (.Attribute [005] "current" p2) [] [] p4) "value" p5) (FB (.ref Z.B.r)::σ) H Q:=uU Y R (λb=>st.L4 b R.w) q hp
theorem RS.cons (R:RS Z F b H t Kn p): ∃x r,t=x::r:=by
 rw[00];obtain⟨x,t',e,_⟩:=S.wh.first;exact#[x,t',e]
theorem abD (Y:RX X Z.a Z.E) (R:RS Z F b H (x::r) Kn p) (nf: ¬jP x) (q:Q (.bl (l0 (FK r))) H) (hp:iA p2 p4:=by rfl):
  Pe X (.Call (.Attribute [005] "number_follows" p2) [] [] p4) (FB (.ref Z.B.r)::σ) H Q:=by
 rw[00];obtain⟨y,r',rfl,_⟩:=(S.wh.tail nf).2.first;exact Y.m0 Y.T.aaa.c (jY Y.T) [01] aT S rfl #[Z.B.r,Z.B.q,Z.B.kd,Z.B.fn,Z.B.ds,Z.B.bl,n,x,y,r',Go,S.rd,q] hp
theorem abE {te:TE}{C:GA->Hp->Prop}(Y:RX X Z.a Z.E) (R:RS Z F b H t Kn p) (he:PE X e te) (hv: ∀Q:VK,Q (.str (sb u)) H->te (FB (.ref Z.B.r)::σ) H Q) (q:C ((Kn.funs.find? λf=>f.1 == u).isSome) H):
  Pt X (.Compare e [.In] [.Attribute [005] "functions" p2] p3) (FB (.ref Z.B.r)::σ) H C:=by
 rw[00];rw[02];obtain⟨ff,f1,f2⟩:=S.kn.funs;refine#[_,fD (nI (dz Y.hr) he (aj Y.rd rfl)),hv _ #[Z.B.r,_,dr,_,_,Go,er,Y.T.Gj,Y.T.IY,Go,Z.B.fn,_,Go,gz.k (k:=nk u) f1,_,Go,?_]];rw[f2,Ip];exact q
theorem abF {te:TE}{C:GA->Hp->Prop}(Y:RX X Z.a Z.E) (R:RS Z F b H t Kn p) (he:PE X e te) (hv: ∀Q:VK,Q (.str (sb u)) H->te (FB (.ref Z.B.r)::σ) H Q) (q:C (!Kn.values.contains u) H):
  Pt X (.Compare e [.NotIn] [.Attribute [005] "known" p2] p3) (FB (.ref Z.B.r)::σ) H C:=by
 rw[00];rw[02];obtain⟨kk,k1,k2,k3⟩:=S.kn.vals;refine#[_,fD (i6 (dz Y.hr) he (aj Y.rd rfl)),hv _ #[Z.B.r,_,dr,_,_,Go,er,Y.T.Gj,Y.T.Kk,Go,Z.B.kd,_,Go,gz.k (k:=nk u) k1,_,Go,?_]];have:=k3 u;unfold has at this;rw[this];exact q
theorem uh (i:FH) {g:Fi->FC β}(Y:RX X Z.a Z.E) (R:RS Z F b H t Kn (GY Kn>>=g)) (q: ∀u H' t',cX (sb u) u->GK.contains u=Gc->Kn.taken u=Gc->RS Z F FS H' t' Kn (g u)->Bd X ss D ((FB (.ref Z.B.r)::σ).set i (FB (.str (sb u)))) H')
  (h:Sl X i y:=by exact#[Go,G9 rfl,Go]) (hp:iA p2 p4:=by rfl):
  Bd X (.Assign [.Name y p0] (.Call (.Attribute [005] "take_free_name" p2) [] [] p4) p5::ss) D (FB (.ref Z.B.r)::σ) H:=by
 rw[00];rw[02];obtain⟨⟨x,xp⟩,t',rfl,tok,Rc,M3,_⟩:=S.wh.first;obtain⟨kk,k1,k2,k3⟩:=S.kn.vals;obtain⟨ff,f1,f2⟩:=S.kn.funs;have hW:=R.w;rw[jL] at hW;have tk: ∀u,(has kk u||has ff u)=Kn.taken u:=λu=>by
  unfold N9;rw[k3]
  congr 1
  unfold has;rw[f2,Ip,Hq,Nv,Mf]
 refine aN i Y.nd (Y.m0 Y.T.aad.c (kC Y.T Y.C) [01] Y.up S rfl #[Z.B.r,Z.B.q,Z.B.kd,Z.B.fn,Z.B.ds,Z.B.bl,n,(x,xp),t',kk,ff,Go,S.rd,k1,f1,λb=>(fZ Kn).L4 (Rc.trans b) hW H R.k,λnb e=>?_,λu ex e e4=>?_,λu ex e e4 H' hp=>?_] hp) h
 ·refine fK (p:=GY Kn) (n:=2) (t:=(x,xp)::t') ?_ nb hW H R.k
  cases x with
  |word u=>
   rw[dI] at e;have So:GK.contains u=FS:=by cases h:GK.contains u;rw[h] at e;cases e;rfl
   exact iQ So
  |num m=>rfl
  |sign s=>rfl
  |eof=>rfl
  |bad=>exact FP rfl nb
 ·obtain rfl:x= .word u:=ex
  rw[dI] at e;have So:GK.contains u=Gc:=by cases h:GK.contains u;rfl;rw[h] at e;cases e
  refine fK (p:=GY Kn) (n:=4) (t:=(.word u,xp)::t') ?_ (λz=>nomatch z) hW H R.k
  rw[eA So,Fv (by rw[<-tk];exact e4)]
 ·obtain rfl:x= .word u:=ex
  rw[dI] at e;have So:GK.contains u=Gc:=by cases h:GK.contains u;rfl;rw[h] at e;cases e
  have ft:Kn.taken u=Gc:=by rw[<-tk];exact e4
  have en:GY Kn ((.word u,xp)::t')= .ok (u,t'):=by
   rw[eA So,Fs (by rw[ft];exact Fl)]
  rw[zX en] at hW;exact q u H' t' #[Go,tok.1,tok.2] So ft (R.past S (λz=>z.elim (λz=>nomatch z) λz=>nomatch z) hp hW)
theorem i8 (i:FH) {g:Fi->FC β}(Y:RX X Z.a Z.E) (R:RS Z F b H t Kn (GY Kn>>=g)) (q: ∀u H' t',Kn.taken u=Gc->RS Z F FS H' t' Kn (g u)->Bd X ss D ((FB (.ref Z.B.r)::σ).set i (FB (.str (sb u)))) H')
  (h:Sl X i y:=by exact#[Go,G9 rfl,Go]) (hp:iA p2 p4:=by rfl):
  Bd X (.Assign [.Name y p0] (.Call (.Attribute [005] "take_free_name" p2) [] [] p4) p5::ss) D (FB (.ref Z.B.r)::σ) H:=uh i Y R (λu H' t' _ _=>q u H' t') h hp
theorem jJ (h:Kn.taken u=Gc):Kn.values.contains u=Gc:=(Mr.mp h).1
theorem gL {te:TE}(Y:RX X Z.a Z.E) (he:PE X e te) (hv: ∀Q:VK,Q (.str (sb u)) H->te (FB (.ref Z.B.r)::σ) H Q) (ft:Kn.taken u=Gc) (hm:Kn.values.length+Z.L<=4000) (R:RS Z F FS H t Kn p)
  (q: ∀H',RS Z F FS H' t (Kn.with u) p->Bd X ss D (FB (.ref Z.B.r)::σ) H') (hp:iA p2 p4:=by rfl) (KH:FU [e] X.env=[[001]]:=by rfl):
  Bd X (.Expr (.Call (.Attribute [005] "learn" p2) [e] [] p4) p5::ss) D (FB (.ref Z.B.r)::σ) H:=by
 rw[00];rw[02];obtain⟨kk,k1,k2,k3⟩:=S.kn.vals;have l:=R.l;have l:t.length+1<=Z.L:=l;refine bF (Y.m1 Y.T.aaf.c (A9 Y.T) [01] aT S rfl #[_,he,hv _ #[Z.B.r,dr,Z.B.q,Z.B.kd,Z.B.fn,Z.B.ds,Z.B.bl,n,u,kk,Go,er,k1,Gr (show kk.length<=4000 by lia) [01],?_]] hp KH);exact q _ (R.go (S.aim (jJ ft) (by lia) k1) (eX (.inr (.inl rfl))) l R.w)
theorem kX {te:TE}(Y:RX X Z.a Z.E) (he:PE X e te) (hv: ∀Q:VK,Q (.str (sb u)) H->te (FB (.ref Z.B.r)::σ) H Q) (ft:Kn.taken u=Gc) (R:RS Z F b H t (Kn.with u) p)
  (q: ∀H',RS Z F b H' t Kn p->Bd X ss D (FB (.ref Z.B.r)::σ) H') (hp:iA p2 p4:=by rfl) (KH:FU [e] X.env=[[001]]:=by rfl):
  Bd X (.Expr (.Call (.Attribute [005] "forget" p2) [e] [] p4) p5::ss) D (FB (.ref Z.B.r)::σ) H:=by
 rw[00];rw[02];obtain⟨kk,k1,k2,k3⟩:=S.kn.vals;obtain⟨hu,S'⟩:=S.forget (jJ ft) k1;refine bF (Y.m1 Y.T.Xk.c (pH Y.T) [01] aT S rfl #[_,he,hv _ #[Z.B.r,dr,Z.B.q,Z.B.kd,Z.B.fn,Z.B.ds,Z.B.bl,n,u,kk,Go,er,k1,hu,?_]] hp KH);exact q _ (R.go S' (eX (.inr (.inl rfl))) R.l R.w)
theorem RX.call2 {sp:Sp}{te:TE}(Y:RX X a E) (c:CB X x ["reader","depth"] sp) (he:PE X e te) (hx:(x == [003])=Gc) (KH:FU [e] X.env=[[001]]):PE X (.Call (.Name x p1) [.Name "reader" p2,e] [] p4) (Aq sp [] E (tw (ir 0) (tw te yK))):=by
 obtain⟨G,hr,d,hg⟩:=c;exact aI G hr hg d Y.up (aa Y.rd (aa he ag KH) (by show _::FU [e] X.env=_;rfl)) hx rfl (by rw[KH];rfl)
end
def RoX (a:bi) (B:Rb) (H0:Hp) (L:FH) (Kn:Ft) (Q:VK) (e:Fz) (t:Fn):Prop:= ∀H' v n,t.length<L->fo a B H' n t Kn->dg (eU B) H0 H'->aw a (eU B) H' e v->Q v H'
def Rz (w2:GA) (a:bi) (B:Rb) (H0:Hp) (L:FH) (Kn:Ft) (Q:VK) (E:XK) (e:Fz) (t:Fn):Prop:=if w2=FS/\FK t= .bad then QE a B H0 E 1 (IA t) else RoX a B H0 L Kn Q e t
inductive a0 (a:bi) (w2:GA) (p:FH->FH->Ft->FC Fz) (c:FH) (ok:FH->Ft->Fn->Prop) (vs:Fh V) (H:Hp) (Q:VK) (E:XK):Prop
 |mk (B:Rb) (n:FH) (t:Fn) (Kn:Ft) (d:FH) (fuel:FH) (_:vs=[.ref B.r, .int d]) (_:d<=12) (_:ok d Kn t) (_:fo a B H n t Kn) (_:16*t.length+c<=fuel) (_:W (p fuel (12-d) Kn) t (Rz w2 a B H t.length Kn Q E) (QE a B H E)):a0 a w2 p c ok vs H Q E
def Lv (j:FH):FH->Ft->Fn->Prop:=λd _ _=>13<=d+j
def LvS (j:FH) (s:Fi):FH->Ft->Fn->Prop:=λd _ t=>13<=d+j/\FK t= .sign s
def LvW (j:FH) (s:Fi):FH->Ft->Fn->Prop:=λd _ t=>13<=d+j/\FK t= .word s
def LvC (j:FH):FH->Ft->Fn->Prop:=λd K t=>13<=d+j/\ ∃u f,FK t= .word u/\u≠Fj "sum"/\GK.contains u=Gc/\K.funs.find? (λf=>f.1 == u)=FB f
section
variable {k:FH}{w2:GA}{pp:FH->FH->Ft->FC Fz}{c:FH}{ok:FH->Ft->Fn->Prop}{x Hl:FY}{st:Stmt}{f:Fq}{fd:Gz}{N:Fh FY}{ps:Fh FY}
theorem ka {s:Fw}{H:Hp}{E:XK}(T:aU K mg a) (XC:XT K a) (hk:8<=k) (S:ay N ("reader"::ps) (af st)) (hr:bZ k (A.deeper [011])):
  RX (fi (f9 P w) P w K mg base N Hl (af st) f Hb A outer s H E) a E:=
 #[T,XC,hr.mono hk,aA,Jo,S.nd,by
  have e:=S.pre;cases N with
  |nil=>cases e
  |cons x l=>exact Gx FB (JL e).1,(S.par "reader" Fy).elim .inl λz=> .inr (.inl z)]
theorem uO (T:aU K mg a) (XC:XT K a) (hk:8<=k) (F:oY K x Hl st f fd) (S:ay N ["reader","depth"] (af st))
  (JO: ∀(Hb:Fp) (A:Hc) (outer:Fh Env) (s:Fw) (H:Hp) (B:Rb) (t:Fn) (Kn:Ft) (d fuel:FH) (Q:VK) (E:XK),bZ k (A.deeper [011])->d<=12->ok d Kn t->16*t.length+c<=fuel->Kn.values.length+t.length<=4000->
   let X:=fi (f9 P w) P w K mg base N Hl (af st) f Hb A outer s H E
   let D:d9:= { nx:=λ_ H'=>Q .IX H',rt:=Q }
   let Z:Zf Fz:=#[a,E,B,t.length,H,Rz w2 a B H t.length Kn Q E]
   RX X a E->RS Z [] Gc H t Kn (pp fuel (12-d) Kn)->Bd X (bf st) D (L2.start N [.ref B.r, .int d]) H):bV P w K mg base (f9 P w) (k+1) f fd ["reader","depth"] (a0 a w2 pp c ok):=by
 refine fS F S [03] [02];obtain⟨B,n,t,Kn,d,fuel,rfl,hd,ho,St,hf,hW⟩:=h;exact JO Hb A outer s H B t Kn d fuel Q E hr hd ho hf St.kn.len (ka T XC hk S hr) #[#[n,St],dg.refl,λ{i x} e=>(by cases e),FN _,hW]
end
section
variable {X:Cx}{β:Type}{Z:Zf β}{F:Fh (Fk×V)}{b:GA}{H:Hp}{t:Fn}{Kn:Ft}{D:d9}{ss:Fh Stmt}{σ:L2.St}{p0 p1 p2 p3 p4 p5:Pos}{j:FH}{v y:FY}{s:String}{E:XK}{d:FH}
theorem RS.done {H0:Hp}{w2:GA}{Q:VK}{v:V}(R:RS #[a,E,B,L,H0,Rz w2 a B H0 L Kn Q E] F FS H t Kn (pure e)) (h:aw a (eU B) H e v) (nb:w2=FS->FK t≠ .bad:=by intro z;cases z):Q v H:=by
 rw[00];have w:=R.w;rw[DB] at w;have w:Rz w2 a B H0 L Kn Q E e t:=w;unfold Rz at w;rw[Fs λz=>nb z.1 z.2] at w;exact w H v n R.l S R.k h
theorem RS.tail {w2:GA}{Q:VK}{pp:FH->FH->Ft->FC Fz}{c f:FH}{ok:FH->Ft->Fn->Prop}(R:RS #[a,E,B,t.length,H,Rz w2 a B H t.length Kn Q E] F b H t Kn (pp f (12-d) Kn)) (hd:d<=12) (ho:ok d Kn t) (hf:16*t.length+c<=f):a0 a w2 pp c ok [.ref B.r, .int d] H Q E:=by
 rw[00];exact#[B,n,t,Kn,d,f,Go,hd,ho,S,hf,R.w]
theorem yi (i:FH) {g:FH->FC β}(Y:RX X Z.a Z.E) (hd:d<=12) (nb:FK t≠ .bad) (R:RS Z F b H t Kn (HH (12-d)>>=g)) (q:d<12->RS Z F b H t Kn (g (12-(d+1)))->Bd X ss D ((FB (.ref Z.B.r)::FB (.int d)::σ).set i (FB (.int ((d+1:FH):Int)))) H)
  (h:Sl X i y:=by exact#[Go,G9 rfl,Go]) (h1:X.N[1]?=FB ("depth":FY):=by rfl) (v1:oZ X.env.scope "depth":=by exact G9 rfl) (hg:Gl X "deeper":=by rfl):
  Bd X (.Assign [.Name y p0] (.Call (.Name "deeper" p1) [.Name "reader" p2, .Name "depth" p3] [] p4) p5::ss) D (FB (.ref Z.B.r)::FB (.int d)::σ) H:=by
 rw[00];obtain⟨⟨x,xp⟩,t',rfl,tok,Rc,M3,_⟩:=S.wh.first;have hW:=R.w;rw[jL] at hW;have nx:x≠ .bad:=nb;refine aN i Y.nd (h:=h) #[_,Y.call2 #[alZ Y.T Y.C,Y.hr.mono [01],Y.T.d_f.c,hg] (dX h1 v1) [01] rfl,Z.B.r,Z.B.q,Z.B.kd,Z.B.fn,Z.B.ds,Z.B.bl,n,(x,xp),t',d,Go,S.rd,λe=>?_,λe=>?_]
 ·rw[Fs nx]
  exact fK (p:=HH (12-d)) (n:=6) (by unfold HH;rw[Fv (by lia)]) nb hW H R.k
 ·have ed:HH (12-d) ((x,xp)::t')= .ok (12-(d+1),(x,xp)::t'):=by unfold HH;rw[Fs (by lia),show 12-d-1=12-(d+1) by lia]
  rw[zX ed] at hW;exact q (by lia) #[R.S,R.k,R.f,R.l,hW]
def En (Z:Zf β) (g:Fz->FC β):Prop:= ∀e r,FK r= .bad->W (g e) r Z.Ro (QE Z.a Z.B Z.H0 Z.E)->QE Z.a Z.B Z.H0 Z.E 1 (IA r)
theorem m6 {g:Fz->FC β}(h: ∀e,aL (g e)):En Z g:=λe _ nb w=>(h e).L4 nb w
theorem ami {H0:Hp}{Q:VK}{g:Fz->Fz} :En #[a,E,B,L,H0,Rz FS a B H0 L Kn Q E] (λy=>pure (g y)):=λe r nb w=>by
 rw[DB] at w;have w:Rz FS a B H0 L Kn Q E (g e) r:=w;unfold Rz at w;rw[Fv #[Go,nb]] at w;exact w
theorem RS.U2 {w2:GA}{g:Fz->FC β}{pp:FH->FH->Ft->FC Fz}{c f:FH}{ok:FH->Ft->Fn->Prop}{Q:VK}(R:RS Z F b H t Kn (pp f (12-d) Kn>>=g)) (st:w2=FS->En Z g) (hd:d<=12) (ho:ok d Kn t) (hf:16*t.length+c<=f)
  (q: ∀e v H' t',(w2=FS->FK t'≠ .bad)->RS Z ((.e e,v)::F) FS H' t' Kn (g e)->Q v H'):a0 Z.a w2 pp c ok [.ref Z.B.r, .int d] H Q Z.E:=by
 rw[00];have hW:=R.w;rw[jL] at hW;have l:t.length<=Z.L:=FV (Ka _ _) R.l;refine#[Z.B,n,t,Kn,d,f,Go,hd,ho,S,hf,hW.mono (λe r w=>?_) λ_ _ z H' k=>z H' (R.k.trans k)];unfold Rz;by_cases nb:w2=FS/\FK r= .bad
 ·rw[Fv nb]
  exact λH' k=>st nb.1 e r nb.2 w H' (R.k.trans k)
 ·rw[Fs nb]
  exact λH' v n' l' S' k' h=>q e v H' r (λh z=>nb #[h,z]) ((R.go (b':=FS) S' k' (show r.length+1<=Z.L by lia) w).and h)
theorem RS.call {g:Fz->FC β}{pp:FH->FH->Ft->FC Fz}{c f:FH}{ok:FH->Ft->Fn->Prop}{Q:VK}(R:RS Z F b H t Kn (pp f (12-d) Kn>>=g)) (st:En Z g) (hd:d<=12) (ho:ok d Kn t) (hf:16*t.length+c<=f)
  (q: ∀e v H' t',FK t'≠ .bad->RS Z ((.e e,v)::F) FS H' t' Kn (g e)->Q v H'):a0 Z.a FS pp c ok [.ref Z.B.r, .int d] H Q Z.E:=R.U2 (λ_=>st) hd ho hf λe v H' t' nb=>q e v H' t' (nb rfl)
theorem RS.aip {g:Fz->FC β}{pp:FH->FH->Ft->FC Fz}{c f:FH}{ok:FH->Ft->Fn->Prop}{Q:VK}(R:RS Z F b H t Kn (pp f (12-d) Kn>>=g)) (hd:d<=12) (ho:ok d Kn t) (hf:16*t.length+c<=f)
  (q: ∀e v H' t',RS Z ((.e e,v)::F) FS H' t' Kn (g e)->Q v H'):a0 Z.a Gc pp c ok [.ref Z.B.r, .int d] H Q Z.E:=R.U2 (λz=>nomatch z) hd ho hf λe v H' t' _=>q e v H' t'
theorem eF (i:FH) {x:FY}{g:Fz->FC β}{pp:FH->FH->Ft->FC Fz}{c f:FH}{ok:FH->Ft->Fn->Prop}{te:TE}(Y:RX X Z.a Z.E) (cl:CB X x ["reader","depth"] (a0 Z.a FS pp c ok)) (he:PE X e te) (hv: ∀Q:VK,Q (.int d) H->te (FB (.ref Z.B.r)::σ) H Q)
  (R:RS Z F FS H t Kn (pp f (12-d) Kn>>=g)) (st:En Z g) (hd:d<=12) (ho:ok d Kn t) (hf:16*Z.L+c<=f+16)
  (q: ∀e v H' t',RS Z ((.e e,v)::F) FS H' t' Kn (g e)->Bd X ss D ((FB (.ref Z.B.r)::σ).set i (FB v)) H')
  (h:Sl X i y:=by exact#[Go,G9 rfl,Go]) (hx:(x == [003])=Gc:=by decide) (KH:FU [e] X.env=[[001]]:=by rfl):
  Bd X (.Assign [.Name y p0] (.Call (.Name x p1) [.Name "reader" p2,e] [] p4) p5::ss) D (FB (.ref Z.B.r)::σ) H:=by
 have l:t.length+1<=Z.L:=R.l;refine aN i Y.nd #[_,Y.call2 cl he hx KH,?_] h;exact hv _ (R.call st hd ho (by lia) λe v H' t' _ R'=>q e v H' t' R')
theorem RX.make {c:FY}{C:Fq}{fs:Fh FY}{e:HM}{es:Fh HM}{tt:TA}(Y:RX X a E) (nb:NB X c C fs) (ha:PA X (e::es) tt) (hg:Gl X c) (hx:(c == [003])=Gc) (he:FU (e::es) X.env=[001]::FU es X.env) (M3:(Jf p4 (FU es X.env)).any (·.1)=Gc):
  PE X (.Call (.Name c p1) (e::es) [] p4) (Ce C (lG C fs) [] E0 tt):=by
 obtain⟨M,G,b,hm⟩:=nb;exact g7 M G (Y.hr.mono [01]) hg hm b .nil aT ha hx he M3
theorem jK {c:FY}{C:Fq}{fs:Fh FY}{e:HM}{es:Fh HM}{Q:VK}(Y:RX X a E) (nb:NB X c C fs) (q:Pa X (e::es) σ H λws H1=> ∀x dx,H1 x=FM->H1 dx=FM->dx≠x->lG C fs (.ref x::(ws++[])) (aF (aF H1 dx (.own x)) x (.ins C dx [])) (λv H2=>v= .IX/\Q (.ref x) H2) E0)
  (hg:Gl X c:=by rfl) (hx:(c == [003])=Gc:=by decide) (he:FU (e::es) X.env=[001]::FU es X.env:=by rfl) (M3:(Jf p4 (FU es X.env)).any (·.1)=Gc:=by rfl):Pe X (.Call (.Name c p1) (e::es) [] p4) σ H Q:=#[_,Y.make nb tm hg hx he M3,q]
theorem RS.new {p:FC β}{Q:VK}(R:RS Z F b H t Kn p) (hl:ws.length=fs.length) (q: ∀u H',bJ (eU Z.B) H' C (fs.zip ws) u->RS Z F b H' t Kn p->Q u H'):
  ∀x dx,H x=FM->H dx=FM->dx≠x->lG C fs (.ref x::(ws++[])) (aF (aF H dx (.own x)) x (.ins C dx [])) (λv H2=>v= .IX/\Q (.ref x) H2) E0:=λx dx hx Vo ne=>by
 rw[00];refine#[x,dx,ws++[],Go,by rw[GV];exact hl,ae,λH' h1 h2=>#[Go,?_]];rw[GV] at h1;have sm:aS H H':=λb o e=>h2 b o (by rw[ac (ai e hx),ac (ai e Vo)];exact e) (ai e hx);exact q _ H' #[x,dx,Go,S.fresh hx,h1] (R.go (S.same sm) (OS.aS.keeps sm) R.l R.w)
theorem ic {p:FC β}{c:FY}(Y:RX X Z.a Z.E) (nb:NB X c C fs) (ha:PA X (e::es) tt) (hv: ∀Q:Fh V->Hp->Prop,Q ws H->tt σ H Q) (R:RS Z F b H t Kn p) (hl:ws.length=fs.length) (q: ∀u H',bJ (eU Z.B) H' C (fs.zip ws) u->RS Z F b H' t Kn p->D.rt u H')
  (hg:Gl X c:=by rfl) (hx:(c == [003])=Gc:=by decide) (he:FU (e::es) X.env=[001]::FU es X.env:=by rfl) (M3:(Jf p4 (FU es X.env)).any (·.1)=Gc:=by rfl):
  Bd X [.Return (FB (.Call (.Name c p1) (e::es) [] p4)) p5] D σ H:=eu (aJ (Y.make nb ha hg hx he M3)) (hv _ (R.new hl q))
end
theorem yf:d7 "(" (Fj "("):=[008]
theorem vQ:d7 ")" (Fj ")"):=[008]
theorem uH:cX "sum" (Fj "sum"):=[007]
theorem Y3:cX "in" (Fj "in"):=[007]
theorem Y4:d7 ".." (Fj ".."):=[008]
theorem Y5:d7 ":" (Fj ":"):=[008]
theorem tQ {Kn:Ft}{t:Fn} :GU (f+1) d Kn ((.word (Fj "sum"),xp)::t)=
  (HH d>>=λe=>GL>>=λ_=>Gm "(">>=λ_=>GY Kn>>=λx=>Hx "in">>=λ_=>FZ f e Kn>>=λlo=>Gm "..">>=λ_=>FZ f e Kn>>=λhi=>Gm ":">>=λ_=>
   FZ f e (Kn.with x)>>=λy=>Gm ")">>=λ_=>pure (.sum x lo hi y):FC Fz) ((.word (Fj "sum"),xp)::t):=by
 rw[GU];show(if Fj "sum"=Fj "sum" then _ else _)=_
 rw[Fv rfl]
theorem xH:cX "if" (Fj "if"):=[007]
theorem Em:cX "then" (Fj "then"):=[007]
theorem qV:cX "else" (Fj "else"):=[007]
theorem E8 {Kn:Ft}{t:Fn} :FZ (f+1) d Kn ((.word (Fj "if"),xp)::t)=
  (HH d>>=λe=>GL>>=λ_=>FZ f e Kn>>=λc=>Hx "then">>=λ_=>FZ f e Kn>>=λx=>Hx "else">>=λ_=>FZ f e Kn>>=λy=>pure (.pick c x y):FC Fz) ((.word (Fj "if"),xp)::t):=by
 rw[FZ];show(if FD ((.word (Fj "if"),xp)::t) "if"=FS then _ else _)=_
 rw[Fv (by unfold FD;exact Hf _)]
theorem uL {Kn:Ft}{t:Fn} :GU (f+1) d Kn ((.sign (Fj "("),xp)::t)=
  (HH d>>=λe=>GL>>=λ_=>FZ f e Kn>>=λx=>Gm ")">>=λ_=>pure x:FC Fz) ((.sign (Fj "("),xp)::t):=by
 rw[GU];show(if Gn ((.sign (Fj "("),xp)::t) "("=FS then _ else _)=_
 rw[Fv (by unfold Gn;exact Hf _)]
theorem eY {β:Type}{Z:Zf β}{F:Fh (Fk×V)}{b:GA}{H:Hp}{t:Fn}{Kn:Ft}{p:FC β}(R:RS Z F b H t Kn p) (h:FK t= .word u): ∃xp r,t=(.word u,xp)::r:=by
 rw[00];obtain⟨⟨x,xp⟩,r,rfl,_,_,_,_⟩:=S.wh.first;exact#[xp,r,by rw[show x= .word u from h]]
theorem xl {β:Type}{Z:Zf β}{F:Fh (Fk×V)}{b:GA}{H:Hp}{t:Fn}{Kn:Ft}{p:FC β}(R:RS Z F b H t Kn p) (h:FK t= .sign u): ∃xp r,t=(.sign u,xp)::r:=by
 rw[00];obtain⟨⟨x,xp⟩,r,rfl,_,_,_,_⟩:=S.wh.first;exact#[xp,r,by rw[show x= .sign u from h]]
theorem Cp (h:16*L+c<=f) (hc:6<=c): ∃g,f=g+1/\16*L+12<=g+16:=#[f-1,by lia,by lia]
section
variable {β:Type}{Z:Zf β}{H:Hp}
theorem iO {g:Nj->FC β}(Y:RX X Z.a Z.E) (l:cX v (Fj s)) (R:RS Z F b H ((.word (Fj s),xp)::t) Kn (GL>>=g)) (q: ∀H' t',RS Z F FS H' t' Kn (g ())->Bd X ss D (FB (.ref Z.B.r)::σ) H') (hp:iA p2 p4:=by rfl):
  Bd X (.Expr (.Call (.Attribute [005] "expect" p2) [.Constant (.str v) j p3] [] p4) p5::ss) D (FB (.ref Z.B.r)::σ) H:=
 rH Y R (λr e ok=>by
  cases e;exact B7 t (by rw[b7 ok l];exact Hf _) (by intro z;cases z) (by intro z;cases z with|inl z=>cases z|inr z=>cases z)) q hp
theorem Dc {g:Nj->FC β}(Y:RX X Z.a Z.E) (l:d7 v (Fj s)) (R:RS Z F b H ((.sign (Fj s),xp)::t) Kn (GL>>=g)) (q: ∀H' t',RS Z F FS H' t' Kn (g ())->Bd X ss D (FB (.ref Z.B.r)::σ) H') (hp:iA p2 p4:=by rfl):
  Bd X (.Expr (.Call (.Attribute [005] "expect" p2) [.Constant (.str v) j p3] [] p4) p5::ss) D (FB (.ref Z.B.r)::σ) H:=
 rH Y R (λr e ok=>by
  cases e;exact B7 t (by rw[cP ok l];exact Hf _) (by intro z;cases z) (by intro z;cases z with|inl z=>cases z|inr z=>cases z)) q hp
end
theorem aiq (T:aU K mg a) (XC:XT K a) (hk:8<=k)
  (G:T.SV.O P w base k (a0 a FS FZ 12 (Lv j))):
  T.Xo.O P w base (k+1) (a0 a Gc GU 6 (LvW (j+1) (Fj "sum"))):=by
 refine uO T XC hk T.Xo.F ahm λHb A outer s H B t Kn d fuel Q E hr hd ho hf hm=>?_;intro X D Z Y R;obtain⟨hl,h0⟩:=ho;obtain⟨xp,r,rfl⟩:=eY R h0;obtain⟨f,rfl,hF⟩:=Cp hf [01];have c:CB X "read_exp" ["reader","depth"] (a0 a FS FZ 12 (Lv j)):=#[G,hr,T.SV.c,Go];have hl:13<=d+1+j:=by rw[Nh];exact hl
 refine yi 2 Y hd (by intro z;cases z) (R.as tQ) λlt R=>?_;refine iO Y uH R λH t R=>?_;refine cF Y yf R λH t R=>?_;refine i8 3 Y R λu H t ft R=>?_;refine lr Y Y3 R λH t R=>?_;refine eF 4 Y c (pv 2) [05] R (m6 λx=>(bo "..").bind) lt hl hF λe1 v1 H t R=>?_;refine cF Y Y4 R λH t R=>?_;refine eF 5 Y c (pv 2) [05] R (m6 λx=>(bo ":").bind) lt hl hF λe2 v2 H t R=>?_;refine cF Y Y5 R λH t R=>?_;refine gL Y (pv 3) [05] ft hm R λH R=>?_;refine eF 6 Y c (pv 2) [05] R (m6 λx=>(bo ")").bind) lt hl hF λe3 v3 H t R=>?_;refine kX Y (pv 3) [05] ft R λH R=>?_;refine cF Y vQ R λH t R=>?_;refine ic Y (abm T) (aa (pv 3) (aa (pv 4) (aa (pv 5) (aa (pv 6) ag)))) [05] R rfl λu H i R=>R.done ?_;unfold aw;exact#[v1,v2,v3,i,R.f (i:=2) rfl,R.f (i:=1) rfl,R.f (i:=0) rfl]
theorem air (T:aU K mg a) (XC:XT K a) (hk:8<=k)
  (G:T.SV.O P w base k (a0 a FS FZ 12 (Lv j))):
  T.Xn.O P w base (k+1) (a0 a Gc GU 6 (LvS (j+1) (Fj "("))):=by
 refine uO T XC hk T.Xn.F ahl λHb A outer s H B t Kn d fuel Q E hr hd ho hf hm=>?_;intro X D Z Y R;obtain⟨hl,h0⟩:=ho;obtain⟨xp,r,rfl⟩:=xl R h0;obtain⟨f,rfl,hF⟩:=Cp hf [01];have c:CB X "read_exp" ["reader","depth"] (a0 a FS FZ 12 (Lv j)):=#[G,hr,T.SV.c,Go];have hl:13<=d+1+j:=by rw[Nh];exact hl
 refine yi 2 Y hd (by intro z;cases z) (R.as uL) λlt R=>?_;refine Dc Y yf R λH t R=>?_;refine eF 3 Y c (pv 2) [05] R (m6 λx=>(bo ")").bind) lt hl hF λe v H t R=>?_;refine cF Y vQ R λH t R=>?_;exact aM (bD 3 (R.done (R.f (i:=0) rfl)))
theorem ais (T:aU K mg a) (XC:XT K a) (hk:8<=k)
  (G:T.SV.O P w base k (a0 a FS FZ 12 (Lv j))):
  T.Xl.O P w base (k+1) (a0 a FS FZ 12 (LvW (j+1) (Fj "if"))):=by
 refine uO T XC hk T.Xl.F ahi λHb A outer s H B t Kn d fuel Q E hr hd ho hf hm=>?_;intro X D Z Y R;obtain⟨hl,h0⟩:=ho;obtain⟨xp,r,rfl⟩:=eY R h0;obtain⟨f,rfl,hF⟩:=Cp hf [01];have c:CB X "read_exp" ["reader","depth"] (a0 a FS FZ 12 (Lv j)):=#[G,hr,T.SV.c,Go];have hl:13<=d+1+j:=by rw[Nh];exact hl
 refine yi 2 Y hd (by intro z;cases z) (R.as E8) λlt R=>?_;refine iO Y xH R λH t R=>?_;refine eF 3 Y c (pv 2) [05] R (m6 λx=>(eS "then").bind) lt hl hF λe1 v1 H t R=>?_;refine lr Y Em R λH t R=>?_;refine eF 4 Y c (pv 2) [05] R (m6 λx=>(eS "else").bind) lt hl hF λe2 v2 H t R=>?_;refine lr Y qV R λH t R=>?_;have l:t.length+1<=Z.L:=R.l;refine aM (jK Y (yn T) (aO (bD 3 (aO (bD 4 (aO #[_,Y.call2 c (pv 2) [01] rfl,R.call ami lt hl (by lia) λe3 v3 H t nb R=>cE (R.new rfl λu H i R=>R.done ?_ λ_=>nb)]))))));unfold aw;exact#[v1,v2,v3,i,R.f (i:=2) rfl,R.f (i:=1) rfl,R.f (i:=0) rfl]
end OS
namespace OS
open Vbemac
def ors (f d:FH) (Kn:Ft):FC Fz:=do
 let x<-ands f d Kn
 let l<-moreOr f d Kn
 return (match l with
  | .nil=>x
  |l=> .either x l)
abbrev Pairs:=Fh (Gv×Exp)
def uE:Pairs->Exps->Exps
 |[],l=>l
 |x::r,l=> .cons x.2 (uE r l)
def uV:Pairs->Rest->Rest
 |[],l=>l
 |x::r,l=> .cons x.1 x.2 (uV r l)
theorem sQ:uE (es++[x]) l=uE es (.cons x.2 l):=by
 induction es with
 |nil=>rfl
 |cons y r ih=>show Exps.cons y.2 (uE (r++[x]) l)=_;rw[ih];rfl
theorem tj:uV (es++[x]) l=uV es (.cons x.1 x.2 l):=by
 induction es with
 |nil=>rfl
 |cons y r ih=>show Rest.cons y.1 y.2 (uV (r++[x]) l)=_;rw[ih];rfl
theorem bK {α β:Type}{p:P α}{g:α->P β}{x:α}(h:p t= .ok (x,r)):(p>>=g) t=g x r:=by
 show F3 p g t=_
 unfold F3;rw[h]
 rfl
theorem kO {α β:Type}{p q:P α}{g:α->P β}(e:p t=q t'):(p>>=g) t=(q>>=g) t':=by
 show F3 p g t=F3 q g t'
 unfold F3;rw[e]
structure ChP (p sub:FH->FH->Known->P Exp) (c c':FH) (sg:Fh Gv) (once:GA) (res:Exp->Pairs->Exp) where
 q:FH->FH->Known->Exp->Pairs->P Exp
 start: ∀ {fuel d:FH}{Kn:Known}{n:FH},16*n+c<=fuel-> ∃f,16*n+c'<=f/\p fuel d Kn=(sub f d Kn>>=λe=>q f d Kn e [])
 PQ: ∀f d Kn e es,hJ (q f d Kn e es)
 stop: ∀ {f d:FH}{Kn:Known}{e:Exp}{es:Pairs}{t:M0},1<=f->(once=FS->es.length<=1)->(once=FS/\es≠[]\/ ∀op,peek t= .sign op->op∉sg)->q f d Kn e es t= .ok (res e es,t)
 go: ∀ {f d:FH}{Kn:Known}{e:Exp}{es:Pairs}{x:Tok×Pos}{t:M0}{op:Gv},16*(t.length+1)+c'<=f->(once=FS->es=[])->x.1= .sign op->op∈sg-> ∃f',16*t.length+c'<=f'/\q f d Kn e es (x::t)=(sub f' d Kn>>=λe2=>q f' d Kn e (es++[(op,e2)])) t
def EZ (e:Exp):Exps->Exp
 | .nil=>e
 |l=> .either e l
def bth (e:Exp):Exps->Exp
 | .nil=>e
 |l=> .both e l
def sms (e:Exp):Rest->Exp
 | .nil=>e
 |l=> .sums e l
def oX (e:Exp):Rest->Exp
 | .nil=>e
 |l=> .prods e l
def S0:Fh Gv:=[text "||"]
def S1:Fh Gv:=[text "&&"]
def S2:Fh Gv:=["==","!=","<=",">=","<",">"].map text
def S3:Fh Gv:=["+","-"].map text
def S4:Fh Gv:=["*","/","%"].map text
theorem abG {f d:FH}{Kn:Known} :ors f d Kn=(ands f d Kn>>=λx=>moreOr f d Kn>>=λl=>pure (EZ x l):P Exp):=by
 unfold ors
 congr 1
theorem D1 {f d:FH}{Kn:Known} :ands (f+1) d Kn=(compared f d Kn>>=λx=>moreAnd f d Kn>>=λl=>pure (bth x l):P Exp):=by
 rw[ands]
 congr 1
theorem B8 {f d:FH}{Kn:Known} :added (f+1) d Kn=(times f d Kn>>=λx=>moreAdded f d Kn>>=λl=>pure (sms x l):P Exp):=by
 rw[added]
 congr 1
theorem BP {f d:FH}{Kn:Known} :times (f+1) d Kn=(unary f d Kn>>=λx=>moreTimes f d Kn>>=λl=>pure (oX x l):P Exp):=by
 rw[times]
 congr 1
theorem mL {t:M0}{s:String}{l:Fh Gv}(h: ∀op,peek t= .sign op->op∉l) (m:text s∈l):Mi t s=Gc:=by
 unfold Mi;rw[beq_eq_false_iff_ne];exact λz=>h _ z m
theorem jz (h: ∀op,peek t= .sign op->op∉l.map text):LV l t= .ok (FM,t):=by
 unfold LV;cases e:peek t with
 |sign s=>
  dsimp only;rw[Fs (by rw[Gw];exact h s e)]
 |_=>rfl
theorem lf (e:x.1= .sign op) (h:op∈l.map text):LV l (x::t)= .ok (FB op,t):=by
 unfold LV;have e:peek (x::t)= .sign op:=e;rw[e];dsimp only;rw[Fv (by rw[Gw];exact h)]
 rfl
theorem ve {f d:FH}{Kn:Known}{t:M0}(h:Mi t "||"=Gc):moreOr (f+1) d Kn t= .ok (.nil,t):=by
 rw[moreOr];show(F3 (ifSign "||") _) t=_;unfold F3 ifSign;rw[h]
 rfl
theorem sE {f d:FH}{Kn:Known}{t:M0}(h:Mi t "&&"=Gc):moreAnd (f+1) d Kn t= .ok (.nil,t):=by
 rw[moreAnd];show(F3 (ifSign "&&") _) t=_;unfold F3 ifSign;rw[h]
 rfl
theorem zK {f d:FH}{Kn:Known}{x:Tok×Pos}{t:M0}(h:Mi (x::t) "||"=FS):moreOr (f+1) d Kn (x::t)=(ands f d Kn>>=λa=>moreOr f d Kn>>=λl=>pure (.cons a l):P Exps) t:=by
 rw[moreOr];show(F3 (ifSign "||") _) (x::t)=_;unfold F3 ifSign;rw[h]
 rfl
theorem wd {f d:FH}{Kn:Known}{x:Tok×Pos}{t:M0}(h:Mi (x::t) "&&"=FS):moreAnd (f+1) d Kn (x::t)=(compared f d Kn>>=λa=>moreAnd f d Kn>>=λl=>pure (.cons a l):P Exps) t:=by
 rw[moreAnd];show(F3 (ifSign "&&") _) (x::t)=_;unfold F3 ifSign;rw[h]
 rfl
theorem pi {f d:FH}{Kn:Known}{t:M0}(h: ∀op,peek t= .sign op->op∉S3):moreAdded (f+1) d Kn t= .ok (.nil,t):=by
 rw[moreAdded];show(F3 (LV ["+","-"]) _) t=_;unfold F3;rw[jz h]
 rfl
theorem px {f d:FH}{Kn:Known}{t:M0}(h: ∀op,peek t= .sign op->op∉S4):moreTimes (f+1) d Kn t= .ok (.nil,t):=by
 rw[moreTimes];show(F3 (LV ["*","/","%"]) _) t=_;unfold F3;rw[jz h]
 rfl
theorem rJ {f d:FH}{Kn:Known}{x:Tok×Pos}{t:M0}{op:Gv}(e:x.1= .sign op) (h:op∈S3):moreAdded (f+1) d Kn (x::t)=(times f d Kn>>=λa=>moreAdded f d Kn>>=λl=>pure (.cons op a l):P Rest) t:=by
 rw[moreAdded];show(F3 (LV ["+","-"]) _) (x::t)=_;unfold F3;rw[lf e h]
 rfl
theorem qz {f d:FH}{Kn:Known}{x:Tok×Pos}{t:M0}{op:Gv}(e:x.1= .sign op) (h:op∈S4):moreTimes (f+1) d Kn (x::t)=(unary f d Kn>>=λa=>moreTimes f d Kn>>=λl=>pure (.cons op a l):P Rest) t:=by
 rw[moreTimes];show(F3 (LV ["*","/","%"]) _) (x::t)=_;unfold F3;rw[lf e h]
 rfl
def oV (f d:FH) (Kn:Known) (a:Exp):P Exp:=LV ["==","!=","<=",">=","<",">"]>>=λs=>match s with
 |none=>pure a
 |some op=>added f d Kn>>=λb=>pure (.cmp op a b)
theorem uy {f d:FH}{Kn:Known} :compared (f+1) d Kn=(added f d Kn>>=λx=>oV f d Kn x:P Exp):=by
 rw[compared]
 rfl
theorem uN (f d:FH) (Kn:Known) (a:Exp):hJ (oV f d Kn a):=(su _).bind λs=>by
 cases s with
 |none=>exact fL _
 |some op=>exact(jR f d Kn).bind.PQ
theorem zR {f d:FH}{Kn:Known}{a:Exp}{t:M0}(h: ∀op,peek t= .sign op->op∉S2):oV f d Kn a t= .ok (a,t):=by
 unfold oV;show(F3 (LV ["==","!=","<=",">=","<",">"]) _) t=_;unfold F3;rw[jz h]
 rfl
theorem BX {f d:FH}{Kn:Known}{a:Exp}{x:Tok×Pos}{t:M0}{op:Gv}(e:x.1= .sign op) (h:op∈S2):oV f d Kn a (x::t)=(added f d Kn>>=λb=>pure (.cmp op a b):P Exp) t:=by
 unfold oV;show(F3 (LV ["==","!=","<=",">=","<",">"]) _) (x::t)=_;unfold F3;rw[lf e h]
 rfl
theorem w8 {x:Tok×Pos}{t:M0}{op:Gv}{s:String}(e:x.1= .sign op) (h:op∈[text s]):Mi (x::t) s=FS:=by
 unfold Mi;obtain rfl:=FW.mp h;exact beq_iff_eq.mpr e
def amj:ChP ors ands 11 11 S0 Gc (λe es=>EZ e (uE es .nil)) where
 q f d Kn e es:=moreOr f d Kn>>=λl=>pure (EZ e (uE es l))
 start {fuel d Kn n} hf:=#[fuel,by lia,by rw[abG];rfl]
 PQ f d Kn e es:=(t9 f d Kn).bind λl=>fL _
 stop {f d Kn e es t} hf _ h:=by
  rw[03];rcases h with⟨h,_⟩|h
  ·cases h
  ·exact bK (ve (mL h (FW.mpr rfl)))
 go {f d Kn e es x t op} hf _ e1 h:=by
  rw[03];refine#[f,by lia,?_];rw[kO (zK (w8 e1 h)),bind_assoc];refine Gx (λg=>(ands f d Kn>>=g:P Exp) t) (funext λa=>?_);rw[bind_assoc];simp only[sQ]
  rfl
def ait:ChP ands compared 11 10 S1 Gc (λe es=>bth e (uE es .nil)) where
 q f d Kn e es:=moreAnd f d Kn>>=λl=>pure (bth e (uE es l))
 start {fuel d Kn n} hf:=by
  obtain⟨f,rfl⟩: ∃f',fuel=f'+1:=#[fuel-1,by lia];exact#[f,by lia,by rw[D1];rfl]
 PQ f d Kn e es:=(rN f d Kn).bind λl=>fL _
 stop {f d Kn e es t} hf _ h:=by
  rw[03];rcases h with⟨h,_⟩|h
  ·cases h
  ·exact bK (sE (mL h (FW.mpr rfl)))
 go {f d Kn e es x t op} hf _ e1 h:=by
  rw[03];refine#[f,by lia,?_];rw[kO (wd (w8 e1 h)),bind_assoc];refine Gx (λg=>(compared f d Kn>>=g:P Exp) t) (funext λa=>?_);rw[bind_assoc];simp only[sQ]
  rfl
def aiu:ChP added times 9 8 S3 Gc (λe es=>sms e (uV es .nil)) where
 q f d Kn e es:=moreAdded f d Kn>>=λl=>pure (sms e (uV es l))
 start {fuel d Kn n} hf:=by
  obtain⟨f,rfl⟩: ∃f',fuel=f'+1:=#[fuel-1,by lia];exact#[f,by lia,by rw[B8];rfl]
 PQ f d Kn e es:=(nj f d Kn).bind λl=>fL _
 stop {f d Kn e es t} hf _ h:=by
  rw[03];rcases h with⟨h,_⟩|h
  ·cases h
  ·exact bK (pi h)
 go {f d Kn e es x t op} hf _ e1 h:=by
  rw[03];refine#[f,by lia,?_];rw[kO (rJ e1 h),bind_assoc];refine Gx (λg=>(times f d Kn>>=g:P Exp) t) (funext λa=>?_);rw[bind_assoc];simp only[tj]
  rfl
def aiv:ChP times unary 8 7 S4 Gc (λe es=>oX e (uV es .nil)) where
 q f d Kn e es:=moreTimes f d Kn>>=λl=>pure (oX e (uV es l))
 start {fuel d Kn n} hf:=by
  obtain⟨f,rfl⟩: ∃f',fuel=f'+1:=#[fuel-1,by lia];exact#[f,by lia,by rw[BP];rfl]
 PQ f d Kn e es:=(oj f d Kn).bind λl=>fL _
 stop {f d Kn e es t} hf _ h:=by
  rw[03];rcases h with⟨h,_⟩|h
  ·cases h
  ·exact bK (px h)
 go {f d Kn e es x t op} hf _ e1 h:=by
  rw[03];refine#[f,by lia,?_];rw[kO (qz e1 h),bind_assoc];refine Gx (λg=>(unary f d Kn>>=g:P Exp) t) (funext λa=>?_);rw[bind_assoc];simp only[tj]
  rfl
def aiw (e:Exp):Pairs->Exp
 |[]=>e
 |x::_=> .cmp x.1 e x.2
def amk (f d:FH) (Kn:Known) (e:Exp):Pairs->P Exp
 |[]=>oV f d Kn e
 |x::_=>pure (.cmp x.1 e x.2)
def aix:ChP compared added 10 9 S2 FS aiw where
 q:=amk
 start {fuel d Kn n} hf:=by
  obtain⟨f,rfl⟩: ∃f',fuel=f'+1:=#[fuel-1,by lia];exact#[f,by lia,by rw[uy];rfl]
 PQ f d Kn e es:=by
  cases es with
  |nil=>exact uN f d Kn e
  |cons x r=>exact fL _
 stop {f d Kn e es t} hf _ h:=by
  cases es with
  |nil=>
   rcases h with⟨_,h⟩|h
   ·exact FP rfl h
   ·exact zR h
  |cons x r=>rfl
 go {f d Kn e es x t op} hf h0 e1 h:=by
  obtain rfl:=h0 rfl;exact#[f,by lia,BX e1 h]
end OS
namespace OS
open PySem PySem.Spec L2
open PyProof.Rows hiding St
variable {P:Gh}{w:GR}{K:Fm}{mg:FY->FA Fp}{base:Ha}{a:bi}
theorem Y6 {u:Fi}{xp:GD} : ¬jP (.word u,xp):=by intro z;cases z with|inl z=>cases z|inr z=>cases z
theorem nfS {u:Fi}{xp:GD} : ¬jP (.sign u,xp):=by intro z;cases z with|inl z=>cases z|inr z=>cases z
theorem nfN {xp:GD} : ¬jP (.num m,xp):=by intro z;cases z with|inl z=>cases z|inr z=>cases z
theorem ub (h:l0 x=FS): ∃m,x= .num m:=by
 cases x with
 |num m=>exact#[m,Go]
 |_=>cases h
theorem gN (h:cR x=FS): ∃u,x= .word u/\GK.contains u=Gc:=by
 cases x with
 |word u=>rw[dI] at h;exact#[u,Go,by cases e:GK.contains u;rfl;rw[e] at h;cases h]
 |_=>cases h
theorem AK {A:Type} [BEq A] [LawfulBEq A] {x y:A}(h:(x == y)=Gc):x≠y:=beq_eq_false_iff_ne.mp h
theorem sK:GU (f+1) d Kn ((.num m,xp)::t)=(GL>>=λ_=>pure (.num m):FC Fz) ((.num m,xp)::t):=by rw[GU];rfl
theorem wp (h0:l0 x=Gc) (h1:x≠ .sign (Fj "(")) (h2:x≠ .word (Fj "sum")) (h3:cR x=Gc):GU (f+1) d Kn ((x,xp)::t)=FT 2 ((x,xp)::t):=by
 rw[GU];cases x with
 |num m=>cases h0
 |sign u=>
  show(if Gn ((.sign u,xp)::t) "("=FS then _ else FT 2 ((.sign u,xp)::t))=_
  rw[Fs (show¬Gn ((.sign u,xp)::t) "("=FS from λz=>h1 (beq_iff_eq.mp z))]
 |word u=>
  rw[dI] at h3;show(if u=Fj "sum" then _ else if GK.contains u=FS then _ else _)=_
  rw[Fs λz=>h2 (by rw[z]),Fv (by cases e:GK.contains u;rw[e] at h3;cases h3;rfl)]
 |eof=>rfl
 |bad=>rfl
theorem qQ (ns:HJ u≠ .word (Fj "sum")) (hk:GK.contains u=Gc) (hf:(Kn.funs.find? λf=>f.1 == u).isSome=Gc):GU (f+1) d Kn ((.word u,xp)::t)=if Kn.values.contains u=FS then .ok (.name u,t) else FT 3 ((.word u,xp)::t):=by
 rw[GU];show(if u=Fj "sum" then _ else if GK.contains u=FS then _ else _)=_
 rw[Fs λz=>ns (by rw[z]),Fs (by rw[hk];exact Fl),FA.isSome_eq_false_iff.mp hf |> FA.isNone_iff_eq_none.mp]
 rfl
theorem aiy (T:aU K mg a) (XC:XT K a) (hk:8<=k)
  (G1:T.Xn.O P w base k (a0 a Gc GU 6 (LvS j (Fj "("))))
  (G2:T.Xo.O P w base k (a0 a Gc GU 6 (LvW j (Fj "sum"))))
  (G3:T.d_Y.O P w base k (a0 a Gc GU 6 (LvC j))):
  T.Xm.O P w base (k+1) (a0 a Gc GU 6 (Lv j)):=by
 refine uO T XC hk T.Xm.F ahk λHb A outer s H B t Kn d fuel Q E hr hd hl hf hm=>?_;intro X D Z Y R;obtain⟨⟨x,xp⟩,r,rfl⟩:=R.cons;have tok:ga x:=R.tok;have st:=iN fuel (12-d) Kn;refine bI (dv (Y2 Y T.Z9.c (rg T XC) [01] (λ_=>rfl) R st λnb=>#[_,Go,aP [015] λe0=>?_]))
 ·obtain⟨m,rfl⟩:=ub e
  obtain⟨f,rfl,_⟩:=Cp hf [01];exact aM (jK Y (yl T) (aO (iJ Y (R.as sK) nfN λH R=>cE (R.new rfl λu H i R=>R.done (by unfold aw;exact i)))))
 refine bI (dv (ji Y R nb #[_,Go,aP [015] λe1=>?_]))
 ·obtain rfl:x=_:=beq_iff_eq.mp ((cP tok yf).symm.trans e)
  exact aM #[_,Y.call2 #[G1,hr,T.Xn.c,Go] (pv 1) [01] rfl,R.tail hd #[hl,Go] hf]
 refine bI (dv (ji Y R nb #[_,Go,aP [015] λe2=>?_]))
 ·obtain rfl:x=_:=beq_iff_eq.mp ((b7 tok uH).symm.trans e)
  exact aM #[_,Y.call2 #[G2,hr,T.Xo.c,Go] (pv 1) [01] rfl,R.tail hd #[hl,Go] hf]
 have h1:=AK ((cP tok yf).symm.trans e1)
 have h2:=AK ((b7 tok uH).symm.trans e2);obtain⟨f,rfl,_⟩:=Cp hf [01];refine bF (p_g Y R st (λ_ e=>wp e0 h1 h2 e) λ_ e=>?_)
 obtain⟨u,rfl,hu⟩:=gN e;refine aN 2 Y.nd (aio Y R st λ_=>?_);refine bI (abE Y R (pv 2) [05] (aP [015] λe3=>?_))
 ·obtain⟨g,hg⟩:=K8.mp e
  exact aM #[_,Y.call2 #[G3,hr,T.d_Y.c,Go] (pv 1) [01] rfl,R.tail hd #[hl,u,g,Go,λz=>h2 (by rw[z]),hu,hg] hf]
 have ep:=qQ (f:=f) (d:=12-d) (xp:=xp) (t:=r) h2 hu e3;refine bI (abF Y R (pv 2) [05] (aP [015] λe4=>?_))
 ·refine bF (qM Y (aQ (by rfl) T.QF) R nb ?_)
  rw[VX] at e;rw[ep,e]
  rfl
 ·refine aM (jK Y (EM T) (aO (iJ Y (R.as (p':=GL>>=λ_=>pure (.name u)) ?_) Y6 λH R=>cE (R.new rfl λu H i R=>R.done (by unfold aw;exact i)))))
  rw[PU] at e4;rw[ep,e4]
  rfl
theorem aml:d7 "-" (Fj "-"):=[008]
theorem amm:d7 "!" (Fj "!"):=[008]
theorem dY {t:Fn} :Gn (x::t) s=(x.1 == .sign (Fj s)):=rfl
theorem yX {f d:FH}{Kn:Ft}{xp:GD}{t:Fn} :G8 (f+1) d Kn ((.sign (Fj "!"),xp)::t)=
  (HH d>>=λe=>GL>>=λ_=>G8 f e Kn>>=λx=>pure (.not x):FC Fz) ((.sign (Fj "!"),xp)::t):=by
 rw[G8];show(if Gn ((.sign (Fj "!"),xp)::t) "-"=FS then _ else if Gn ((.sign (Fj "!"),xp)::t) "!"=FS then _ else _)=_
 rw[Fs (by rw[dY];show¬(Jq (Fj "!") == .sign (Fj "-"))=FS;decide+kernel),Fv (by rw[dY];exact Hf _)]
theorem zk {f d:FH}{Kn:Ft}{xp:GD}{t:Fn}(h: ∀m,FK t≠ .num m):G8 (f+1) d Kn ((.sign (Fj "-"),xp)::t)=
  (HH d>>=λe=>GL>>=λ_=>G8 f e Kn>>=λx=>pure (.neg x):FC Fz) ((.sign (Fj "-"),xp)::t):=by
 rw[G8];show(if Gn ((.sign (Fj "-"),xp)::t) "-"=FS then(match FK t with
   | .num n=>_
   |_=>_) else _)=_
 rw[Fv (by rw[dY];exact Hf _)];cases e:FK t with
 |num m=>exact FP e (h m)
 |_=>rfl
theorem yO {f d m:FH}{Kn:Ft}{xp:GD}{t:Fn}(h:FK t= .num m):G8 (f+1) d Kn ((.sign (Fj "-"),xp)::t)= .ok (.neg (.num m),t.drop 1):=by
 rw[G8];show(if Gn ((.sign (Fj "-"),xp)::t) "-"=FS then(match FK t with
   | .num n=>_
   |_=>_) else _)=_
 rw[Fv (by rw[dY];exact Hf _),h]
 rfl
theorem nY {f d:FH}{Kn:Ft}{t:Fn}(h1:(x.1 == .sign (Fj "-"))=Gc) (h2:(x.1 == .sign (Fj "!"))=Gc):G8 (f+1) d Kn (x::t)=GU f d Kn (x::t):=by
 rw[G8];show(if Gn (x::t) "-"=FS then _ else if Gn (x::t) "!"=FS then _ else _)=_
 rw[Fs (by rw[dY,h1];exact Fl),Fs (by rw[dY,h2];exact Fl)]
theorem DK {f d m:FH}{Kn:Ft}{xp:GD}{t:Fn} :G8 (f+2) d Kn ((.num m,xp)::t)= .ok (.num m,t):=by
 rw[nY rfl rfl,GU]
 rfl
theorem vV {f d m:FH}{Kn:Ft}{xp:GD}{t:Fn}(hf:2<=f) (w:t≠[]) (h:FK t= .num m):G8 (f+1) d Kn ((.sign (Fj "-"),xp)::t)=(GL>>=λ_=>G8 f d Kn>>=λx=>pure (.neg x):FC Fz) ((.sign (Fj "-"),xp)::t):=by
 rw[yO h];obtain⟨g,rfl⟩: ∃g,f=g+2:=#[f-2,by lia];cases t with
 |nil=>exact FP rfl w
 |cons y r=>
  obtain⟨y,yp⟩:=y;obtain rfl:y= .num m:=h;show _=(G8 (g+2) d Kn>>=λx=>pure (.neg x):FC Fz) ((.num m,yp)::r)
  rw[bK DK]
  rfl
theorem gH (okT okC:FH->Ft->Fn->Prop) (T:aU K mg a) (XC:XT K a) (hk:8<=k)
  (h0: ∀d Kn t,okT d Kn t->13<=d+j) (h1: ∀d Kn s xp t,okT d Kn ((.sign s,xp)::t)->d<12->okC (d+1) Kn t) (h2: ∀d Kn s xp t m,okT d Kn ((.sign s,xp)::t)->FK t= .num m->okC d Kn t)
  (G1:T.Xm.O P w base k (a0 a Gc GU 6 (Lv j)))
  (G2:T.WV.O P w base k (a0 a Gc G8 7 okC)):
  T.WV.O P w base (k+1) (a0 a Gc G8 7 okT):=by
 refine uO T XC hk T.WV.F aa9 λHb A outer s H B t Kn d fuel Q E hr hd ho hf hm=>?_;intro X D Z Y R;obtain⟨⟨x,xp⟩,r,rfl⟩:=R.cons;have tok:ga x:=R.tok;have st:=kQ fuel (12-d) Kn;have vm:=cP tok aml;have vn:=cP tok amm;obtain⟨f,rfl⟩: ∃f,fuel=f+1:=#[fuel-1,by lia];rw[FG] at hf;have tail: ∀(c:Fi) (d2:FH) (mk:Fz->Fz),x= .sign c->(∀ {H:Hp}{e:Fz}{u v:V},bJ (eU B) H a.Lc [("sign",iy (.sign c)),("operand",u)] v->aw a (eU B) H e u->aw a (eU B) H (mk e) v)->d2<=12->okC d2 Kn r->
   RS Z [] Gc H ((x,xp)::r) Kn (GL>>=λ_=>G8 f (12-d2) Kn>>=λy=>pure (mk y))->Bd X ((bf s_l).drop 3) D [FB (.ref B.r),FB (.int d),FB (.int d2),FM] H:=by
  intro c d2 mk ex hmk hd2 hC R;subst ex;refine aN 3 Y.nd (iJ Y R nfS λH R=>?_);exact aM (jK Y (Bo T) (aO (bD 3 (aO #[_,Y.call2 #[G2,hr,T.WV.c,Go] (pv 2) [01] rfl,R.aip hd2 hC (by lia) λe v H t R=>cE (R.new rfl λu H i R=>R.done (hmk i (R.f (i:=0) rfl)))]))))
 refine bI (Dj (jr (dv (iC Y R st λnb=>[021]))));have vm:me "-" (FK ((x,xp)::r))=_:=vm;have vn:me "!" (FK ((x,xp)::r))=_:=vn;rw[vm];cases em:(x == Jq (Fj "-")) with
 |true=>
  obtain rfl:x=_:=beq_iff_eq.mp em;refine bM (bM ?_);refine aN 2 Y.nd (bD 1 ?_);refine bI (agc (dv (ji Y R nb [021])));rw[vn];refine bM (jr (dv (abD Y R nfS [021])));cases ey:l0 (FK r) with
  |true=>
   obtain⟨m,e⟩:=ub ey;refine bM (tail _ d _ rfl (λi h=>by unfold aw;exact#[_,i,h]) hd (h2 _ _ _ _ _ m ho e) (R.as (vV (by lia) (λz=>by rw[z] at e;cases e) e)))
  |false=>
   refine ca (yi 2 Y hd (by intro z;cases z) (R.as (zk λm z=>by rw[z] at ey;cases ey)) λlt R=>vJ ?_);exact tail _ (d+1) _ rfl (λi h=>by unfold aw;exact#[_,i,h]) lt (h1 _ _ _ _ _ ho lt) R
 |false=>
  refine ca (jr (dv (ji Y R nb [021])));rw[vn];cases en:(x == Jq (Fj "!")) with
  |true=>
   obtain rfl:x=_:=beq_iff_eq.mp en;refine bM ?_;refine aN 2 Y.nd (bD 1 ?_);refine bI (agc (dv (ji Y R nb [021])));rw[vn,en];refine ca (ca (yi 2 Y hd (by intro z;cases z) (R.as yX) λlt R=>vJ ?_));exact tail _ (d+1) _ rfl (λi h=>by unfold aw;exact#[_,i,h]) lt (h1 _ _ _ _ _ ho lt) R
  |false=>exact ca (aM #[_,Y.call2 #[G1,hr,T.Xm.c,Go] (pv 1) (by decide) rfl,RS.tail (R.as (nY em en)) hd (h0 _ _ _ ho) (by rw[FG];lia)])
def Zf.mo {β:Type}(Z:Zf β) (L:Fq) (us:Fh V):Zf β:= { Z with B:=Z.B.more L us }
theorem dg.wide {M M':Fq->Prop}{H H':Hp}(k:dg M H H') (h: ∀b,M b->M' b):dg M' H H':=λb o e m=>k b o e λz=>m (h b z)
section
variable {β:Type}{Z:Zf β}{H:Hp}{p:FC β}{Q:VK}
structure v9 (Z:Zf β) (L:Fq):Prop where
 n0:Z.H0 L=FM
 nm: ¬eU Z.B L
 nx: ∀zs,¬Z.B.bl.x L zs
 nq:L≠Z.B.q
theorem RS.nwl (R:RS Z F b H t Kn p) (h:H L=FM):v9 Z L:=by
 rw[00];have nm:=S.fresh h;refine#[?_,nm,λzs z=>(by rw[S.fr L zs z] at h;cases h),λz=>(by obtain⟨as,all,h1,_⟩:=S.rd.toks;rw[z,h1] at h;cases h)];cases e:Z.H0 L with
 |none=>rfl
 |some o=>rw[R.k L o e nm] at h;cases h
theorem RS.more {us:Fh V}(R:RS Z F b H t Kn p) (h:H L=FM):RS (Z.mo L us) F b (aF H L (.lst us)) t Kn p:=by
 rw[00];have N:=R.nwl h;have sm:aS H (aF H L (.lst us)):=bC h;refine#[#[n,(S.same sm).more ae],(R.k.trans (OS.aS.keeps sm)).wide λb=>cA,λe=>jm.Ic (λb o e m=>#[λz=>(dh z).elim (λz=>by rw[z,h] at e;cases e) m,sm b o e]) (R.f e),R.l,R.w.mono (λ_ _ z=>z) λ_ _ z H' k=>z H' λb o e m=>k b o e λz=>(dh z).elim (λz=>by rw[z,N.n0] at e;cases e) m]
theorem RS.QU (R:RS (Z.mo L us) F b H t Kn p):H L=FB (.lst us):=by
 rw[00];exact S.QU
theorem RS.push {v:V}(N:v9 Z L) (R:RS (Z.mo L us) F b H t Kn p):RS (Z.mo L (us++[v])) F b (aF H L (.lst (us++[v]))) t Kn p:=by
 rw[00];have mm: ∀c,eU (Z.B.more L us) c->eU (Z.B.more L (us++[v])) c:=λc h=>(dh h).elim (λz=>by rw[z];exact fb) λz=>cA z;have mm': ∀c,eU (Z.B.more L (us++[v])) c->eU (Z.B.more L us) c:=λc h=>(dh h).elim (λz=>by rw[z];exact fb) λz=>cA z;refine#[#[n,S.write N.nx N.nq],(R.k.wide mm).trans (eX fb),λe=>jm.Ic (λc o e m=>#[λz=>m (mm' c z),by rw[ac λz=>m (by rw[z];exact fb)];exact e]) (R.f e),R.l,R.w.mono (λ_ _ z=>z) λ_ _ z H' k=>z H' (k.wide mm')]
theorem RS.less (N:v9 Z L) (R:RS (Z.mo L us) F b H t Kn p):RS Z F b H t Kn p:=by
 rw[00];refine#[#[n,S.less],λb o e m=>R.k b o e λz=>(dh z).elim (λz=>by rw[z,N.n0] at e;cases e) m,λe=>jm.Ic (λb o e m=>#[λz=>m (cA z),e]) (R.f e),R.l,R.w.mono (λ_ _ z=>z) λ_ _ z H' k=>z H' (k.wide λb=>cA)]
theorem v9.mo (N:v9 Z L') (ne:L'≠L):v9 (Z.mo L us) L':=#[N.n0,λz=>(dh z).elim ne N.nm,λzs z=>z.elim (N.nx zs) λz=>ne z.1,N.nq]
theorem RS.swap (R:RS ((Z.mo L us).mo L' QN) F b H t Kn p):RS ((Z.mo L' QN).mo L us) F b H t Kn p:=by
 rw[00];have m1: ∀c,eU ((Z.B.more L us).more L' QN) c->eU ((Z.B.more L' QN).more L us) c:=λc h=>(dh h).elim (λz=>by rw[z];exact cA fb) λz=>(dh z).elim (λz=>by rw[z];exact fb) λz=>cA (cA z);have m2: ∀c,eU ((Z.B.more L' QN).more L us) c->eU ((Z.B.more L us).more L' QN) c:=λc h=>(dh h).elim (λz=>by rw[z];exact cA fb) λz=>(dh z).elim (λz=>by rw[z];exact fb) λz=>cA (cA z);exact#[#[n,S.rd,S.wh,S.kn,S.Tf,S.SH,S.Qh,λc zs z=>S.fr c zs (z.elim (λz=>z.elim (λz=> .inl (.inl z)) .inr) λz=> .inl (.inr z))],R.k.wide m1,λe=>jm.Ic (λc o e m=>#[λz=>m (m2 c z),e]) (R.f e),R.l,R.w.mono (λ_ _ z=>z) λ_ _ z H' k=>z H' (k.wide m2)]
theorem mt (i:FH) (Y:RX X Z.a Z.E) (R:RS Z F b H t Kn p) (q: ∀L H',v9 Z L->RS (Z.mo L []) F b H' t Kn p->Bd X ss D (σ.set i (FB (.ref L))) H') (h:Sl X i y:=by exact#[Go,G9 rfl,Go]):Bd X (.Assign [.Name y p0] (.List [] p1) p5::ss) D σ H:=
 aN i Y.nd (mw λL h=>q L _ (R.nwl h) (R.more h)) h
theorem qP {te:TE}(N:v9 Z L) (R:RS (Z.mo L us) F b H t Kn p) (he:PE X e te) (hv: ∀R:VK,R (.ref L) H->te σ H R) (q:Pe X f σ H λv H1=> ∃F' b' t' XS p',us.length<Gk/\RS (Z.mo L us) F' b' H1 t' XS p'/\(∀H2,RS (Z.mo L (us++[v])) F' b' H2 t' XS p'->Bd X ss D σ H2))
  (hb:IM e "append" X.env (eval e X.env)=eval e X.env:=by rfl) (KH:FU [f] X.env=[(Gc,eval f X.env)]:=by rfl) (hp:iA p2 p4:=by rfl):
  Bd X (.Expr (.Call (.Attribute e "append" p2) [f] [] p4) p5::ss) D σ H:=by
 refine iP he hv R.QU (q.mono λv H1 z=>?_) hb KH hp;obtain⟨F',b',t',XS,p',h1,R',h2⟩:=z;exact#[us,R'.QU,h1,h2 _ (R'.push N)]
theorem lE (Y:RX X Z.a Z.E) (R:RS Z F b H t Kn p) (lit:d7 v (Fj s)) (st:aL p) (h:Gn t s=FS->p t=FT 5 t) (q:Gn t s=Gc->Bd X ss D (FB (.ref Z.B.r)::σ) H) (hg:Gl X "refuse_here":=by rfl):
  Bd X (.Expr (.Call (.Name "refuse_here" p1) [.Name "reader" p2, .Constant (.str v) j p3] [] p4) p5::ss) D (FB (.ref Z.B.r)::σ) H:=by
 rw[00];obtain⟨x,t',rfl,tok,Rc,M3,_⟩:=S.wh.first;refine bF #[_,aI (ahM Y.T Y.C) (Y.hr.mono [01]) hg Y.T.aag.c Y.up (aa Y.rd (aa dJ ag)),Z.B.r,Z.B.q,Z.B.kd,Z.B.fn,Z.B.ds,Z.B.bl,n,x,t',v,Go,S.rd,λb=>st.L4 (Rc.trans b) R.w H R.k,λnb e=>?_,λnb e=>?_]
 ·rw[cP tok lit] at e
  exact fK (h e) nb R.w H R.k
 ·rw[cP tok lit] at e
  exact q e
end
end OS
namespace OS
open Vbemac
def cG (f e:FH) (K:Known) (m:FH):P Exps:=λu=>
 if m=0 then(if Mi u ","=FS then fail 5 u else(sign ")">>=λ_=>pure .nil:P Exps) u)
 else(if Mi u ")"=FS then fail 5 u else(sign ",">>=λ_=>arguments f e K m:P Exps) u)
def wG:Fh Exp->Exps->Exps
 |[],l=>l
 |e::r,l=> .cons e (wG r l)
theorem tN {es:Fh Exp}{x:Exp}{l:Exps} :wG (es++[x]) l=wG es (.cons x l):=by
 induction es with
 |nil=>rfl
 |cons y r ih=>show Exps.cons y (wG (r++[x]) l)=_;rw[ih];rfl
theorem dQ (f e:FH) (K:Known) (m:FH):aL (cG f e K m):=λt h=>by
 unfold cG;rw[cY h,cY h];by_cases c:m=0
 ·rw[Fv c,Fs Fl]
  exact(bo ")").bind t h
 ·rw[Fs c,Fs Fl]
  exact(bo ",").bind t h
theorem qX {f d:FH}{Kn:Known}{u:Gv}{xp:Pos}{t:M0}{g:Gv×FH}(hs:u≠text "sum") (hk:KEYS.contains u=Gc) (hf:Kn.funs.find? (λf=>f.1 == u)=FB g):
  primary (f+1) d Kn ((.word u,xp)::t)=(deeper d>>=λe=>next>>=λ_=>sign "(">>=λ_=>(if g.2=0 then(sign ")">>=λ_=>pure (.call u .nil)) else(arguments f e Kn g.2>>=λl=>pure (.call u l))):P Exp) ((.word u,xp)::t):=by
 rw[primary];show(if u=text "sum" then _ else _)=_
 rw[Fs hs,Fs (by rw[hk];exact Fl)];simp only[hf]
end OS
namespace OS
open PySem PySem.Spec L2
open PyProof.Rows hiding St
variable {P:Gh}{w:GR}{K:Fm}{mg:FY->FA Fp}{base:Ha}{a:bi}
section
open Vbemac (arguments)
theorem wU:d7 "," (Fj ","):=[008]
section
variable {α β γ:Type}{p q:FC α}{g:α->FC β}{h:β->FC γ}
theorem aX (e:p t=q t):(p>>=g) t=(q>>=g) t:=by
 show F3 p g t=F3 q g t
 unfold F3;rw[e]
end
def Zf.at {β:Type}(Z:Zf β) (l:FH):Zf β:= { Z with L:=l }
section
variable {β:Type}{Z:Zf β}{F:Fh (Fk×V)}{b:GA}{H:Hp}{t:Fn}{Kn:Ft}{p:FC β}{L:Fq}{l:FH}
theorem RS.at (R:RS Z F b H t Kn p):RS (Z.at t.length) F Gc H t Kn p:=#[R.S,R.k,R.f,FN _,R.w]
theorem RS.back (h:l<=Z.L) (R:RS (Z.at l) F FS H t Kn p):RS Z F FS H t Kn p:=#[R.S,R.k,R.f,FV R.l h,R.w]
end
theorem m7 {K:Ft}{t:Fn}(h:Gn t ","=Gc):cG f e K 0 t=(Gm ")">>=λ_=>pure .nil:FC Kc) t:=by
 unfold cG;rw[Fv rfl,Fs (by rw[h];exact Fl)]
theorem oG {K:Ft}{t:Fn}(hm:m≠0) (h:Gn t ")"=Gc):cG f e K m t=(Gm ",">>=λ_=>arguments f e K m:FC Kc) t:=by
 unfold cG;rw[Fs hm,Fs (by rw[h];exact Fl)]
theorem gY {K:Ft}{t:Fn}(h:if m=0 then Gn t ","=FS else Gn t ")"=FS):cG f e K m t=FT 5 t:=by
 unfold cG;by_cases c:m=0
 ·rw[Fv c] at h ⊢; rw[Fv h]
 ·rw[Fs c] at h ⊢; rw[Fv h]
theorem abH {K:Ft}{t:Fn}(h:Gn t ")"=FS):arguments (f+1) e K n t=FT 5 t:=by
 rw[arguments];show(if Gn t ")"=FS then _ else _)=_
 rw[Fv h]
theorem Eb {K:Ft}{t:Fn}(hn:1<=n) (h:Gn t ")"=Gc):arguments (f+1) e K n t=(FZ f e K>>=λa=>cG f e K (n-1)>>=λl=>pure (.cons a l):FC Kc) t:=by
 rw[arguments];show(if Gn t ")"=FS then _ else _)=_
 rw[Fs (by rw[h];exact Fl)];show F3 _ _ t=F3 _ _ t;unfold F3
 congr 1
 funext #[a,u]
 show(if n<=1 then _ else _:FC Kc) u=(cG f e K (n-1)>>=λl=>pure (.cons a l):FC Kc) u
 by_cases n1:n<=1
 ·rw[Fv n1,show n-1=0 by lia]
  show(if Gn u ","=FS then FT 5 u else _)=_
  by_cases c:Gn u ","=FS
  ·rw[Fv c,aX (gY (by rw[Fv rfl];exact c))]
   rfl
  ·rw[Fs c,aX (m7 (by cases h:Gn u ",";rfl;exact FP h c)),bind_assoc]
   rfl
 ·rw[Fs n1]
  show(if Gn u ")"=FS then FT 5 u else _)=_
  by_cases c:Gn u ")"=FS
  ·rw[Fv c,aX (gY (by rw[Fs (by lia)];exact c))]
   rfl
  ·rw[Fs c,aX (oG (by lia) (by cases h:Gn u ")";rfl;exact FP h c)),bind_assoc]
def xU (f e:FH) (Kn:Ft) (u:Fi) (wanted:FH):Fh Fz->FC Fz
 |[]=>if wanted=0 then(Gm ")">>=λ_=>pure (.call u .nil)) else(arguments f e Kn wanted>>=λl=>pure (.call u l))
 |x::es=>cG f e Kn (wanted-(x::es).length)>>=λl=>pure (.call u (wG (x::es) l))
theorem vj {f e w:FH}{Kn:Ft}{t:Fn}(lt:es.length<w) (hc:Gn t ")"=Gc):
  (arguments (f+1) e Kn (w-es.length)>>=λl=>pure (.call u (wG es l)):FC Fz) t=(FZ f e Kn>>=λa=>xU f e Kn u w (es++[a])) t:=by
 rw[aX (Eb (by lia) hc),bind_assoc];refine Gx (λg=>(FZ f e Kn>>=g:FC Fz) t) (funext λa=>?_);rw[bind_assoc];have n:w-es.length-1=w-(es++[a]).length:=by rw[FR,JF];lia
 have e1:(λl=>(pure (T4 u (wG es (.cons a l))):FC Fz))=λl=>pure (.call u (wG (es++[a]) l)):=funext λl=>by rw[tN]
 rw[n];show(cG f e Kn _>>=λl=>(pure (T4 u (wG es (.cons a l))):FC Fz))=_
 rw[e1];cases es with
 |nil=>rfl
 |cons y r=>rfl
abbrev fkE (ps:Fh (Fz×V)):Fh (Fk×V):=ps.map λx=>(.e x.1,x.2)
theorem wZ {a:bi}{M:Fq->Prop}{H:Hp}{l:Kc}{ws:Fh V}(hl:cu a M H l ws): ∀ {ps:Fh (Fz×V)},(∀ {i:FH}{x:Fk×V},(fkE ps)[i]?=FB x->jm a M H x)->cu a M H (wG (ps.map (·.1)).reverse l) ((ps.map (·.2)).reverse++ws)
 |[],_=>hl
 | (e,v)::ps,h=>by
  rw[FX,FX,GZ,GZ,tN,GN];refine wZ (l:= .cons e l) ?_ λ{i x} q=>h (i:=i+1) q;unfold cu;exact#[v,ws,Go,h (i:=0) rfl,hl]
theorem oi {Z:Zf Fz}{F:Fh (Fk×V)}{b:GA}{H:Hp}{t:Fn}{Kn K:Ft}{f e w:FH}{u:Fi}{x:Fz×V}{r:Fh (Fz×V)}(R:RS Z F b H t Kn (xU f e K u w ((x::r).map (·.1)).reverse)):RS Z F b H t Kn (cG f e K (w-((x::r).map (·.1)).reverse.length)>>=λl=>pure (.call u (wG ((x::r).map (·.1)).reverse l))):=by
 cases h:((x::r).map (·.1)).reverse with
 |nil=>rw[Fh.reverse_eq_nil_iff] at h;cases h
 |cons y l=>rw[h] at R;exact R
theorem aiz {b:GA}{A B:Prop}(e:b=FS) (h:A):if b=FS then A else B:=by rw[Fv e];exact h
theorem rj (f e:FH) (K:Ft) (u:Fi) (w:FH) (es:Fh Fz) (x:Fz):aL (xU f e K u w (es++[x])):=by
 cases es with
 |nil=>exact(dQ _ _ _ _).bind
 |cons y r=>exact(dQ _ _ _ _).bind
theorem aiA {β:Type}{Z:Zf β}{F:Fh (Fk×V)}{b:GA}{H:Hp}{t:Fn}{Kn:Ft}{p:FC β}{Q:VK}{te:TE}{g:Fi×FH}(Y:RX X Z.a Z.E) (R:RS Z F b H t Kn p) (he:PE X e te) (hv: ∀Q:VK,Q (.str (sb u)) H->te (FB (.ref Z.B.r)::σ) H Q) (hg:Kn.funs.find? (λf=>f.1 == u)=FB g) (q:Q (.int (g.2:FH)) H) (hs:EN e:=by exact λ_ _=>rfl):
  Pe X (.Subscript (.Attribute [005] "functions" p2) e p3) (FB (.ref Z.B.r)::σ) H Q:=by
 rw[00];rw[02];obtain⟨ff,f1,f2⟩:=S.kn.funs;have f2:=f2 u;rw[hg] at f2;exact#[_,kh (dz Y.hr) (aj Y.rd rfl) he hs,Z.B.r,_,dr,_,_,Go,er,Y.T.Gj,Y.T.IY,Go,hv _ #[Z.B.fn,_,Go, .inl #[ff,nk u, .inl f1,Go,f2.symm],q]]
inductive Y7 (Z:Zf Fz) (L:Fq) (Kn:Ft) (u:Fi) (w e:FH) (σ0:L2.St) (m:FH) (σ:L2.St) (H:Hp):Prop
 |mk (ps:Fh (Fz×V)) (t:Fn) (f:FH) (_:m=w-ps.length) (_:σ=σ0) (_:ps.length<=w) (_:ps.length+t.length<=Z.L) (_:16*t.length+12<=f) (_:ps=[]->16*t.length+13<=f) (_:RS (Z.mo L (ps.map (·.2)).reverse) (fkE ps) FS H t Kn (xU f e Kn u w (ps.map (·.1)).reverse)):Y7 Z L Kn u w e σ0 m σ H
inductive aiB (Z:Zf Fz) (L:Fq) (Kn:Ft) (u:Fi) (w e:FH) (σ0:L2.St) (ps:Fh (Fz×V)) (l:FH) (σ:L2.St) (H:Hp):Prop
 |mk (t:Fn) (f:FH) (_:σ=σ0) (_:t.length<=l) (_:16*t.length+12<=f) (_:RS (Z.mo L (ps.map (·.2)).reverse) (fkE ps) FS H t Kn (arguments (f+1) e Kn (w-(ps.map (·.1)).reverse.length)>>=λl=>pure (.call u (wG (ps.map (·.1)).reverse l)))):aiB Z L Kn u w e σ0 ps l σ H
section
variable {k j:FH}
theorem amn (T:aU K mg a) (XC:XT K a) (hk:8<=k)
  (G:T.SV.O P w base k (a0 a FS FZ 12 (Lv j))):
  T.d_Y.O P w base (k+1) (a0 a Gc GU 6 (LvC (j+1))):=by
 refine uO T XC hk T.d_Y.F alG λHb A outer s H B t Kn d fuel Q E hr hd ho hf hm=>?_;intro X D Z Y R;obtain⟨hl,u,g,h0,hs,hu,hg⟩:=ho;obtain⟨xp,r,rfl⟩:=eY R h0;obtain⟨f,rfl⟩: ∃f,fuel=f+1:=#[fuel-1,by lia];have c:CB X "read_exp" ["reader","depth"] (a0 a FS FZ 12 (Lv j)):=#[G,hr,T.SV.c,Go];have hl:13<=d+1+j:=by rw[Nh];exact hl
 refine yi 2 Y hd (by intro z;cases z) (R.as (qX hs hu hg)) λlt R=>?_;refine aN 3 Y.nd (iJ Y R Y6 λH R=>?_);refine cF Y yf R λH t R=>?_;have l1:t.length+1<=Z.L:=R.l;refine aN 4 Y.nd (aiA Y R (pv 3) [05] hg ?_);refine mt 5 Y R λL H N R=>?_;have hL:(r.length+1:FH)<=Z.L:=FN _;have hm:Kn.values.length+Z.L<=4000:=hm;have hf:16*Z.L+6<=f+1:=hf;refine f7 Y.lv (Y7 Z L Kn u g.2 (12-(d+1)) [FB (.ref B.r),FB (.int d),FB (.int ((d+1:FH):Int)),FB (.str (sb u)),FB (.int (g.2:FH)),FB (.ref L)]) _ #[[],t,f,Go,Go,F6 _,by show 0+t.length<=_;lia,by lia,λ_=>by lia,R] ?_;rintro m σ H ⟨ps,t,f,rfl,rfl,h1,h2,h3,h4,R⟩;refine cU kG (iH T.J8 R.QU (pv 5) [05] (bD 4 #[_,_,Go,Go,_,Go,aP [015] λe=>?_]))
 ·have lt':ps.length<g.2:=by have:=Ga e;rw[GS,FE] at this;lia
  have len:((ps.map (·.1)).reverse:Fh Fz).length=ps.length:=by rw[GS,FE]
  refine gi (aiB Z L Kn u g.2 (12-(d+1)) [FB (.ref B.r),FB (.int d),FB (.int ((d+1:FH):Int)),FB (.str (sb u)),FB (.int (g.2:FH)),FB (.ref L)] ps t.length) ?_ ?_
  ·rintro σ H ⟨t1,f1,rfl,l1,hf1,R⟩
   refine lE Y R vQ (lD _ _ _ _).bind (λh=>(aX (abH h)).trans rfl) λhc=>?_;have R:=R.as (vj (by rw[len];exact lt') hc);refine qP N R (pv 5) [05] #[_,Y.call2 c (pv 2) [01] rfl,R.at.call (m6 λx=>rj _ _ _ _ _ _ _) lt hl (by lia) λe1 v1 H t2 _ R2=>#[_,_,_,_,_,by rw[GS,FE];exact Gr (show ps.length<=4000 by lia) [01],RS.back (Z:=Z.mo L _) (l:=t1.length) (by show t1.length<=Z.L;lia) R2,λH3 R3=>?_]];have l2:t2.length+1<=t1.length:=R2.l;refine gt #[_,(show g.2-((e1,v1)::ps).length<g.2-ps.length by rw[FG];lia),(e1,v1)::ps,t2,f1,Go,Go,(by rw[FG];lia),(by rw[FG];lia),(by lia),(λz=>nomatch z),?_]
   rw[FX,FX,GZ,GZ];exact R3
  ·refine cU gk (iH T.J8 R.QU (pv 5) [05] (cM #[_,_,Go,Go,_,Go,?_]))
   cases ps with
   |nil=>
    refine bM ?_;have R:RS _ (fkE []) FS H t Kn (if g.2=0 then _ else _):=R
    rw[Fs (by have:0<g.2:=lt';lia)] at R;rw[03];exact#[t,f,Go,FN _,FH.le_of_succ_le_succ (h4 rfl),R]
   |cons x r=>
    refine aiz (GQ (by rw[GS,FE,FG];lia)) ?_;have R:=oi R;refine lE Y R vQ (dQ _ _ _ _).bind (λh=>(aX (gY (by rw[Fs (by rw[len];lia)];exact h))).trans rfl) λhc=>?_;refine cF (Z:=(Z.mo L ((x::r).map (·.2)).reverse).at t.length) Y wU (R.at.as ((aX (oG (by rw[len];lia) hc)).trans (congrFun (bind_assoc _ _ _) t))) λH t2 R2=>cf ?_;have l2:t2.length+1<=t.length:=R2.l;rw[03];exact#[t2,f,Go,by lia,by lia,RS.back (Z:=Z.mo L _) (l:=t.length) (by show t.length<=Z.L;lia) R2]
 ·have eq:ps.length=g.2:=by have:=Gf e;rw[GS,FE] at this;lia
  have len:((ps.map (·.1)).reverse:Fh Fz).length=ps.length:=by rw[GS,FE]
  have R:RS (Z.mo L (ps.map (·.2)).reverse) (fkE ps) FS H t Kn (if g.2=0 then(Gm ")">>=λ_=>pure (.call u .nil)) else(cG f (12-(d+1)) Kn 0>>=λl=>pure (.call u (wG (ps.map (·.1)).reverse l)))):=by
   cases ps with
   |nil=>
    have h0:g.2=0:=eq.symm
    have R:RS _ (fkE []) FS H t Kn (if g.2=0 then _ else _):=R
    rw[Fv h0] at R ⊢;exact R
   |cons x r=>
    have R:=oi R;rw[len,eq,QI] at R;rw[Fs (by rw[<-eq,FG];lia)];exact R
  have eN:RS (Z.mo L (ps.map (·.2)).reverse) (fkE ps) FS H t Kn (Gm ")">>=λ_=>pure (.call u (wG (ps.map (·.1)).reverse .nil)))->Bd X ((bf s_Y).drop 7) D [FB (.ref B.r),FB (.int d),FB (.int ((d+1:FH):Int)),FB (.str (sb u)),FB (.int (g.2:FH)),FB (.ref L)] H:=λR=>by
   refine cF Y vQ R λH t R=>?_;have hL:=R.QU;refine aM (jK Y (Ec T) (aO (bD 3 (aO (bD 5 (cE (R.new rfl λv H i R=>?_)))))));have hL:=R.QU;have R:=R.less N;refine R.done ?_;unfold aw;refine#[.ref L,_,bJ.keep (λb o e m=>#[λz=>m (cA z),e]) i,#[L,Go,N.nm,hL],?_];have:=wZ (l:= .nil) (ws:=[]) (by unfold cu;rfl) R.f;rw[GV] at this;exact this
  refine bI (cU gk (bD 4 (cM #[_,_,Go,Go,_,Go,aP [015] λe=>?_])))
  ·have h0:g.2≠0:=by have:=Ga e;lia
   rw[Fs h0] at R;refine lE Y R wU (dQ _ _ _ _).bind (λh=>(aX (gY (by rw[Fv rfl];exact h))).trans rfl) λhc=>vJ (eN (R.as ?_));exact(aX (m7 hc)).trans (congrFun (bind_assoc _ _ _) t)
  ·have h0:g.2=0:=by have:=Gf e;lia
   rw[Fv h0] at R;obtain rfl:ps=[]:=NY.mp (eq.trans h0);exact eN R
end
end
theorem lU {α β:Type}{F:α->β->Prop} : ∀ {l:Fh α}{m:Fh β}{i:FH}{y:β},Paired F l m->m[i]?=FB y-> ∃x,l[i]?=FB x/\F x y
 |_,_,_,_, .nil,h=>by cases h
 |_,_,0,_, .cons r t,h=>#[_,Go,by obtain rfl:=FL h;exact r]
 |_,_,i+1,_, .cons r t,h=>lU (i:=i) t h
theorem Ac.row {K:Fm}{ad:Fq}{i:FH}{xs:Fh V}{H:Hp}(h:Ac K ad dj) (e:dj[i]?=FB xs): ∃qs:Fh Fq,qs.length=5/\rc K H ad (qs.map V.ref)/\ ∃q,Ab (qs.map V.ref) (i:FH)=FB (.ref q)/\rc K H q xs:=by
 obtain⟨qs,h1,h2⟩:=h;obtain⟨q,hq,hk⟩:=lU h2 e;refine#[qs,aV h2,h1.sq,q,?_,hk.sq];refine bB ?_;rw[GB,hq]
 rfl
theorem AC {x:GO}(tok:ga x) {sg:Fh Fi}(hs: ∀o∈sg,o∈GP) (h:uA (iy x) (sg.map λo=>V.str (dM o))=FS): ∃op∈sg,x= .sign op:=by
 unfold uA at h;rw[Tz,Mf] at h;obtain⟨o,ho,e⟩:=h;refine#[o,ho,(ud tok (x:=dM o) #[Go,hs o ho]).mp ?_];have e:Fd (V.str (dM o)) (iy x)=FS:=e;cases x with
 |word u=>exact Gx FB (beq_iff_eq.mp (show(dM o == sb u)=FS from e)).symm
 |num n=>cases (show Gc=FS from e)
 |sign u=>exact Gx FB (beq_iff_eq.mp (show(dM o == dM u)=FS from e)).symm
 |eof=>exact Gx FB (beq_iff_eq.mp (show(dM o == sb [])=FS from e)).symm
 |bad=>exact Gx FB (beq_iff_eq.mp (show(dM o == sb [])=FS from e)).symm
theorem C7 {op:Fi}{sg:Fh Fi}(h:op∈sg):uA (iy (.sign op)) (sg.map λo=>V.str (dM o))=FS:=by
 unfold uA;rw[Tz,Mf];exact#[op,h,show(dM op == dM op)=FS from Hf _]
theorem yG (x:GO):jv (iy x)=FS:=by cases x<;>rfl
theorem vR (sg:Fh Fi):(sg.map λo=>V.str (dM o)).all jv=FS:=by
 rw[Tv,Md];exact λ_ _=>rfl
section
variable {M:Fq->Prop}{H:Hp}
theorem wa: ∀ {es:Pairs}{us:Fh V},Paired (λ(x:Fi×Fz) u=>aw a M H x.2 u) es us->cu a M H (uE es .nil) us
 |_,_, .nil=>by unfold uE cu;rfl
 |_,_, .cons h t=>by unfold uE cu;exact#[_,_,Go,h,wa t]
theorem u9: ∀ {es:Pairs}{us:Fh V},Paired (λ(x:Fi×Fz) u=>aw a M H x.2 u) es us->dF a M H (uV es .nil) us (es.map λx=>V.str (dM x.1))
 |_,_, .nil=>by unfold uV dF;exact#[Go,Go]
 |_,_, .cons h t=>by unfold uV dF;exact#[_,_,_,Go,Go,h,u9 t]
theorem qI {F:Fi×Fz->V->Prop}{o:Fi} : ∀ {es:Pairs}{us:Fh V},Paired F es us->(∀x∈es,x.1∈[o])->(es.map λx=>V.str (dM x.1))=us.map λ_=>V.str (dM o)
 |_,_, .nil,_=>rfl
 |_,_, .cons h t,hx=>by
  rw[FX,FX,FW.mp (hx _ (Fy ..)),qI t λy hy=>hx y (Fx _ hy)]
end
theorem aiC:dM (Fj "||")="||":=by decide+kernel
theorem abI:dM (Fj "&&")="&&":=by decide+kernel
structure pM (s:FH) (sg:Fh Fi) (once:GA) (res:Fz->Pairs->Fz):Prop where
 Vq: ∀e,res e []=e
 at_: ∀ {a:bi}{M:Fq->Prop}{H:Hp}{e:Fz}{es:Pairs}{v w:V}{us:Fh V}{q g:V},es≠[]->(∀x∈es,x.1∈sg)->(once=FS->es.length<=1)->bJ M H a.JW [("strength", .int (s:FH)),("operands",q),("signs",g)] w->
  b5 M H (v::us) q->b5 M H (es.map λx=>V.str (dM x.1)) g->aw a M H e v->Paired (λ(x:Fi×Fz) u=>aw a M H x.2 u) es us->aw a M H (res e es) w
theorem abJ:pM 0 S0 Gc (λe es=>EZ e (uE es .nil)) where
 Vq e:=rfl
 at_ {a M H e es v w us q g} h0 hs _ hi hq hg he WB:=by
  cases es with
  |nil=>exact FP rfl h0
  |cons y r=>
   rw[qI WB hs,aiC] at hg;show aw a M H (.either e (uE (y::r) .nil)) w;unfold aw;exact#[q,g,v,_,hi,hq,hg,he,wa WB]
theorem DV:pM 1 S1 Gc (λe es=>bth e (uE es .nil)) where
 Vq e:=rfl
 at_ {a M H e es v w us q g} h0 hs _ hi hq hg he WB:=by
  cases es with
  |nil=>exact FP rfl h0
  |cons y r=>
   rw[qI WB hs,abI] at hg;show aw a M H (.both e (uE (y::r) .nil)) w;unfold aw;exact#[q,g,v,_,hi,hq,hg,he,wa WB]
theorem Es:pM 3 S3 Gc (λe es=>sms e (uV es .nil)) where
 Vq e:=rfl
 at_ {a M H e es v w us q g} h0 hs _ hi hq hg he WB:=by
  cases es with
  |nil=>exact FP rfl h0
  |cons y r=>
   show aw a M H (.sums e (uV (y::r) .nil)) w
   unfold aw;exact#[q,g,v,_,_,hi,hq,hg,he,u9 WB]
theorem DU:pM 4 S4 Gc (λe es=>oX e (uV es .nil)) where
 Vq e:=rfl
 at_ {a M H e es v w us q g} h0 hs _ hi hq hg he WB:=by
  cases es with
  |nil=>exact FP rfl h0
  |cons y r=>
   show aw a M H (.prods e (uV (y::r) .nil)) w
   unfold aw;exact#[q,g,v,_,_,hi,hq,hg,he,u9 WB]
theorem EG:pM 2 S2 FS aiw where
 Vq e:=rfl
 at_ {a M H e es v w us q g} h0 hs h1 hi hq hg he WB:=by
  cases WB with
  |nil=>exact FP rfl h0
  |cons h t=>
   cases t with
   |nil=>
    show aw a M H (.cmp _ e _) w
    unfold aw;exact#[q,g,v,_,hi,hq,hg,he,h]
   |cons h2 t2=>
    have:=h1 rfl;rw[FG,FG] at this;lia
inductive vF (a:bi) (w2:GA) (s:FH) (p:FH->FH->Ft->FC Fz) (c:FH) (ok:FH->Ft->Fn->Prop) (vs:Fh V) (H:Hp) (Q:VK) (E:XK):Prop
 |mk (u v:V) (_:vs=[u,v, .int (s:FH)]) (_:a0 a w2 p c ok [u,v] H Q E):vF a w2 s p c ok vs H Q E
def Er {β:Type}(Z:Zf β):Prop:= ∀e r,FK r= .bad->Z.Ro e r->QE Z.a Z.B Z.H0 Z.E 1 (IA r)
theorem Er.mo {β:Type}{Z:Zf β}(h:Er Z) (N:v9 Z L):Er (Z.mo L us):=λe r b o H' k=>h e r b o H' λc o e m=>k c o e λz=>(dh z).elim (λz=>by rw[z,N.n0] at e;cases e) m
theorem Er.bad {β:Type}{Z:Zf β}{p:FC β}(h:Er Z) (hr:hJ p) (b:FK t= .bad) (w:W p t Z.Ro (QE Z.a Z.B Z.H0 Z.E)):QE Z.a Z.B Z.H0 Z.E 1 (IA t):=by
 rcases hr t b with e|⟨x,e⟩
 ·rw[i9 e] at w;exact w
 ·rw[zX e] at w;exact h x t b w
theorem enZ {a:bi}{E:XK}{H0:Hp}{Q:VK} :Er #[a,E,B,L,H0,Rz FS a B H0 L Kn Q E]:=λe r b w=>by
 have w:Rz FS a B H0 L Kn Q E e r:=w;unfold Rz at w;rw[Fv #[Go,b]] at w;exact w
theorem aiD {w2:GA}{pp:FH->FH->Ft->FC Fz}{c sn:FH}{ok:FH->Ft->Fn->Prop}{x Hl:FY}{st:Stmt}{f:Fq}{fd:Gz}{N:Fh FY}(T:aU K mg a) (XC:XT K a) (hk:8<=k) (F:oY K x Hl st f fd) (S:ay N ["reader","depth","strength"] (af st))
  (JO: ∀(Hb:Fp) (A:Hc) (outer:Fh Env) (s:Fw) (H:Hp) (B:Rb) (t:Fn) (Kn:Ft) (d fuel:FH) (Q:VK) (E:XK),bZ k (A.deeper [011])->d<=12->ok d Kn t->16*t.length+c<=fuel->Kn.values.length+t.length<=4000->
   let X:=fi (f9 P w) P w K mg base N Hl (af st) f Hb A outer s H E
   let D:d9:= { nx:=λ_ H'=>Q .IX H',rt:=Q }
   let Z:Zf Fz:=#[a,E,B,t.length,H,Rz w2 a B H t.length Kn Q E]
   RX X a E->RS Z [] Gc H t Kn (pp fuel (12-d) Kn)->Bd X (bf st) D (L2.start N [.ref B.r, .int d, .int (sn:FH)]) H):bV P w K mg base (f9 P w) (k+1) f fd ["reader","depth","strength"] (vF a w2 sn pp c ok):=by
 refine fS F S [03] [02];obtain⟨_,_,rfl,B,n,t,Kn,d,fuel,h0,hd,ho,St,hf,hW⟩:=h;cases h0;exact JO Hb A outer s H B t Kn d fuel Q E hr hd ho hf St.kn.len (ka T XC hk S hr) #[#[n,St],dg.refl,λ{i x} e=>(by cases e),FN _,hW]
section
variable {H:Hp}{Q:VK}{E:XK}
theorem Dg (Y:RX X a E) (KT:Ac X.K a.Iu dj) (q:Q (.int 5) H) (h1:Gl X "len":=by rfl) (h2:Gl X "CHAIN_SIGNS":=by rfl):Pe X (.Call (.Name "len" p1) [.Name "CHAIN_SIGNS" p2] [] p3) σ H Q:=by
 obtain⟨qs,qs5,sqA,_⟩:=KT.row (H:=H) (i:=0) rfl;refine#[_,aY bv h1 Y.T.J8 HF (aa (gW h2 Y.T.OY) ag),_,_,Go, .inr sqA,?_];rw[FE,qs5];exact q
theorem aiE {te:TE}(Y:RX X a E) (KT:Ac X.K a.Iu dj) (row:dj[sn]?=FB xs) (he:PE X e te) (hv: ∀Q:VK,Q (.int (sn:FH)) H->te σ H Q) (q: ∀c,rc X.K H c xs->Q (.ref c) H) (h2:Gl X "CHAIN_SIGNS":=by rfl) (hs:qJ e:=by exact λ_ _=>rfl):Pe X (.Subscript (.Name "CHAIN_SIGNS" p1) e p3) σ H Q:=by
 obtain⟨qs,qs5,sqA,c,atq,sq⟩:=KT.row (H:=H) row;exact#[_,cN aaM (gW h2 Y.T.OY) he hs,hv _ #[_,_,_,_,Go,Go,sqA,atq,q c sq]]
theorem RX.Y8 {sp:Sp}{σ:L2.St}(Y:RX X a E) (c:CB X "read_chain" ["reader","depth","strength"] sp) (q:sp [u,v, .int ((sn+1:FH):Int)] H Q E) (h1:X.N[1]?=FB ("depth":FY):=by rfl) (v1:oZ X.env.scope "depth":=by exact G9 rfl) (h2:X.N[2]?=FB ("strength":FY):=by rfl) (v2:oZ X.env.scope "strength":=by exact G9 rfl):
  Pe X (.Call (.Name "read_chain" p1) [.Name "reader" p2, .Name "depth" p3, .BinOp (.Name "strength" p4) .Add (.Constant (.int 1) 0 p5) p6] [] p7) (FB u::FB v::FB (.int (sn:FH))::σ) H Q:=by
 obtain⟨G,hr,d,hg⟩:=c;exact#[_,aI G hr hg d Y.up (aa Y.rd (aa (dX h1 v1) (aa (bW dN (dX h2 v2) ak) ag))),_,_,Go,Go,q]
end
inductive ChI {p sub:FH->FH->Ft->FC Fz}{c c':FH}{sg:Fh Fi}{once:GA}{res:Fz->Pairs->Fz}(L:ChP p sub c c' sg once res) (Z:Zf Fz) (A1 A2:Fq) (Kn:Ft) (d:FH) (e:Fz) (v:V) (σ0:L2.St) (m:FH) (σ:L2.St) (H:Hp):Prop
 |mk (F:Fh (Fk×V)) (es:Pairs) (us:Fh V) (t:Fn) (f:FH) (_:m=t.length) (_:σ=σ0) (_:once=FS->es=[]) (_:us.length+t.length<Z.L) (_: ∀x∈es,x.1∈sg) (_: ∃i:FH,F[i]?=FB (.e e,v)) (_:Paired (λ(x:Fi×Fz) u=> ∃i:FH,F[i]?=FB (.e x.2,u)) es us) (_:16*t.length+c'<=f)
  (_:RS ((Z.mo A1 (v::us)).mo A2 (es.map λx=>V.str (dM x.1))) F FS H t Kn (L.q f d Kn e es)):ChI L Z A1 A2 Kn d e v σ0 m σ H
theorem zj (T:aU K mg a) (XC:XT K a) (KT:Ac K a.Iu dj) (hk:8<=k)
  (G:T.WV.O P w base k (a0 a Gc G8 7 (Lv j))):
  T.Yh.O P w base (k+1) (vF a Gc 5 G8 7 (Lv j)):=by
 refine aiD T XC hk T.Yh.F ahj λHb A outer s H B t Kn d fuel Q E hr hd ho hf hm=>?_;intro X D Z Y R;exact bI (cU bX (bD 2 (Dg Y KT #[Go,_,Go,ca (aM #[_,Y.call2 #[G,hr,T.WV.c,Go] (pv 1) [01] rfl,R.tail hd ho hf])])))
theorem fg (T:aU K mg a) (XC:XT K a) (KT:Ac K a.Iu dj) (hk:8<=k) (hs:sn<5) (h2:sn=2->w2=FS) {p sub:FH->FH->Ft->FC Fz}{res:Fz->Pairs->Fz}(WX:1<=c')
  (L:ChP p sub c c' sg once res) (N:pM sn sg once res) (row:dj[sn]?=FB (sg.map λo=>V.str (dM o))) (sgS: ∀o∈sg,o∈GP) (Y9:once=decide (sn=2))
  (G:T.Yh.O P w base k (vF a w2 (sn+1) sub c' (Lv j))):
  T.Yh.O P w base (k+1) (vF a FS sn p c (Lv j)):=by
 refine aiD T XC hk T.Yh.F ahj λHb A outer s H B t Kn d fuel Q E hr hd ho hf hm=>?_;intro X D Z Y R;have cb:CB X "read_chain" ["reader","depth","strength"] (vF a w2 (sn+1) sub c' (Lv j)):=#[G,hr,T.Yh.c,Go];refine bI (cU bX (bD 2 (Dg Y KT [013])));rw[cj,Gg (by lia)];refine bM ?_;obtain⟨f,hf1,hp⟩:=L.start (d:=12-d) (Kn:=Kn) (n:=t.length) hf;have z0:Er Z:=enZ;refine aN 3 Y.nd (vg (aO (Y.Y8 cb #[_,_,Go,(R.as (congrFun hp t)).U2 (λ_ e r b w=>z0.bad (L.PQ _ _ _ _ _) b w) hd ho hf1 λe v H t1 _ R=>cE #[by show 1<=Gk;decide,λA1 hA1=>?_]])));have N1:=R.nwl hA1;have l1:t1.length+1<=Z.L:=R.l;refine aN 4 Y.nd (mw λA2 hA2=>?_);have ne:A2≠A1:=λz=>by rw[z,ae] at hA2;cases hA2
 have N2:=R.nwl (L:=A2) (by rw[ac ne] at hA2;exact hA2)
 have N2': ∀ {us:Fh V},v9 (Z.mo A1 us) A2:=N2.mo ne
 have N1': ∀ {us:Fh V},v9 (Z.mo A2 us) A1:=N1.mo ne.symm
 have R:=(R.more (us:=[v]) hA1).more (us:=[]) hA2
 have hm:Kn.values.length+Z.L<=4000:=hm
 have eN: ∀ {F:Fh (Fk×V)}{es:Pairs}{us:Fh V}{t:Fn}{f:FH}{H:Hp},1<=f->FK t≠ .bad->(once=FS->es.length<=1)->(once=FS/\es≠[]\/ ∀op,FK t= .sign op->op∉sg)->(∀x∈es,x.1∈sg)->(∃i:FH,F[i]?=FB (.e e,v))->Paired (λ(x:Fi×Fz) u=> ∃i:FH,F[i]?=FB (.e x.2,u)) es us->
   RS ((Z.mo A1 (v::us)).mo A2 (es.map λx=>V.str (dM x.1))) F FS H t Kn (L.q f (12-d) Kn e es)->Bd X ((bf s_x).drop 4) D [FB (.ref B.r),FB (.int d),FB (.int (sn:FH)),FB (.ref A1),FB (.ref A2)] H:=by
  intro F es us t f H hf nb h1 KH hsg m0 mp R;have R:=R.as (p':=pure (res e es)) (L.stop hf h1 KH);obtain⟨i0,m0⟩:=m0;refine bI (cU bX (iH T.J8 R.QU (pv 4) [05] (cM [013])));rw[cj,FE];refine aP (λh=>?_) λh=>?_
  ·obtain rfl:es=[]:=NY.mp (by have:=Ga h;lia)
   have hA1:=(R.less N2').QU
   have R:=(R.less N2').less N1;rw[N.Vq] at R;exact aM #[_,cN bG (pv 3) ak [002],A1,_,0,v,Go,Go,cw.of hA1,bB (j:=0) rfl,R.done (R.f m0) λ_=>nb]
  ·have z1:es≠[]:=λz=>by rw[z] at h;cases h
   refine aM (jK Y (Du T) (aO (bD 2 (aO (bD 3 (aO (bD 4 (cE (R.new rfl λw H i R=>?_)))))))));have hA2:=R.QU;have hA1:=(R.less N2').QU;have R:=(R.less N2').less N1;exact R.done (N.at_ z1 hsg h1 (bJ.keep (λb o e m=>#[λz=>m (cA (cA z)),e]) i) #[A1,Go,N1.nm,hA1] #[A2,Go,N2.nm,hA2] (R.f m0) (Paired.Nq mp λx u ⟨i,h⟩=>R.f h)) λ_=>nb
 refine f7 Y.lv (ChI L Z A1 A2 Kn (12-d) e v [FB (.ref B.r),FB (.int d),FB (.int (sn:FH)),FB (.ref A1),FB (.ref A2)]) _ #[_,[],[],t1,f,Go,Go,λ_=>rfl,(by show 0+t1.length<_;lia),(λ_ z=>nomatch z),#[0,Go], .nil,by lia,R] ?_
 rintro m σ H ⟨F,es,us,t,f,rfl,rfl,on0,ul,hsg,m0,mp,hf,R⟩;have z2:Er ((Z.mo A1 (v::us)).mo A2 (es.map λx=>V.str (dM x.1))):=(z0.mo N1).mo N2'
 refine cU lJ (uU Y R (λb=>z2.bad (L.PQ _ _ _ _ _) b R.w) λnb=>aiE Y KT row (pv 2) [05] λc sq=>#[c,_,Go, .inr sq,yG _,vR sg,_,Go,aP (λein=>?_) λein=>?_]) rfl
 ·obtain⟨⟨x,xp⟩,r,rfl⟩:=R.cons
  obtain⟨op,XG,rfl⟩:=AC R.tok sgS ein;obtain⟨f6,hf6,h6⟩:=L.go (x:=(.sign op,xp)) (by rw[FG] at hf;exact hf) on0 rfl XG;have lu:us.length=es.length:=(aV mp).symm;rw[FG] at ul;refine qP N2' R (pv 4) [05] (iJ Y (R.as (p':=GL>>=λ_=>sub f6 (12-d) Kn>>=λe2=>L.q f6 (12-d) Kn e (es++[(op,e2)])) h6) nfS λH R=>#[_,_,_,_,_,by rw[FE];exact Gr (show es.length<=4000 by lia) [01],R,λH R=>?_]);have R:=R.swap;have z3:Er (((Z.mo A2 ((es.map λx=>V.str (dM x.1))++[iy (.sign op)])).mo A1 (v::us)).at r.length):=(z0.mo N2).mo N1'
  refine qP N1' R (pv 3) [05] (Y.Y8 cb #[_,_,Go,RS.U2 (Z:=((Z.mo A2 ((es.map λx=>V.str (dM x.1))++[iy (.sign op)])).mo A1 (v::us)).at r.length) R.at (λ_ e r b w=>z3.bad (L.PQ _ _ _ _ _) b w) hd ho hf6 λe2 v2 H t2 nb2 R2=>#[_,_,_,_,_,Gr (show(v::us).length<=4000 by rw[FG];lia) [01],RS.back (Z:=(Z.mo A2 _).mo A1 _) (l:=r.length) (by show r.length<=Z.L;lia) R2,λH R=>?_]]);have l2:t2.length+1<=r.length:=R2.l;have R:RS ((Z.mo A1 (v::(us++[v2]))).mo A2 ((es++[(op,e2)]).map λx=>V.str (dM x.1))) ((.e e2,v2)::F) FS H t2 Kn (L.q f6 (12-d) Kn e (es++[(op,e2)])):=by
   rw[He];exact R.swap
  have aiF: ∀x∈es++[(op,e2)],x.1∈sg:=λx hx=>(F8.mp hx).elim (hsg x) λz=>by rw[FW.mp z];exact XG
  have m0': ∃i:FH,((.e e2,v2)::F)[i]?=FB (.e e,v):=m0.elim λi h=>#[i+1,h]
  have mp':Paired (λ(x:Fi×Fz) u=> ∃i:FH,((.e e2,v2)::F)[i]?=FB (.e x.2,u)) (es++[(op,e2)]) (us++[v2]):=fh (Paired.Nq mp λx u h=>h.elim λi h=>#[i+1,h]) #[0,Go]
  refine bI (cU bX (bD 2 #[_,aQ (by rfl) T.Sa,Go,_,Go,?_]));rw[cj];refine aP (λh=>?_) λh=>?_
  ·have s2:sn=2:=by have:=Ga h;lia
   have on1:once=FS:=by rw[Y9,s2];rfl
   have es0:=on0 on1;exact Dq (eN (by lia) (nb2 (h2 s2)) (λ_=>by rw[es0];exact FN _) (.inl #[on1,λz=>by rw[Th] at z;cases z.2]) aiF m0' mp' R)
  ·have on1:once≠FS:=by rw[Y9,Gg λz=>by have:=Gf h;rw[z] at this;exact this rfl];exact Fl
   exact gt #[_,(show t2.length<r.length+1 by lia),_,_,us++[v2],t2,f6,Go,Go,λz=>FP z on1,(by rw[FR,JF];lia),aiF,m0',mp',by lia,R]
 ·exact eN (by lia) nb (λz=>by rw[on0 z];exact F6 _) (.inr λop ho hm=>by
   rw[ho,C7 hm] at ein;cases ein) hsg m0 mp R
theorem zL (h:FD t "if"=Gc):FZ (f+1) d Kn t=ors f d Kn t:=by
 rw[FZ];show(if FD t "if"=FS then _ else _)=_
 rw[Fs (by rw[h];exact Fl)]
 rfl
theorem amo (T:aU K mg a) (XC:XT K a) (hk:8<=k)
  (G1:T.Xl.O P w base k (a0 a FS FZ 12 (LvW j (Fj "if"))))
  (G2:T.Yh.O P w base k (vF a FS 0 ors 11 (Lv j))):
  T.SV.O P w base (k+1) (a0 a FS FZ 12 (Lv j)):=by
 refine uO T XC hk T.SV.F ahh λHb A outer s H B t Kn d fuel Q E hr hd ho hf hm=>?_;intro X D Z Y R;refine bI (dv (iC Y R (lS _ _ _) λnb=>[021]));rw[b7 R.tok xH];rw[05]
 ·exact aM #[_,Y.call2 #[G1,hr,T.Xl.c,Go] (pv 1) [01] rfl,R.tail hd #[ho,beq_iff_eq.mp e] hf]
 ·obtain⟨f,rfl⟩: ∃f,fuel=f+1:=#[fuel-1,by lia]
  exact aM #[_,aI G2 hr (by rfl) T.Yh.c Y.up (aa Y.rd (aa (pv 1) (aa ak ag))),_,_,Go,RS.tail (R.as (zL e)) hd ho (by lia)]
theorem aiG {CX:pV}{k:FH}{sp1 sp2:Sp}(F1:bV P w K mg base CX k f fd ps sp1) (F2:bV P w K mg base CX k f fd ps sp2):bV P w K mg base CX k f fd ps (λvs H Q E=>sp1 vs H Q E\/sp2 vs H Q E):=
 #[λvs H Q E h=>h.elim (F1.len vs H Q E) (F2.len vs H Q E),λA outer s H args us vs Q E hr he hb hv h=>h.elim (F1.run A outer s H args us vs Q E hr he hb hv) (F2.run A outer s H args us vs Q E hr he hb hv)]
theorem zV {p:FH->FH->Ft->FC Fz}{ok1 ok2:FH->Ft->Fn->Prop}{H:Hp}{Q:VK}{E:XK}(h:a0 a w2 p c (λd K t=>ok1 d K t\/ok2 d K t) vs H Q E):a0 a w2 p c ok1 vs H Q E\/a0 a w2 p c ok2 vs H Q E:=by
 obtain⟨B,n,t,Kn,d,fuel,e,hd,ok,S,hf,hW⟩:=h;rcases ok with ok|ok
 ·exact .inl #[B,n,t,Kn,d,fuel,e,hd,ok,S,hf,hW]
 ·exact .inr #[B,n,t,Kn,d,fuel,e,hd,ok,S,hf,hW]
theorem ku {p:FH->FH->Ft->FC Fz}{H:Hp}{Q:VK}{E:XK}(h:a0 a w2 p c (Lv 0) vs H Q E):False:=by
 obtain⟨B,n,t,Kn,d,fuel,e,hd,ok,S,hf,hW⟩:=h;have ok:13<=d+0:=ok;lia
theorem jV:(∀o∈S0,o∈GP)/\(∀o∈S1,o∈GP)/\(∀o∈S2,o∈GP)/\(∀o∈S3,o∈GP)/\(∀o∈S4,o∈GP):=by decide+kernel
theorem amq:dj[0]?=FB (S0.map λo=>V.str (dM o)):=by decide+kernel
theorem amr:dj[1]?=FB (S1.map λo=>V.str (dM o)):=by decide+kernel
theorem ams:dj[2]?=FB (S2.map λo=>V.str (dM o)):=by decide+kernel
theorem amt:dj[3]?=FB (S3.map λo=>V.str (dM o)):=by decide+kernel
theorem amu:dj[4]?=FB (S4.map λo=>V.str (dM o)):=by decide+kernel
theorem amv (T:aU K mg a) (XC:XT K a) (KT:Ac K a.Iu dj): ∀j:FH,
  T.SV.O P w base (8+11*j) (a0 a FS FZ 12 (Lv j))/\
  T.WV.O P w base (8+11*j) (a0 a Gc G8 7 (Lv j)):=by
 intro j
 induction j with
 |zero=>exact#[fS T.SV.F ahh (λ_ _ _ _ h=>(ku h).elim) (λ_ _ _ _ _ _ _ _ _ h=>(ku h).elim),fS T.WV.F aa9 (λ_ _ _ _ h=>(ku h).elim) (λ_ _ _ _ _ _ _ _ _ h=>(ku h).elim)]
 |succ j ih=>
  obtain⟨E0,U0⟩:=ih;have hk:8<=8+11*j:=by lia
  rw[show 8+11*(j+1)=8+11*j+11 by lia];generalize 8+11*j=k at hk E0 U0 ⊢;have B:=air T XC hk E0;have Su:=aiq T XC hk E0;have Ca:=amn T XC hk E0;have Ch:=ais T XC hk E0;have Pr:=aiy T XC (by lia) B Su Ca;have UF:T.WV.O P w base (k+1+1) (a0 a Gc G8 7 (λ_ _ _=>False)):=
   fS T.WV.F aa9 (λ_ _ _ _ h=>by obtain⟨B,n,t,Kn,d,fuel,e,hd,ok,_⟩:=h;exact ok.elim) (λ_ _ _ _ _ _ _ _ _ h=>by obtain⟨B,n,t,Kn,d,fuel,e,hd,ok,_⟩:=h;exact ok.elim)
  have UN:=gH (j:=j+1) (λd _ t=>13<=d+(j+1)/\ ∃m,FK t= .num m) (λ_ _ _=>False) T XC (by lia) (λd Kn t h=>h.1) (λd Kn s xp t h _=>by obtain⟨_,m,z⟩:=h;cases z) (λd Kn s xp t m h _=>by obtain⟨_,m,z⟩:=h;cases z) Pr UF
  have UB:=(aiG (U0.mono (by lia:k<=k+1+1+1)) UN).imp λvs H Q E h=>zV h
  have Un:=gH (j:=j+1) (Lv (j+1)) (λd K t=>Lv j d K t\/(13<=d+(j+1)/\ ∃m,FK t= .num m)) T XC (by lia) (λd Kn t h=>h) (λd Kn s xp t h lt=> .inl (by have h:13<=d+(j+1):=h;show 13<=d+1+j;lia)) (λd Kn s xp t m h z=> .inr #[h,m,z]) (Pr.mono (by lia:k+1+1<=k+1+1+1)) UB
  have C5:=zj T XC KT (by lia) Un
  have C4:=fg T XC KT (by lia) (sn:=4) [01] (λz=>by cases z) [01] aiv DU amu jV.2.2.2.2 rfl C5
  have C3:=fg T XC KT (by lia) (sn:=3) [01] (λz=>by cases z) [01] aiu Es amt jV.2.2.2.1 rfl C4
  have C2:=fg T XC KT (by lia) (sn:=2) [01] (λ_=>rfl) [01] aix EG ams jV.2.2.1 rfl C3
  have C1:=fg T XC KT (by lia) (sn:=1) [01] (λz=>by cases z) [01] ait DV amr jV.2.1 rfl C2
  have C0:=fg T XC KT (by lia) (sn:=0) [01] (λz=>by cases z) [01] amj abJ amq jV.1 rfl C1
  have Ex:=amo T XC (by lia) (Ch.mono (by lia)) C0;exact#[Ex.mono (by lia),Un.mono (by lia)]
end OS
namespace OS
open Vbemac
section
variable {K:Known}
theorem AO (h:HX t "let"=FS):stmt (k+1) d K B t=(next>>=λ_=>newName K>>=λx=>sign "=">>=λ_=>expr k DEEP K>>=λe=>sign ";">>=λ_=>pure (.bind x e,K.with x,B):P (Stmt×Known×Blocks)) t:=by
 rw[stmt];show(if HX t "let"=FS then _ else _)=_
 rw[Fv h]
theorem BW (h1:HX t "let"=Gc) (h:HX t "for"=FS):stmt (k+1) d K B t=(deeper d>>=λn=>next>>=λ_=>newName K>>=λx=>key "in">>=λ_=>expr k DEEP K>>=λlo=>sign "..">>=λ_=>expr k DEEP K>>=λhi=>
  sign "{">>=λ_=>stmts k n (K.with x) B>>=λl=>pure (.loop x lo hi l.1,K,l.2):P (Stmt×Known×Blocks)) t:=by
 rw[stmt];show(if HX t "let"=FS then _ else if HX t "for"=FS then _ else _)=_
 rw[Fs (by rw[h1];exact Fl),Fv h]
def lz (k n:FH) (K:Known) (c:Exp) (a:Stmts×Blocks):P (Stmt×Known×Blocks):=ifKey "else">>=λm=>(if m=FS then(sign "{">>=λ_=>stmts k n K a.2>>=λb=>pure (.cond c a.1 b.1,K,b.2)) else pure (.cond c a.1 .nil,K,a.2))
theorem DM (h1:HX t "let"=Gc) (h2:HX t "for"=Gc) (h:HX t "if"=FS):stmt (k+1) d K B t=(deeper d>>=λn=>next>>=λ_=>expr k DEEP K>>=λc=>sign "{">>=λ_=>stmts k n K B>>=λa=>lz k n K c a:P (Stmt×Known×Blocks)) t:=by
 rw[stmt];show(if HX t "let"=FS then _ else if HX t "for"=FS then _ else if HX t "if"=FS then _ else _)=_
 rw[Fs (by rw[h1];exact Fl),Fs (by rw[h2];exact Fl),Fv h]
 rfl
def j3 (m:FA Gv) (B:Blocks):Blocks:=match m with
 |some w=>w::B
 |none=>B
theorem vN (h1:HX t "let"=Gc) (h2:HX t "for"=Gc) (h3:HX t "if"=Gc) (h:HX t "block"=FS):stmt (k+1) d K B t=(next>>=λ_=>maybeName B>>=λm=>side>>=λXU=>key "zone">>=λ_=>expr k DEEP K>>=λz=>
  key "price">>=λ_=>expr k DEEP K>>=λp=>key "amount">>=λ_=>newName K>>=λx=>sign ":">>=λ_=>expr k DEEP (K.with x)>>=λq=>behind "under" (knownBlock B)>>=λu=>behind "group" (expr k DEEP K)>>=λg=>sign ";">>=λ_=>
  pure (.block m XU z p x q u g,K,j3 m B):P (Stmt×Known×Blocks)) t:=by
 rw[stmt];show(if HX t "let"=FS then _ else if HX t "for"=FS then _ else if HX t "if"=FS then _ else if HX t "block"=FS then _ else _)=_
 rw[Fs (by rw[h1];exact Fl),Fs (by rw[h2];exact Fl),Fs (by rw[h3];exact Fl),Fv h]
 rfl
theorem zY (h1:HX t "let"=Gc) (h2:HX t "for"=Gc) (h3:HX t "if"=Gc) (h4:HX t "block"=Gc):stmt (k+1) d K B t=(side>>=λXU=>key "zone">>=λ_=>expr k DEEP K>>=λz=>
  key "quarter">>=λ_=>expr k DEEP K>>=λq=>key "price">>=λ_=>expr k DEEP K>>=λp=>behind "to" (expr k DEEP K)>>=λtop=>key "amount">>=λ_=>expr k DEEP K>>=λa=>sign ";">>=λ_=>
  pure (.step XU z q p top a,K,B):P (Stmt×Known×Blocks)) t:=by
 rw[stmt];show(if HX t "let"=FS then _ else if HX t "for"=FS then _ else if HX t "if"=FS then _ else if HX t "block"=FS then _ else _)=_
 rw[Fs (by rw[h1];exact Fl),Fs (by rw[h2];exact Fl),Fs (by rw[h3];exact Fl),Fs (by rw[h4];exact Fl)]
theorem zi (h:Mi t "}"=FS):stmts (k+1) d K B t= .ok ((.nil,B),t.drop 1):=by
 rw[stmts];show(if Mi t "}"=FS then _ else _)=_
 rw[Fv h]
theorem AN (h:Mi t "}"=Gc):stmts (k+1) d K B t=(stmt k d K B>>=λs=>stmts k d s.2.1 s.2.2>>=λl=>pure (.cons s.1 l.1,l.2):P (Stmts×Blocks)) t:=by
 rw[stmts];show(if Mi t "}"=FS then _ else _)=_
 rw[Fs (by rw[h];exact Fl)]
end
section
variable {K:Known}
theorem yY (h:n≠0):params (k+1) n K t=(newName K>>=λx=>ifSign ",">>=λm=>(if m=FS then(params k (n-1) (K.with x)>>=λl=>pure (x::l)) else(sign ")">>=λ_=>pure [x])):P (Fh Gv)) t:=by
 rw[params];show(if n=0 then _ else _)=_
 rw[Fs h]
theorem vG (h:n=0):params (k+1) n K t=fail 7 t:=by
 rw[params];show(if n=0 then _ else _)=_
 rw[Fv h]
theorem Cc (h:peek t= .eof):tops (k+1) K n D t= .ok ([],t):=by
 rw[tops];show(if peek t= .eof then _ else _)=_
 rw[Fv h]
theorem vP (h0:peek t≠ .eof) (h:HX t "const"=FS):tops (k+1) K n D t=(next>>=λ_=>newName K>>=λx=>sign "=">>=λ_=>expr k DEEP K>>=λe=>sign ";">>=λ_=>tops k (K.with x) n D>>=λl=>pure (.const x e::l):P Sheet) t:=by
 rw[tops];show(if peek t= .eof then _ else if HX t "const"=FS then _ else _)=_
 rw[Fs h0,Fv h]
theorem CG (h0:peek t≠ .eof) (h1:HX t "const"=Gc) (h:HX t "fun"=FS) (hn:n≠0):tops (k+1) K n D t=(next>>=λ_=>newName K>>=λx=>sign "(">>=λ_=>ifSign ")">>=λnone_=>
  (if none_=FS then give [] else params k PARAMS (K.with x))>>=λps=>sign "=">>=λ_=>expr k DEEP { K with values:=ps++K.values } >>=λe=>sign ";">>=λ_=>tops k { K with funs:=(x,ps.length)::K.funs } (n-1) D>>=λl=>pure (.func x ps e::l):P Sheet) t:=by
 rw[tops];show(if peek t= .eof then _ else if HX t "const"=FS then _ else if HX t "fun"=FS then(if n=0 then _ else _) else _)=_
 rw[Fs h0,Fs (by rw[h1];exact Fl),Fv h,Fs hn]
theorem zZ (h0:peek t≠ .eof) (h1:HX t "const"=Gc) (h:HX t "fun"=FS) (hn:n=0):tops (k+1) K n D t=fail 7 t:=by
 rw[tops];show(if peek t= .eof then _ else if HX t "const"=FS then _ else if HX t "fun"=FS then(if n=0 then _ else _) else _)=_
 rw[Fs h0,Fs (by rw[h1];exact Fl),Fv h,Fv hn]
def eB (D:Fh Gv):P Gv:=λu=>match anyName u with
 | .error e=> .error e
 | .ok (w,r)=>if D.contains w=FS then fail 4 u else .ok (w,r)
theorem yz (h0:peek t≠ .eof) (h1:HX t "const"=Gc) (h2:HX t "fun"=Gc) (h:HX t "desk"=FS):tops (k+1) K n D t=(next>>=λ_=>eB D>>=λx=>sign "{">>=λ_=>stmts k NEST K []>>=λl=>tops k K n (x::D)>>=λr=>pure (.desk x l.1::r):P Sheet) t:=by
 rw[tops];show(if peek t= .eof then _ else if HX t "const"=FS then _ else if HX t "fun"=FS then _ else if HX t "desk"=FS then _ else _)=_
 rw[Fs h0,Fs (by rw[h1];exact Fl),Fs (by rw[h2];exact Fl),Fv h]
 rfl
theorem zd (h0:peek t≠ .eof) (h1:HX t "const"=Gc) (h2:HX t "fun"=Gc) (h:HX t "desk"=Gc):tops (k+1) K n D t=fail 2 t:=by
 rw[tops];show(if peek t= .eof then _ else if HX t "const"=FS then _ else if HX t "fun"=FS then _ else if HX t "desk"=FS then _ else _)=_
 rw[Fs h0,Fs (by rw[h1];exact Fl),Fs (by rw[h2];exact Fl),Fs (by rw[h];exact Fl)]
theorem mf (D:Fh Gv):aL (eB D):=λt e=>by unfold eB;rw[eM t e]
end
end OS
namespace OS
open Vbemac
def lM:Stmt->FA Gv
 | .bind x _=>FB x
 |_=>FM
def D6 (K:Known) (s:Stmt) (K':Known):Prop:=match lM s with
 |some x=>K'=K.with x/\K.taken x=Gc
 |none=>K'=K
def jF (ss:Fh Stmt):Fh Gv:=ss.filterMap lM
def Dk:Fh Stmt->Stmts->Stmts
 |[],l=>l
 |s::r,l=> .cons s (Dk r l)
theorem sL:Dk (ss++[x]) l=Dk ss (.cons x l):=by
 induction ss with
 |nil=>rfl
 |cons y r ih=>show Stmts.cons y (Dk (r++[x]) l)=_;rw[ih];rfl
structure hU (K:Known) (ss:Fh Stmt) (K':Known):Prop where
 funs:K'.funs=K.funs
 vals:K'.values=(jF ss).reverse++K.values
 nodup:(jF ss).Nodup
 free: ∀x∈jF ss,x∉K.values
theorem hU.nil {K:Known} :hU K [] K:=#[Go,Go,M4,λ_ z=>nomatch z]
theorem hU.snoc {K K1 K2:Known}(h:hU K ss K1) (h2:D6 K1 s K2):hU K (ss++[s]) K2:=by
 unfold D6 at h2;cases e:lM s with
 |none=>
  rw[e] at h2;have h2:K2=K1:=h2;have:jF (ss++[s])=jF ss:=by unfold jF;rw[TQ];simp [e]
  rw[h2];exact#[h.funs,by rw[this];exact h.vals,by rw[this];exact h.nodup,by rw[this];exact h.free]
 |some x=>
  rw[e] at h2;obtain⟨rfl,ht⟩:=h2;have:jF (ss++[s])=jF ss++[x]:=by unfold jF;rw[TQ];simp [e]
  unfold Known.taken at ht;rw[Mr] at ht;have nc:x∉K1.values:=λz=>by rw[Gw.mpr z] at ht;cases ht.1
  rw[h.vals] at nc;refine#[h.funs,?_,?_,?_]
  ·rw[this]
   show x::K1.values=_
   rw[h.vals,U5]
   rfl
  ·rw[this,LN]
   refine#[h.nodup,Gu.mpr #[HP,M4],λa ha b hb=>?_];rw[FW.mp hb];intro z;exact nc (F8.mpr (.inl (J7.mpr (by rw[<-z];exact ha))))
  ·rw[this]
   intro y hy z;rcases F8.mp hy with hy|hy
   ·exact h.free y hy z
   ·rw[FW.mp hy] at z
    exact nc (F8.mpr (.inr z))
end OS
namespace OS
open Vbemac
abbrev gZ:=Top×Known×FH×Fh Gv
def abK (k:FH) (K:Known) (n:FH) (D:Fh Gv):P gZ:=newName K>>=λx=>sign "(">>=λ_=>ifSign ")">>=λnone_=>(if none_=FS then give [] else params k PARAMS (K.with x))>>=λps=>sign "=">>=λ_=>
 expr k DEEP { K with values:=ps++K.values } >>=λe=>sign ";">>=λ_=>pure (.func x ps e,{ K with funs:=(x,ps.length)::K.funs },n-1,D)
def vH (k:FH) (K:Known) (n:FH) (D:Fh Gv):P gZ:=newName K>>=λx=>sign "=">>=λ_=>expr k DEEP K>>=λe=>sign ";">>=λ_=>pure (.const x e,K.with x,n,D)
def Bq (k:FH) (K:Known) (n:FH) (D:Fh Gv):P gZ:=eB D>>=λx=>sign "{">>=λ_=>stmts k NEST K []>>=λl=>pure (.desk x l.1,K,n,x::D)
def iq (k:FH) (K:Known) (n:FH) (D:Fh Gv):P gZ:=λt=>
 if HX t "const"=FS then(next>>=λ_=>vH k K n D:P gZ) t
 else if HX t "fun"=FS then(if n=0 then fail 7 t else(next>>=λ_=>abK k K n D:P gZ) t)
 else if HX t "desk"=FS then(next>>=λ_=>Bq k K n D:P gZ) t
 else fail 2 t
theorem lN (k:FH) (K:Known) (n:FH) (D:Fh Gv):aL (iq k K n D):=λt e=>by
 unfold iq;rw[cq e,cq e,cq e,Fs Fl,Fs Fl,Fs Fl];exact aG 2 t e
end OS
namespace OS
open PySem PySem.Spec L2
open PyProof.Rows hiding St
variable {P:Gh}{w:GR}{K:Fm}{mg:FY->FA Fp}{base:Ha}{a:bi}
theorem aiH:d7 "=" (Fj "="):=[008]
theorem BO:d7 ";" (Fj ";"):=[008]
theorem aiI:d7 "{" (Fj "{"):=[008]
theorem Za:d7 "}" (Fj "}"):=[008]
theorem xT:cX "sell" (Fj "sell"):=[007]
theorem Cn:cX "buy" (Fj "buy"):=[007]
theorem pG:cX "amount" (Fj "amount"):=[007]
def dW (f:FH) (Kn:Ft):FC Fz:=Gm "=">>=λ_=>FZ f HK Kn>>=λe=>Gm ";">>=λ_=>pure e
def du (s:String) (f:FH) (Kn:Ft):FC Fz:=Hx s>>=λ_=>FZ f HK Kn
def jb (f:FH) (Kn:Ft):FC (Fi×Fz):=Hx "amount">>=λ_=>GY Kn>>=λx=>Gm ":">>=λ_=>FZ f HK (Kn.with x)>>=λe=>pure (x,e)
def Eg {α β:Type}(Z:Zf β) (g:α->FC β):Prop:= ∀e r,FK r= .bad->W (g e) r Z.Ro (QE Z.a Z.B Z.H0 Z.E)->QE Z.a Z.B Z.H0 Z.E 1 (IA r)
theorem DQ {α β:Type}{Z:Zf β}{g:α->FC β}(h: ∀e,aL (g e)):Eg Z g:=λe _ nb w=>(h e).L4 nb w
theorem abL {α β:Type}{Z:Zf β}{p:FC α}{g:α->FC β}{t:Fn}(h:Eg Z g) (hr:hJ p) (b:FK t= .bad) (w:W (p>>=g) t Z.Ro (QE Z.a Z.B Z.H0 Z.E)):QE Z.a Z.B Z.H0 Z.E 1 (IA t):=by
 rw[jL] at w;rcases hr t b with e|⟨x,e⟩
 ·rw[i9 e] at w;exact w
 ·rw[zX e] at w;exact h x t b w
inductive gw {α:Type}(a:bi) (args:Fh V) (p:FH->Ft->FC α) (c:FH) (en bt:GA) (mk:α->Fk) (vs:Fh V) (H:Hp) (Q:VK) (E:XK):Prop
 |mk {β:Type}(B:Rb) (L:FH) (H0:Hp) (Ro:β->Fn->Prop) (F:Fh (Fk×V)) (b:GA) (t:Fn) (Kn:Ft) (f:FH) (g:α->FC β) (_:vs= .ref B.r::args) (_:16*t.length+c<=f) (_:en=FS->Eg ⟨a,E,B,L,H0,Ro⟩ g) (_:RS ⟨a,E,B,L,H0,Ro⟩ F b H t Kn (p f Kn>>=g))
  (_: ∀x v H' t',RS #[a,E,B,L,H0,Ro] ((mk x,v)::F) (b||bt) H' t' Kn (g x)->Q v H'):gw a args p c en bt mk vs H Q E
inductive EY {α:Type}(a:bi) (pp:Rb->FC α->Prop) (val:α->V) (vs:Fh V) (H:Hp) (Q:VK) (E:XK):Prop
 |mk {β:Type}(B:Rb) (L:FH) (H0:Hp) (Ro:β->Fn->Prop) (F:Fh (Fk×V)) (b:GA) (t:Fn) (Kn:Ft) (p:FC α) (g:α->FC β) (_:vs=[.ref B.r]) (_:pp B p) (_:RS ⟨a,E,B,L,H0,Ro⟩ F b H t Kn (p>>=g))
  (_: ∀x H' t',RS #[a,E,B,L,H0,Ro] F FS H' t' Kn (g x)->Q (val x) H'):EY a pp val vs H Q E
section
variable {β:Type}{Z:Zf β}{H:Hp}{p:FC β}
theorem RS.room (R:RS Z F b H t Kn p):Kn.values.length+t.length<=4000:=by
 rw[00];exact S.kn.len
theorem RS.lL (R:RS Z F b H t Kn p):t.length<=Z.L:=FV (Ka _ _) R.l
theorem RS.or {c:GA}(R:RS Z F FS H t Kn p):RS Z F (c||true) H t Kn p:=by rw[Qs];exact R
theorem RS.cut (n:FH) (R:RS Z F b H t Kn p):RS Z (F.drop n) b H t Kn p:=#[R.S,R.k,λ{i x} e=>R.f (i:=n+i) (by rw[<-Fh.getElem?_drop];exact e),R.l,R.w]
theorem RS.asf {α:Type}{q q':FC α}{g:α->FC β}(R:RS Z F b H t Kn (q>>=g)) (e:q t=q' t):RS Z F b H t Kn (q'>>=g):=R.as (aX e)
end
section
variable {k:FH}{x Hl:FY}{st:Stmt}{f:Fq}{fd:Gz}{N ps:Fh FY}{α:Type}{args:Fh V}{p:FH->Ft->FC α}{c:FH}{en bt:GA}{mk:α->Fk}{val:α->V}{pp:Rb->FC α->Prop}
theorem E6 (T:aU K mg a) (XC:XT K a) (hk:8<=k) (F:oY K x Hl st f fd) (S:ay N ("reader"::ps) (af st)) (hl:args.length=ps.length)
  (JO: ∀(Hb:Fp) (A:Hc) (outer:Fh Env) (s:Fw) (H:Hp) {β:Type}(B:Rb) (L:FH) (H0:Hp) (Ro:β->Fn->Prop) (F:Fh (Fk×V)) (b:GA) (t:Fn) (Kn:Ft) (fu:FH) (g:α->FC β) (Q:VK) (E:XK),bZ k (A.deeper [011])->16*t.length+c<=fu->
   let X:=fi (f9 P w) P w K mg base N Hl (af st) f Hb A outer s H E
   let D:d9:= { nx:=λ_ H'=>Q .IX H',rt:=Q }
   let Z:Zf β:=#[a,E,B,L,H0,Ro]
   (en=FS->Eg Z g)->RX X a E->RS Z F b H t Kn (p fu Kn>>=g)->(∀x v H' t',RS Z ((mk x,v)::F) (b||bt) H' t' Kn (g x)->Q v H')->Bd X (bf st) D (L2.start N (.ref B.r::args)) H):bV P w K mg base (f9 P w) (k+1) f fd ("reader"::ps) (gw a args p c en bt mk):=by
 refine fS F S (λvs H Q E h=>?_) [02]
 ·obtain⟨B,L,H0,Ro,F,b,t,Kn,fu,g,rfl,_⟩:=h
  exact Gx RU hl
 ·obtain⟨B,L,H0,Ro,F,b,t,Kn,fu,g,rfl,h1,h2,R,q⟩:=h
  exact JO Hb A outer s H B L H0 Ro F b t Kn fu g Q E hr h1 h2 (ka T XC hk S hr) R q
theorem aiJ (T:aU K mg a) (XC:XT K a) (hk:8<=k) (F:oY K x Hl st f fd) (S:ay N ["reader"] (af st))
  (JO: ∀(Hb:Fp) (A:Hc) (outer:Fh Env) (s:Fw) (H:Hp) {β:Type}(B:Rb) (L:FH) (H0:Hp) (Ro:β->Fn->Prop) (F:Fh (Fk×V)) (b:GA) (t:Fn) (Kn:Ft) (p:FC α) (g:α->FC β) (Q:VK) (E:XK),bZ k (A.deeper [011])->pp B p->
   let X:=fi (f9 P w) P w K mg base N Hl (af st) f Hb A outer s H E
   let D:d9:= { nx:=λ_ H'=>Q .IX H',rt:=Q }
   let Z:Zf β:=#[a,E,B,L,H0,Ro]
   RX X a E->RS Z F b H t Kn (p>>=g)->(∀x H' t',RS Z F FS H' t' Kn (g x)->Q (val x) H')->Bd X (bf st) D (L2.start N [.ref B.r]) H):bV P w K mg base (f9 P w) (k+1) f fd ["reader"] (EY a pp val):=by
 refine fS F S [03] [02];obtain⟨B,L,H0,Ro,F,b,t,Kn,p,g,rfl,h1,R,q⟩:=h;exact JO Hb A outer s H B L H0 Ro F b t Kn p g Q E hr h1 (ka T XC hk S hr) R q
end
section
variable {β:Type}{Z:Zf β}{H:Hp}{E:XK}{Q:VK}{sp:Sp}{p:FC β}
theorem e7 (Y:RX X a E) (c:CB X x ["reader"] sp) (q:sp [.ref B] H Q E) (hx:(x == [003])=Gc:=by decide):Pe X (.Call (.Name x p1) [.Name "reader" p2] [] p4) (FB (.ref B)::σ) H Q:=by
 obtain⟨G,hr,d,hg⟩:=c;exact#[_,aI G hr hg d Y.up (aa Y.rd ag) hx,q]
theorem w9 (Y:RX X a E) (c:CB X x ["reader","word"] sp) (q:sp [.ref B, .str v] H Q E) (hx:(x == [003])=Gc:=by decide):Pe X (.Call (.Name x p1) [.Name "reader" p2, .Constant (.str v) j p3] [] p4) (FB (.ref B)::σ) H Q:=by
 obtain⟨G,hr,d,hg⟩:=c;exact#[_,aI G hr hg d Y.up (aa Y.rd (aa dJ ag)) hx,q]
end
abbrev oF (P:Gh) (w:GR) (K:Fm) (mg:FY->FA Fp) (base:Ha) (a:bi) (k:FH):Prop:=bV P w K mg base (f9 P w) k a.f_d a.aeJ ["reader","depth"] (a0 a FS FZ 12 (Lv 13))
theorem zO {Kn:Ft}{t:Fn} :Lv 13 0 Kn t:=by show 13<=0+13;decide
theorem aiK (T:aU K mg a) (XC:XT K a) (hk:8<=k) (G:oF P w K mg base a k):
  T.Yi.O P w base (k+1) (gw a [] dW 12 Gc FS .e):=by
 refine E6 T XC hk T.Yi.F alH rfl λHb A outer s H β B L H0 Ro F b t Kn fu g Q E hr hf=>?_;intro X D Z _ Y R q;have c:CB X "read_exp" ["reader","depth"] (a0 a FS FZ 12 (Lv 13)):=#[G,hr,T.SV.c,Go];have lL:=R.lL;have hF:16*(Z.at t.length).L+12<=fu+16:=FV hf (Ka _ _);have R:RS (Z.at t.length) F Gc H t Kn (Gm "=">>=λ_=>FZ fu HK Kn>>=λe=>Gm ";">>=λ_=>g e):=by
  have:=R.at;simp only[dW,bind_assoc,pure_bind] at this;exact this
 refine cF (Z:=Z.at t.length) Y aiH R λH t R=>?_;refine eF (Z:=Z.at _) (d:=0) 1 Y c ak [05] R (m6 λx=>(bo ";").bind) (F6 _) zO hF λe v H t R=>?_;refine cF (Z:=Z.at _) Y BO R λH t R=>?_;exact aM (bD 1 (q e v H t (R.back lL).or))
theorem abM {v:FY}{s:String}(lit:cX v (Fj s)) (T:aU K mg a) (XC:XT K a) (hk:8<=k) (G:oF P w K mg base a k):
  T.Xw.O P w base (k+1) (gw a [.str v] (du s) 12 FS FS .e):=by
 refine E6 T XC hk T.Xw.F alJ rfl λHb A outer s0 H β B L H0 Ro F b t Kn fu g Q E hr hf=>?_;intro X D Z en Y R q;have lL:=R.lL;have R:RS (Z.at t.length) F Gc H t Kn (Hx s>>=λ_=>FZ fu HK Kn>>=g):=by
  have:=R.at;simp only[du,bind_assoc] at this;exact this
 refine wW (Z:=Z.at t.length) Y R (pv 1) [05] (λr _ ok=>lit.p r ok) λH t1 R=>?_;have l1:t1.length+1<=t.length:=R.l;exact aM #[_,Y.call2 #[G,hr,T.SV.c,Go] ak [01] rfl,RS.call (Z:=Z.at _) (d:=0) R (en rfl) (F6 _) zO (by lia) λe v H t _ R=>q e v H t (R.back lL).or]
theorem qt {α:Type}{s:String}{p:FC α}{t:Fn}(h:FD t s=FS):Hu s p t=(Hx s>>=λ_=>p>>=λx=>pure (FB x):FC (FA α)) t:=by
 unfold Hu;rw[Fv h];have e:(Hx s>>=λ_=>p>>=λx=>pure (FB x):FC (FA α)) t=(p>>=λx=>pure (FB x):FC (FA α)) (t.drop 1):=by
  show(F3 (Hx s) _) t=_
  unfold F3 Hx;rw[Fv h]
  rfl
 rw[e];show _=(F3 p _) (t.drop 1);unfold F3;cases p (t.drop 1) with
 |error e=>rfl
 |ok z=>rfl
theorem oQ {α:Type}{s:String}{p:FC α}{t:Fn}(h:FD t s=Gc):Hu s p t= .ok (FM,t):=by
 unfold Hu;rw[Fs (by rw[h];exact Fl)]
theorem aiL {v:FY}{s:String}(lit:cX v (Fj s)) (T:aU K mg a) (XC:XT K a) (hk:8<=k)
  (G:T.Xw.O P w base k (gw a [.str v] (du s) 12 FS FS .e)):
  T.d_C.O P w base (k+1) (gw a [.str v] (λf Kn=>Hu s (FZ f HK Kn)) 12 FS Gc .o):=by
 refine E6 T XC hk T.d_C.F alK rfl λHb A outer s0 H β B L H0 Ro F b t Kn fu g Q E hr hf=>?_;intro X D Z en Y R q;have en:=en rfl;refine bI (jr (dv (mq Y R (pv 1) [05] (λbd=>abL en (gm s _) bd R.w) λnb=>[021])));rw[b7 R.tok lit];cases hk':(FK t == HJ (Fj s)) with
 |false=>
  refine ca (aM (mT (q FM .IX H t (RS.and ?_ rfl))));rw[Pk];exact R.as (bK (oQ hk'))
 |true=>
  have R:RS Z F b H t Kn (du s fu Kn>>=λx=>g (FB x)):=by
   have:=R.asf (qt hk');simp only[du,bind_assoc,pure_bind] at this ⊢;exact this
  refine bM (aM #[_,aI G hr (by rfl) T.Xw.c Y.up (aa Y.rd (aa (pv 1) ag)),Z.B,Z.L,Z.H0,Z.Ro,F,b,t,Kn,fu,_,Go,hf,λ_ x r b w=>en (FB x) r b w,R,λx v H' t' R=>q (FB x) v H' t' ?_]);obtain⟨S,k,f,l,w⟩:=R;refine#[S,k,λ{i y} e=>?_,FV (Vt (by cases b<;>decide) _) l,w];cases i with
  |zero=>cases e;exact f (i:=0) (x:=(.e x,v)) rfl
  |succ i=>exact f (i:=i+1) e
inductive xc (a:bi) (vs:Fh V) (H:Hp) (Q:VK) (E:XK):Prop
 |mk (r q kd fn ds bl:Fq) (n:FH) (x:GO×GD) (t:Fn) (d:FH) (_:vs=[.ref r, .int d]) (_:mQ a H r q kd fn ds bl n (x::t)) (_:(d=6->mI a.HW E H (if x.1= .bad then 1 else 6) x.2)) (_:(d≠6->Q (.int ((d+1:FH):Int)) H)):xc a vs H Q E
def Bk (bl:YY) (B:Ig):Prop:= ∀u,has bl.c u=B.contains u
theorem aiM (T:aU K mg a) (XC:XT K a):T.aaj.O P w base 6 (xc a):=by
 have Vp:=fH (P:=P) (w:=w) (base:=base) T XC;refine fS T.aaj.F ahw [03] [02];obtain⟨r,q,kd,fn,ds,bl,n,x,t,d,rfl,R,hf,hg⟩:=h;obtain⟨dr,er⟩:=R.ins;refine#[_,(ao (cv (aZ bX (pv 1) (aQ (by rfl) T.Ry) (aK _)) (ah (bj (cB (pv 0) T.Gj T.Wg.c Vp [017] aA (aa (aQ (by rfl) T.Q6) ag)))) bw)
   (ah (aJ (bW dN (pv 1) ak)))),?_]
 refine [013];rw[cj];rw[05]
 ·have:=Ga e
  exact#[r,dr,_,Go,er,Go,r,q,kd,fn,ds,bl,n,x,t,6,Go,R,hf (by lia)]
 ·have:=Gf e
  exact#[_,_,Go,Go,hg (by lia)]
section
variable {β:Type}{Z:Zf β}{H:Hp}
theorem tI (i:FH) {g:FH->FC β}(Y:RX X Z.a Z.E) (hd:d<=6) (nb:FK t≠ .bad) (R:RS Z F b H t Kn (HH (6-d)>>=g)) (q:d<6->RS Z F b H t Kn (g (6-(d+1)))->Bd X ss D ((FB (.ref Z.B.r)::FB (.int d)::σ).set i (FB (.int ((d+1:FH):Int)))) H)
  (h:Sl X i y:=by exact#[Go,G9 rfl,Go]) (h1:X.N[1]?=FB ("depth":FY):=by rfl) (v1:oZ X.env.scope "depth":=by exact G9 rfl) (hg:Gl X "deeper_braces":=by rfl):
  Bd X (.Assign [.Name y p0] (.Call (.Name "deeper_braces" p1) [.Name "reader" p2, .Name "depth" p3] [] p4) p5::ss) D (FB (.ref Z.B.r)::FB (.int d)::σ) H:=by
 rw[00];obtain⟨⟨x,xp⟩,t',rfl,tok,Rc,M3,_⟩:=S.wh.first;have hW:=R.w;rw[jL] at hW;have nx:x≠ .bad:=nb;refine aN i Y.nd (h:=h) #[_,Y.call2 #[aiM Y.T Y.C,Y.hr.mono [01],Y.T.aaj.c,hg] (dX h1 v1) [01] rfl,Z.B.r,Z.B.q,Z.B.kd,Z.B.fn,Z.B.ds,Z.B.bl,n,(x,xp),t',d,Go,S.rd,λe=>?_,λe=>?_]
 ·rw[Fs nx]
  exact fK (p:=HH (6-d)) (n:=6) (by unfold HH;rw[Fv (by lia)]) nb hW H R.k
 ·have ed:HH (6-d) ((x,xp)::t')= .ok (6-(d+1),(x,xp)::t'):=by unfold HH;rw[Fs (by lia),show 6-d-1=6-(d+1) by lia]
  rw[zX ed] at hW;exact q (by lia) #[R.S,R.k,R.f,R.l,hW]
theorem abN {p:FC β}{C:GA->Hp->Prop}(Y:RX X Z.a Z.E) (R:RS Z F b H ((.word u,xp)::t) Kn p) (hB:Bk Z.B.bl Bs) (q:C (!Bs.contains u) H) (hp:iA p2 p4:=by rfl):
  Pt X (.Compare (.Attribute (.Call (.Attribute [005] "current" p2) [] [] p4) "value" p5) [.NotIn] [.Attribute (.Name "reader" p6) "blocks" p7] p3) (FB (.ref Z.B.r)::σ) H C:=by
 rw[00];rw[02];refine#[_,fD (i6 (dz Y.hr) dA (aj Y.rd rfl)),uU Y R (λb=>nomatch b) (λ_=>#[Z.B.r,_,dr,_,_,Go,er,Y.T.Gj,Y.T.JZ,Go,Z.B.bl.p,_,Go,gz.k (k:=nk u) S.SH,_,Go,?_]) hp]
 have:=hB u;unfold has at this;rw[this];exact q
end
theorem zw {t:Fn}(h:(x.1 == .word (Fj "sell"))=FS):Jd (x::t)= .ok (Gc,t):=by
 unfold Jd;rw[Fv (show FD (x::t) "sell"=FS from h)]
 rfl
theorem Ar {t:Fn}(h0:(x.1 == .word (Fj "sell"))=Gc) (h:(x.1 == .word (Fj "buy"))=FS):Jd (x::t)= .ok (FS,t):=by
 unfold Jd;rw[Fs (by rw[show FD (x::t) "sell"=Gc from h0];exact Fl),Fv (show FD (x::t) "buy"=FS from h)]
 rfl
theorem wR {t:Fn}(h0:(FK t == .word (Fj "sell"))=Gc) (h:(FK t == .word (Fj "buy"))=Gc):Jd t=FT 2 t:=by
 unfold Jd;rw[Fs (by rw[show FD t "sell"=Gc from h0];exact Fl),Fs (by rw[show FD t "buy"=Gc from h];exact Fl)]
theorem aiN (T:aU K mg a) (XC:XT K a):T.aak.O P w base 9 (EY a (λ_ p=>p=Jd) kE):=by
 refine aiJ T XC (FN _) T.aak.F ahz λHb A outer s0 H β B L H0 Ro F b t Kn p g Q E hr hp=>?_;intro X D Z Y R q;subst hp;obtain⟨⟨x,xp⟩,r,rfl⟩:=R.cons;have v1:me "sell" (FK ((x,xp)::r))=(x == .word (Fj "sell")):=b7 R.tok xT;have v2:me "buy" (FK ((x,xp)::r))=(x == .word (Fj "buy")):=b7 R.tok Cn;refine bI (Dj (jr (dv (iC Y R lT.bind λnb=>[021]))));rw[v1];cases e1:(x == HJ (Fj "sell")) with
 |true=>
  obtain rfl:=beq_iff_eq.mp e1;refine bM (bM (aM (iJ Y (R.as (p':=GL>>=λ_=>g Gc) (bK (zw e1))) Y6 λH R=>?_)));show Q (.str (sb (Fj "sell"))) H;rw[<-xT.1];exact q Gc H r R
 |false=>
  refine ca (jr (dv (ji Y R nb [021])));rw[v2];cases e2:(x == HJ (Fj "buy")) with
  |true=>
   obtain rfl:=beq_iff_eq.mp e2;refine bM (aM (iJ Y (R.as (p':=GL>>=λ_=>g FS) (bK (Ar e1 e2))) Y6 λH R=>?_));show Q (.str (sb (Fj "buy"))) H;rw[<-Cn.1];exact q FS H r R
  |false=>exact ca (bF (qM Y (aQ (by rfl) T.O3) R nb ((aX (wR (t:=(x,xp)::r) e1 e2)).trans rfl)))
theorem aiO (T:aU K mg a) (XC:XT K a) (hk:8<=k) (G:oF P w K mg base a k):
  T.Xx.O P w base (k+1) (gw a [] jb 12 FS FS .am):=by
 refine E6 T XC hk T.Xx.F ahA rfl λHb A outer s0 H β B L H0 Ro F b t Kn fu g Q E hr hf=>?_;intro X D Z en Y R q;have lL:=R.lL;have hm:Kn.values.length+(Z.at t.length).L<=4000:=R.room;have R:RS (Z.at t.length) F Gc H t Kn (Hx "amount">>=λ_=>GY Kn>>=λx=>Gm ":">>=λ_=>FZ fu HK (Kn.with x)>>=λe=>g (x,e)):=by
  have:=R.at;simp only[jb,bind_assoc,pure_bind] at this;exact this
 refine lr (Z:=Z.at t.length) Y pG R λH t1 R=>?_;refine i8 (Z:=Z.at t.length) 1 Y R λu H t2 ft R=>?_;refine cF (Z:=Z.at t.length) Y Y5 R λH t3 R=>?_;refine gL (Z:=Z.at t.length) Y (pv 1) [05] ft hm R λH R=>?_;refine eF (Z:=Z.at t.length) (d:=0) 2 Y #[G,hr,T.SV.c,Go] ak [05] R (λe r b w=>en rfl (u,e) r b w) (F6 _) zO (by show 16*t.length+12<=fu+16;lia) λe v H t4 R=>?_;refine kX (Z:=Z.at t.length) Y (pv 1) [05] ft R λH R=>?_;refine ic (Z:=Z.at t.length) Y (vM T) (aa (pv 1) (aa (pv 2) ag)) [05] R rfl λw H i R=>?_;have R:=(RS.back (Z:=Z) lL R).or (c:=b);obtain⟨S,k,f,l,w'⟩:=R;have fe:=f (i:=0) rfl;refine q (u,e) w H t4 #[S,k,λ{j y} z=>?_,l,w'];cases j with
 |zero=>cases z;exact#[v,i,fe]
 |succ j=>exact f (i:=j+1) z
theorem md {t:Fn}(hk:GK.contains u=Gc):Jv B ((.word u,xp)::t)=if B.contains u=FS then .ok (u,t) else FT 3 ((.word u,xp)::t):=by
 unfold Jv;rw[cW,Fs (by rw[hk];exact Fl)]
theorem nF {t:Fn}(h:cR x.1=Gc):WN (x::t)=FT 2 (x::t):=by
 obtain⟨x,xp⟩:=x;cases x with
 |word u=>
  have h:cR (.word u)=Gc:=h;rw[dI] at h;rw[cW,Fv (by cases e:GK.contains u;rw[e] at h;cases h;rfl)]
 |_=>rfl
theorem aiP (T:aU K mg a) (XC:XT K a):T.aal.O P w base 9 (EY a (λB p=> ∃Bs,Bk B.bl Bs/\p=Jv Bs) λu=> .str (sb u)):=by
 refine aiJ T XC (FN _) T.aal.F ahB λHb A outer s0 H β B L H0 Ro F b t Kn p g Q E hr hp=>?_;intro X D Z Y R q;obtain⟨Bs,hB,rfl⟩:=hp;obtain⟨⟨x,xp⟩,r,rfl⟩:=R.cons;refine bF (p_g Y R (j8 Bs).bind (λ_ e=>(aX (q:=FT 2) ?_).trans rfl) λnb e=>?_)
 ·unfold Jv
  rw[nF e]
  rfl
 obtain⟨u,rfl,hu⟩:=gN e;have ek:=md (xp:=xp) (t:=r) (B:=Bs) hu;refine bI (abN Y R hB (aP (λh=>?_) λh=>?_))
 ·rw[VX] at h
  rw[h,Fs Fl] at ek;exact bF (qM Y (aQ (by rfl) T.QF) R nb ((aX (q:=FT 3) ek).trans rfl))
 ·rw[PU] at h
  rw[h,Fv rfl] at ek;exact aM (iJ Y (R.as (p':=GL>>=λ_=>g u) (bK ek)) Y6 λH R=>q u H r R)
theorem CQ:cX "let" (Fj "let"):=[007]
theorem wN:cX "zone" (Fj "zone"):=[007]
theorem vt:cX "quarter" (Fj "quarter"):=[007]
theorem sP:cX "price" (Fj "price"):=[007]
theorem Zb:cX "to" (Fj "to"):=[007]
theorem uv:cX "block" (Fj "block"):=[007]
theorem uq:cX "under" (Fj "under"):=[007]
theorem tK:cX "group" (Fj "group"):=[007]
abbrev YY.at_ (bl:YY) (c:Fh (be×V)):YY:=#[bl.p,c,bl.x]
abbrev Rb.bk (B:Rb) (c:Fh (be×V)):Rb:= { B with bl:=B.bl.at_ c }
abbrev B6:=Hj×Ft×Ig
inductive oJ (a:bi) (av:FH->Fh V) (ok:FH->Fn->Prop) (vs:Fh V) (H:Hp) (Q:VK) (E:XK):Prop
 |mk {β:Type}(B:Rb) (L:FH) (H0:Hp) (Ro:β->Fn->Prop) (F:Fh (Fk×V)) (b:GA) (t:Fn) (Kn:Ft) (Bs:Ig) (d f:FH) (g:B6->FC β) (_:vs= .ref B.r::av d) (_:d<=6) (_:ok d t) (_:16*t.length+14<=f) (_:Bk B.bl Bs) (_:B.bl.c.length+t.length<=4000) (_:Eg ⟨a,E,B,L,H0,Ro⟩ g) (_:RS ⟨a,E,B,L,H0,Ro⟩ F b H t Kn (Lw f (6-d) Kn Bs>>=g))
  (_: ∀s v H' t' c',D6 Kn s.1 s.2.1->Bk (B.bl.at_ c') s.2.2->c'.length+t'.length<=4000->RS #[a,E,B.bk c',L,H0,Ro] ((.st s.1,v)::F) FS H' t' s.2.1 (g s)->Q v H'):oJ a av ok vs H Q E
section
variable {k:FH}{x Hl:FY}{st:Stmt}{f:Fq}{fd:Gz}{N ps:Fh FY}{av:FH->Fh V}{ok:FH->Fn->Prop}
theorem zg (T:aU K mg a) (XC:XT K a) (hk:8<=k) (F:oY K x Hl st f fd) (S:ay N ("reader"::ps) (af st)) (hl: ∀d,(av d).length=ps.length)
  (JO: ∀(Hb:Fp) (A:Hc) (outer:Fh Env) (s:Fw) (H:Hp) {β:Type}(B:Rb) (L:FH) (H0:Hp) (Ro:β->Fn->Prop) (F:Fh (Fk×V)) (b:GA) (t:Fn) (Kn:Ft) (Bs:Ig) (d fu:FH) (g:B6->FC β) (Q:VK) (E:XK),bZ k (A.deeper [011])->d<=6->ok d t->16*t.length+14<=fu->Bk B.bl Bs->B.bl.c.length+t.length<=4000->
   let X:=fi (f9 P w) P w K mg base N Hl (af st) f Hb A outer s H E
   let D:d9:= { nx:=λ_ H'=>Q .IX H',rt:=Q }
   let Z:Zf β:=#[a,E,B,L,H0,Ro]
   Eg Z g->RX X a E->RS Z F b H t Kn (Lw fu (6-d) Kn Bs>>=g)->(∀s v H' t' c',D6 Kn s.1 s.2.1->Bk (B.bl.at_ c') s.2.2->c'.length+t'.length<=4000->RS #[a,E,B.bk c',L,H0,Ro] ((.st s.1,v)::F) FS H' t' s.2.1 (g s)->Q v H')->Bd X (bf st) D (L2.start N (.ref B.r::av d)) H):bV P w K mg base (f9 P w) (k+1) f fd ("reader"::ps) (oJ a av ok):=by
 refine fS F S (λvs H Q E h=>?_) [02]
 ·obtain⟨B,L,H0,Ro,F,b,t,Kn,Bs,d,fu,g,rfl,_⟩:=h
  exact Gx RU (hl d)
 ·obtain⟨B,L,H0,Ro,F,b,t,Kn,Bs,d,fu,g,rfl,h1,h2,h3,h4,h5,h6,R,q⟩:=h
  exact JO Hb A outer s H B L H0 Ro F b t Kn Bs d fu g Q E hr h1 h2 h3 h4 h5 h6 (ka T XC hk S hr) R q
end
section
variable {β:Type}{Z:Zf β}{H:Hp}
theorem jd (i:FH) {g:Fz->FC β}(Y:RX X Z.a Z.E) (c:CB X "read_part" ["reader","word"] (gw Z.a [.str v] (du s) 12 FS FS .e)) (R:RS Z F FS H t Kn (du s f Kn>>=g)) (hf:16*Z.L+12<=f+16) (en: ∀e,aL (g e)) (q: ∀e v H' t',RS Z ((.e e,v)::F) FS H' t' Kn (g e)->Bd X ss D ((FB (.ref Z.B.r)::σ).set i (FB v)) H')
  (h:Sl X i y:=by exact#[Go,G9 rfl,Go]):Bd X (.Assign [.Name y p0] (.Call (.Name "read_part" p1) [.Name "reader" p2, .Constant (.str v) j p3] [] p4) p5::ss) D (FB (.ref Z.B.r)::σ) H:=by
 have l:t.length+1<=Z.L:=R.l;exact aN i Y.nd (w9 Y c #[Z.B,Z.L,Z.H0,Z.Ro,F,FS,t,Kn,f,g,Go,by lia,λ_=>DQ en,R,q]) h
theorem pR (i:FH) {g:FA Fz->FC β}(Y:RX X Z.a Z.E) (c:CB X "read_part_if_there" ["reader","word"] (gw Z.a [.str v] (λf Kn=>Hu s (FZ f HK Kn)) 12 FS Gc .o)) (R:RS Z F FS H t Kn (Hu s (FZ f HK Kn)>>=g)) (hf:16*Z.L+12<=f+16) (en: ∀e,aL (g e)) (q: ∀e v H' t',RS Z ((.o e,v)::F) FS H' t' Kn (g e)->Bd X ss D ((FB (.ref Z.B.r)::σ).set i (FB v)) H')
  (h:Sl X i y:=by exact#[Go,G9 rfl,Go]):Bd X (.Assign [.Name y p0] (.Call (.Name "read_part_if_there" p1) [.Name "reader" p2, .Constant (.str v) j p3] [] p4) p5::ss) D (FB (.ref Z.B.r)::σ) H:=by
 have l:t.length+1<=Z.L:=R.l;exact aN i Y.nd (w9 Y c #[Z.B,Z.L,Z.H0,Z.Ro,F,FS,t,Kn,f,g,Go,by lia,λ_=>DQ en,R,q]) h
theorem nX (i:FH) {g:Fz->FC β}(Y:RX X Z.a Z.E) (c:CB X "read_given" ["reader"] (gw Z.a [] dW 12 Gc FS .e)) (R:RS Z F FS H t Kn (dW f Kn>>=g)) (hf:16*Z.L+12<=f+16) (q: ∀e v H' t',RS Z ((.e e,v)::F) FS H' t' Kn (g e)->Bd X ss D ((FB (.ref Z.B.r)::σ).set i (FB v)) H')
  (h:Sl X i y:=by exact#[Go,G9 rfl,Go]):Bd X (.Assign [.Name y p0] (.Call (.Name "read_given" p1) [.Name "reader" p2] [] p4) p5::ss) D (FB (.ref Z.B.r)::σ) H:=by
 have l:t.length+1<=Z.L:=R.l;exact aN i Y.nd (e7 Y c #[Z.B,Z.L,Z.H0,Z.Ro,F,FS,t,Kn,f,g,Go,by lia,(λz=>nomatch z),R,q]) h
theorem wu (i:FH) {g:GA->FC β}(Y:RX X Z.a Z.E) (R:RS Z F b H t Kn (Jd>>=g)) (hr:bZ 9 X.A) (q: ∀e H' t',RS Z F FS H' t' Kn (g e)->Bd X ss D ((FB (.ref Z.B.r)::σ).set i (FB (kE e))) H')
  (h:Sl X i y:=by exact#[Go,G9 rfl,Go]) (hg:Gl X "read_side":=by rfl):Bd X (.Assign [.Name y p0] (.Call (.Name "read_side" p1) [.Name "reader" p2] [] p4) p5::ss) D (FB (.ref Z.B.r)::σ) H:=
 aN i Y.nd (e7 Y #[aiN Y.T Y.C,hr,Y.T.aak.c,hg] #[Z.B,Z.L,Z.H0,Z.Ro,F,b,t,Kn,_,g,Go,Go,R,q]) h
end
section
variable {K:Ft}{β:Type}{g:B6->FC β}
theorem abO (h:FD t "let"=FS):(Lw (k+1) d K B>>=g) t=(GL>>=λ_=>GY K>>=λx=>dW k K>>=λe=>g (.bind x e,K.with x,B)) t:=by
 rw[aX (AO h)];simp only[dW,bind_assoc,pure_bind]
theorem DO (h1:FD t "let"=Gc) (h2:FD t "for"=Gc) (h3:FD t "if"=Gc) (h4:FD t "block"=Gc):(Lw (k+1) d K B>>=g) t=(Jd>>=λXU=>du "zone" k K>>=λz=>du "quarter" k K>>=λq=>du "price" k K>>=λp=>Hu "to" (FZ k HK K)>>=λtop=>du "amount" k K>>=λa=>Gm ";">>=λ_=>g (.step XU z q p top a,K,B)) t:=by
 rw[aX (zY h1 h2 h3 h4)];simp only[du,bind_assoc,pure_bind]
end
theorem amw (T:aU K mg a) (XC:XT K a) (hk:8<=k) (G:T.Yi.O P w base k (gw a [] dW 12 Gc FS .e)):
  T.d_Z.O P w base (k+1) (oJ a (λ_=>[]) λ_ t=>FD t "let"=FS):=by
 refine zg T XC hk T.d_Z.F alI (λ_=>rfl) λHb A outer s H β B L H0 Ro F b t Kn Bs d fu g Q E hr hd ho hf hB hc=>?_;intro X D Z en Y R q;have lL:=R.lL;have hm:Kn.values.length+(Z.at t.length).L<=4000:=R.room;obtain⟨xp,r,rfl⟩:=eY R (beq_iff_eq.mp ho);obtain⟨f,rfl⟩: ∃f,fu=f+1:=#[fu-1,by lia];have hF:16*(Z.at (((HJ (Fj "let"),xp)::r).length)).L+12<=f+16:=by show 16*((HJ (Fj "let"),xp)::r).length+12<=f+16;lia
 refine iO (Z:=Z.at _) Y CQ (R.at.as (abO ho)) λH t R=>?_;refine i8 (Z:=Z.at _) 1 Y R λu H t ft R=>?_;refine nX (Z:=Z.at _) 2 Y #[G,hr,T.Yi.c,Go] R hF λe v H t R=>?_;refine gL (Z:=Z.at _) Y (pv 1) [05] ft hm R λH R=>?_;refine ic (Z:=Z.at _) Y (abn T) (aa (pv 1) (aa (pv 2) ag)) [05] R rfl λw H i R=>?_;have l:t.length+1<=r.length+1:=R.l;have R:=RS.back (Z:=Z) lL R;refine q (.bind u e,Kn.with u,Bs) w H t B.bl.c ⟨rfl,ft⟩ hB (by rw[FG] at hc;lia) ((R.cut 1).and ?_);show a9 a (eU B) H (.bind u e) w;unfold a9;exact#[v,i,R.f (i:=0) rfl]
theorem amx (T:aU K mg a) (XC:XT K a) (hk:9<=k)
  (G1: ∀ {v:FY}{s:String},cX v (Fj s)->T.Xw.O P w base k (gw a [.str v] (du s) 12 FS FS .e))
  (G2:T.d_C.O P w base k (gw a [.str "to"] (λf Kn=>Hu "to" (FZ f HK Kn)) 12 FS Gc .o)):
  T.d_1.O P w base (k+1) (oJ a (λ_=>[]) λ_ t=>FD t "let"=Gc/\FD t "for"=Gc/\FD t "if"=Gc/\FD t "block"=Gc):=by
 refine zg T XC (by lia) T.d_1.F alL (λ_=>rfl) λHb A outer s H β B L H0 Ro F b t Kn Bs d fu g Q E hr hd ho hf hB hc=>?_;intro X D Z en Y R q;have lL:=R.lL;obtain⟨n1,n2,n3,n4⟩:=ho;obtain⟨f,rfl⟩: ∃f,fu=f+1:=#[fu-1,by lia];have hF:16*(Z.at t.length).L+12<=f+16:=by show 16*t.length+12<=f+16;lia
 have cp: ∀ {v:FY}{s:String},cX v (Fj s)->CB X "read_part" ["reader","word"] (gw a [.str v] (du s) 12 FS FS .e):=λl=>#[G1 l,hr,T.Xw.c,Go]
 have ps: ∀ {γ:Type}{s:String}{f:FH}{h:Fz->FC γ},aL (du s f Kn>>=h):=(eS _).bind.bind;refine wu (Z:=Z.at t.length) 1 Y (R.at.as (DO n1 n2 n3 n4)) (hr.mono hk) λbu H t1 R=>?_
 refine jd (Z:=Z.at t.length) 2 Y (cp wN) R hF (λ_=>ps) λe1 v1 H t2 R=>?_;refine jd (Z:=Z.at t.length) 3 Y (cp vt) R hF (λ_=>ps) λe2 v2 H t3 R=>?_;refine jd (Z:=Z.at t.length) 4 Y (cp sP) R hF (λ_=>(gm "to" _).strict λ_=>ps) λe3 v3 H t4 R=>?_;refine pR (Z:=Z.at t.length) 5 Y #[G2,hr,T.d_C.c,Go] R hF (λ_=>ps) λe4 v4 H t5 R=>?_;refine jd (Z:=Z.at t.length) 6 Y (cp pG) R hF (λ_=>(bo ";").bind) λe5 v5 H t6 R=>?_;refine cF (Z:=Z.at t.length) Y BO R λH t7 R=>?_;refine ic (Z:=Z.at t.length) Y (Ff T) (aa (pv 1) (aa (pv 2) (aa (pv 3) (aa (pv 4) (aa (pv 5) (aa (pv 6) ag)))))) [05] R rfl λw H i R=>?_;have l:t7.length+1<=t.length:=R.l;have R:=RS.back (Z:=Z) lL R;refine q (.step bu e1 e2 e3 e4 e5,Kn,Bs) w H t7 B.bl.c rfl hB (by lia) ((R.cut 5).and ?_);show a9 a (eU B) H (.step bu e1 e2 e3 e4 e5) w;unfold a9;exact#[v1,v2,v3,v4,v5,i,R.f (i:=4) rfl,R.f (i:=3) rfl,R.f (i:=2) rfl,R.f (i:=1) rfl,R.f (i:=0) rfl]
theorem CA {B:Ig}{t:Fn}(So:GK.contains u=Gc):J1 B ((.word u,xp)::t)=if B.contains u=FS then FT 4 ((.word u,xp)::t) else .ok (FB u,t):=by
 have c: ¬(FD ((.word u,xp)::t) "sell"=FS\/FD ((.word u,xp)::t) "buy"=FS):=λz=>z.elim (λz=>by
  have:HJ u= .word (Fj "sell"):=beq_iff_eq.mp z;cases this;exact FP So [00]) λz=>by
  have:HJ u= .word (Fj "buy"):=beq_iff_eq.mp z;cases this;exact FP So [00]
 unfold J1;rw[Fs c];unfold VC;rw[cW,Fs (by rw[So];exact Fl)];dsimp only;by_cases h:B.contains u=FS
 ·rw[Fv h,Fv h]
  rfl
 ·rw[Fs h,Fs h]
theorem Bj {γ:Type}{B:Ig}{t:Fn}(nb:x.1≠ .bad) (en:cR x.1=Gc) {g:FA Fi->GA->FC γ} :(J1 B>>=λm=>Jd>>=λb=>g m b) (x::t)=(Jd>>=λb=>g FM b) (x::t):=by
 by_cases c:FD (x::t) "sell"=FS\/FD (x::t) "buy"=FS
 ·exact bK (by unfold J1;rw[Fv c])
 ·have e:J1 B (x::t)= .error (2,IA (x::t)):=by
   unfold J1 VC;rw[Fs c,nF en];unfold FT;rw[Fs (show¬FK (x::t)= .bad from nb)]
  have e2:Jd (x::t)= .error (2,IA (x::t)):=by
   rw[wR (t:=x::t) (by cases h:(FK (x::t) == HJ (Fj "sell"));rfl;exact FP (.inl h) c) (by cases h:(FK (x::t) == HJ (Fj "buy"));rfl;exact FP (.inr h) c)];unfold FT;rw[Fs (show¬FK (x::t)= .bad from nb)]
  show F3 _ _ (x::t)=F3 _ _ (x::t)
  unfold F3;rw[e,e2]
  rfl
theorem fo.abP {a:bi}{H:Hp}{B:Rb}{t:Fn}{Kn:Ft}(S:fo a B H n t Kn):fo a (B.bk c) (aF H B.bl.p (.dK c)) n t Kn:=by
 rw[02];obtain⟨as,all,h1,h2,h3⟩:=S.rd.toks;obtain⟨kk,k1,k2,k3⟩:=S.kn.vals;obtain⟨ff,f1,f2⟩:=S.kn.funs;have hy:=S.Tf;have e:=S.SH;obtain⟨d1,d2,d3,d4,d5,d6⟩:=S.Qh;have nr:B.r≠B.bl.p:=λw=>by rw[w,e] at er;cases er
 have nq:B.q≠B.bl.p:=λw=>by rw[w,e] at h1;cases h1
 refine#[#[#[dr,(by show aF H B.bl.p (.dK c) B.r=_;rw[ac nr];exact er)],as,all,(by show aF H B.bl.p (.dK c) B.q=_;rw[ac nq];exact h1),Paired.Nq h2 λb x ⟨dx,ex⟩=>#[dx,?_],h3],S.wh,#[#[kk,(by show aF H B.bl.p (.dK c) B.kd=_;rw[ac d3];exact k1),k2,k3],#[ff,(by show aF H B.bl.p (.dK c) B.fn=_;rw[ac d5];exact f1),f2],S.kn.len,#[ff,(by show aF H B.bl.p (.dK c) B.fn=_;rw[ac d5];exact f1),S.kn.fl f1]],(by show aF H B.bl.p (.dK c) B.ds.p=_;rw[ac d6];exact hy),ae,S.Qh,λb xs h=>?_]
 ·rw[ac λw=>by rw[w,e] at ex;cases ex]
  exact ex
 ·have e2:=S.fr b xs h
  rw[ac λw=>by rw[w,e] at e2;cases e2];exact e2
section
variable {β:Type}{Z:Zf β}{H:Hp}{Q:VK}{p:FC β}
theorem uX (Y:RX X Z.a Z.E) (R:RS Z F b H t Kn p) (hb:FK t= .bad->QE Z.a Z.B Z.H0 Z.E 1 (IA t)) (no:FK t≠ .bad->me v (FK t)=Gc->Q (.bl Gc) H)
  (yes: ∀ {x:GO×GD}{r:Fn},t=x::r->me v x.1=FS->x.1≠ .bad-> ¬jP x/\ ∃p',p (x::r)=(GL>>=λ_=>p') (x::r)/\ ∀H',RS Z F FS H' r Kn p'->Q (.bl FS) H') (hp:iA p2 p4:=by rfl):
  Pe X (.Call (.Attribute [005] "skips" p2) [.Constant (.str v) j p3] [] p4) (FB (.ref Z.B.r)::σ) H Q:=by
 rw[00];obtain⟨x,t',rfl,tok,Rc,M3,_⟩:=S.wh.first;refine Y.m1 Y.T.aac.c (BY Y.T Y.C) [01] Y.up S rfl (Yz #[Z.B.r,Z.B.q,Z.B.kd,Z.B.fn,Z.B.ds,Z.B.bl,n,x,t',v,Go,S.rd,λb=>hb (Rc.trans b) H R.k,no,λnb e H' hp=>?_]) hp rfl;obtain⟨nf,p',e',q⟩:=yes rfl e nb;exact q H' ((R.as e').past S nf hp (R.as e').w)
theorem xy (Y:RX X Z.a Z.E) (R:RS Z F b H t Kn p) (hf: ∀n,(qY Z.B.q Z.B.kd Z.B.fn Z.B.ds.p Z.B.bl.p n).lookup fld=FB (.ref gd)) (na:au X.K Z.a.GI fld) (hg:H gd=FB (.dK gg)) (st:aL p) (h2:FK t≠ .bad->cR (FK t)=Gc->p t=FT 2 t) (h4: ∀u,FK t= .word u->GK.contains u=Gc->has gg u=FS->p t=FT 4 t)
  (q: ∀u xp r,t=(.word u,xp)::r->GK.contains u=Gc->has gg u=Gc-> ∃p',p ((.word u,xp)::r)=(GL>>=λ_=>p') ((.word u,xp)::r)/\ ∀H',RS Z F FS H' r Kn p'->Q (.str (sb u)) H') (hp:iA p2 p4:=by rfl):
  Pe X (.Call (.Attribute [005] "take_name_not_in" p2) [.Attribute (.Name "reader" p3) fld p6] [] p4) (FB (.ref Z.B.r)::σ) H Q:=by
 rw[00];rw[02];obtain⟨⟨x,xp⟩,t',rfl,tok,Rc,M3,_⟩:=S.wh.first;refine Y.m1 Y.T.aae.c (jn Y.T Y.C) [01] Y.up S rfl #[_,aj Y.rd rfl,Z.B.r,_,dr,_,_,Go,er,Y.T.Gj,na,hf n,Z.B.r,Z.B.q,Z.B.kd,Z.B.fn,Z.B.ds,Z.B.bl,gd,n,(x,xp),t',gg,Go,S.rd,hg,λb=>st.L4 (Rc.trans b) R.w H R.k,λnb e=>fK (h2 nb e) nb R.w H R.k,λu ex e hu=>?_,λu ex e hu H' hp=>?_] hp rfl
 ·obtain⟨u',e1,e2⟩:=gN e
  obtain rfl:u=u':=by have:=ex.symm.trans e1;cases this;rfl
  exact fK (h4 u ex e2 hu) (by rw[show FK ((x,xp)::t')= .word u from ex];intro z;cases z) R.w H R.k
 ·obtain⟨u',e1,e2⟩:=gN e
  obtain rfl:u=u':=by have:=ex.symm.trans e1;cases this;rfl
  obtain rfl:x= .word u:=ex;obtain⟨p',e',q⟩:=q u xp t' rfl e2 hu;exact q H' ((R.as e').past S Y6 hp (R.as e').w)
theorem RS.abP {a:bi}{E:XK}{B:Rb}{H0:Hp}{Ro:β->Fn->Prop}(R:RS #[a,E,B,L,H0,Ro] F b H t Kn p):RS #[a,E,B.bk c,L,H0,Ro] F b (aF H B.bl.p (.dK c)) t Kn p:=by
 rw[00];have k:dg (eU B) H (aF H B.bl.p (.dK c)):=eX (.inr (.inr (.inr (.inr (.inl rfl)))));exact#[#[n,S.abP],R.k.trans k,λe=>jm.Ic k.two (R.f e),R.l,R.w]
end
section
variable {K:Ft}{β:Type}{g:B6->FC β}
theorem Dz (h1:FD t "let"=Gc) (h2:FD t "for"=Gc) (h3:FD t "if"=Gc) (h:FD t "block"=FS):(Lw (k+1) d K B>>=g) t=(GL>>=λ_=>J1 B>>=λm=>Jd>>=λXU=>du "zone" k K>>=λz=>du "price" k K>>=λp=>jb k K>>=λx=>
  Hu "under" (Jv B)>>=λu=>Hu "group" (FZ k HK K)>>=λgr=>Gm ";">>=λ_=>g (.block m XU z p x.1 x.2 u gr,K,j3 m B)) t:=by
 rw[aX (vN h1 h2 h3 h)];simp only[du,jb,bind_assoc,pure_bind]
end
theorem amy (T:aU K mg a) (XC:XT K a) (hk:9<=k)
  (G1: ∀ {v:FY}{s:String},cX v (Fj s)->T.Xw.O P w base k (gw a [.str v] (du s) 12 FS FS .e))
  (G2:T.d_C.O P w base k (gw a [.str "group"] (λf Kn=>Hu "group" (FZ f HK Kn)) 12 FS Gc .o))
  (G3:T.Xx.O P w base k (gw a [] jb 12 FS FS .am)):
  T.d_2.O P w base (k+1) (oJ a (λ_=>[]) λ_ t=>FD t "let"=Gc/\FD t "for"=Gc/\FD t "if"=Gc/\FD t "block"=FS):=by
 refine zg T XC (by lia) T.d_2.F alM (λ_=>rfl) λHb A outer s H β B L H0 Ro F b t Kn Bs d fu g Q E hr hd ho hf hB hc=>?_;intro X D Z en Y R q;have lL:=R.lL;have hm:Kn.values.length+(Z.at t.length).L<=4000:=R.room;obtain⟨n1,n2,n3,n4⟩:=ho;obtain⟨f,rfl⟩: ∃f,fu=f+1:=#[fu-1,by lia];have hF:16*(Z.at t.length).L+12<=f+16:=by show 16*t.length+12<=f+16;lia
 have cp: ∀ {v:FY}{s:String},cX v (Fj s)->CB X "read_part" ["reader","word"] (gw a [.str v] (du s) 12 FS FS .e):=λl=>#[G1 l,hr,T.Xw.c,Go]
 have ps: ∀ {γ:Type}{s:String}{f:FH}{h:Fz->FC γ},aL (du s f Kn>>=h):=(eS _).bind.bind;obtain⟨xp,r,e⟩:=eY R (beq_iff_eq.mp n4)
 have R:=R.at.as (Dz n1 n2 n3 n4);generalize hl:t.length=l at R lL hF hm hc hf;subst e;refine iO (Z:=Z.at l) Y uv R λH t R=>?_
 refine aN 1 Y.nd (mT ?_);refine gi (λσ' H'=> ∃(m:FA Fi) (t:Fn),σ'=[FB (.ref B.r),FB (ii m),FM,FM,FM,FM,FM,FM]/\RS (Z.at l) F FS H' t Kn (Jd>>=λXU=>du "zone" f Kn>>=λz=>du "price" f Kn>>=λp=>jb f Kn>>=λx=>
  Hu "under" (Jv Bs)>>=λu=>Hu "group" (FZ f HK Kn)>>=λgr=>Gm ";">>=λ_=>g (.block m XU z p x.1 x.2 u gr,Kn,j3 m Bs))) ?_ ?_
 ·rintro σ H ⟨m,t,rfl,R⟩
  refine wu (Z:=Z.at l) 2 Y R (hr.mono hk) λbu H t R=>?_;refine jd (Z:=Z.at l) 3 Y (cp wN) R hF (λ_=>ps) λe1 v1 H t R=>?_;refine jd (Z:=Z.at l) 4 Y (cp sP) R hF (λ_=>(eS _).bind.bind) λe2 v2 H t R=>?_;have l5:t.length+1<=l:=R.l;have en6: ∀x:Fi×Fz,aL (Hu "under" (Jv Bs)>>=λu=>Hu "group" (FZ f HK Kn)>>=λgr=>Gm ";">>=λ_=>g (.block m bu e1 e2 x.1 x.2 u gr,Kn,j3 m Bs)):=λ_=>(gm "under" _).strict λ_=>(gm "group" _).strict λ_=>(bo ";").bind;refine aN 5 Y.nd (e7 Y #[G3,hr,T.Xx.c,Go] #[B,l,H0,Ro,_,FS,t,Kn,f,_,Go,(by have:16*l+12<=f+16:=hF;lia),λ_=>DQ en6,R,λe3 v3 H t R=>?_]);have R:RS (Z.at l) _ FS H t Kn _:=R;refine aN 6 Y.nd (mT ?_);refine gi (λσ' H'=> ∃(un:FA Fi) (t:Fn),σ'=[FB (.ref B.r),FB (ii m),FB (kE bu),FB v1,FB v2,FB v3,FB (ii un),FM]/\RS (Z.at l) ((.am e3,v3)::(.e e2,v2)::(.e e1,v1)::F) FS H' t Kn (Hu "group" (FZ f HK Kn)>>=λgr=>Gm ";">>=λ_=>g (.block m bu e1 e2 e3.1 e3.2 un gr,Kn,j3 m Bs))) ?_ ?_
  ·rintro σ H ⟨un,t,rfl,R⟩
   refine pR (Z:=Z.at l) 7 Y #[G2,hr,T.d_C.c,Go] R hF (λ_=>(bo ";").bind) λe4 v4 H t R=>?_;refine cF (Z:=Z.at l) Y BO R λH t R=>?_;have l9:t.length+1<=l:=R.l;have R:=RS.back (Z:=Z) lL R;refine gi (λσ' H'=> ∃c',σ'=[FB (.ref B.r),FB (ii m),FB (kE bu),FB v1,FB v2,FB v3,FB (ii un),FB v4]/\Bk (B.bl.at_ c') (j3 m Bs)/\c'.length+t.length<=4000/\RS #[a,E,B.bk c',L,H0,Ro] ((.o e4,v4)::(.am e3,v3)::(.e e2,v2)::(.e e1,v1)::F) FS H' t Kn (g (.block m bu e1 e2 e3.1 e3.2 un e4,Kn,j3 m Bs))) ?_ ?_
   ·rintro σ H ⟨c',rfl,hB',WX,R⟩
    refine ic (Z:=#[a,E,B.bk c',L,H0,Ro]) Y (Da T) (aa (pv 1) (aa (pv 2) (aa (pv 3) (aa (pv 4) (aa (pv 5) (aa (pv 6) (aa (pv 7) ag))))))) [05] R rfl λw H i R=>?_;refine q (.block m bu e1 e2 e3.1 e3.2 un e4,Kn,j3 m Bs) w H t c' rfl hB' WX ((R.cut 4).and ?_);show a9 a (eU B) H (.block m bu e1 e2 e3.1 e3.2 un e4) w;unfold a9;exact#[v1,v2,v3,v4,i,R.f (i:=3) rfl,R.f (i:=2) rfl,R.f (i:=1) rfl,R.f (i:=0) rfl]
   ·refine#[_,fD (EE (pv 1)),_,Go,?_]
    cases m with
    |none=>exact bM #[B.bl.c,Go,hB,by lia,R]
    |some u=>
     rw[00];rw[02];refine ca (aR (g9 (dz hr) [000] (pv 1) tM rfl) #[B.r,_,dr,_,_,Go,er,T.Gj,T.JZ,Go,B.bl.p,_,Go, .inl #[B.bl.c,nk u,S.SH,Go,Gr (show B.bl.c.length<=4000 by lia) [01],Go],cf #[dB B.bl.c (nk u) (.bl FS),Go,λv=>?_,?_,R.abP]])
     ·show has (dB B.bl.c (nk u) (.bl FS)) v=(u::Bs).contains v
      rw[rC,GJ,hB v]
      congr 1
      rw[Hq,Gp,beq_iff_eq]
     ·have:=cD B.bl.c (nk u) (.bl FS)
      lia
  ·refine dv (uX (Z:=Z.at l) Y R (λb=>(en6 e3).L4 b R.w) (λnb e=>#[_,Go,bM #[FM,t,Go,R.as (bK (oQ ((b7 R.tok uq).symm.trans e)))]]) λ{x r} et e nb=>?_)
   subst et;have e:=(b7 R.tok uq).symm.trans e;obtain⟨x,xp⟩:=x;obtain rfl:x=_:=beq_iff_eq.mp e;refine#[Y6,Jv Bs>>=λu=>Hu "group" (FZ f HK Kn)>>=λgr=>Gm ";">>=λ_=>g (.block m bu e1 e2 e3.1 e3.2 (FB u) gr,Kn,j3 m Bs),?_,λH R=>#[_,Go,ca (aN 6 Y.nd (e7 Y #[aiP T XC,hr.mono hk,T.aal.c,Go] #[B,l,H0,Ro,_,FS,r,Kn,_,_,Go,#[Bs,hB,Go],R,λu H t R=>cf #[FB u,t,Go,R]]))]];rw[aX (qt e),bind_assoc];simp only[bind_assoc,pure_bind];exact bK (by unfold Hx;rw[Fv (show FD ((.word (Fj "under"),xp)::r) "under"=FS from e)])
 ·obtain⟨⟨x,xp⟩,r,rfl⟩:=R.cons
  refine dv (Y2 (Z:=Z.at l) Y T.d_X.c (oC T XC) [01] (λ_=>rfl) R (gT Bs).bind λnb=>#[_,Go,aP [015] λe=>?_])
  ·obtain⟨u,rfl,hu⟩:=gN e
   have em:=CA (B:=Bs) (xp:=xp) (t:=r) hu;rw[00];refine aN 1 Y.nd (xy (Z:=Z.at l) Y R (λ_=>rfl) T.JZ S.SH (gT Bs).bind (λ_ z=>FP e (by rw[z];exact Fl)) (λu' e1 _ hu'=>?_) λu' xp' r' e1 _ hu'=>?_)
   ·cases e1
    rw[Fv ((hB u).symm.trans hu')] at em;exact(aX (q:=FT 4) em).trans rfl
   ·cases e1
    have hx:Bs.contains u=Gc:=(hB u).symm.trans hu';rw[hx,Fs Fl] at em;exact#[_,(bK em).trans rfl,λH R=>cf #[FB u,r,Go,R]]
  ·exact#[FM,_,Go,R.as (Bj nb e)]
structure qx (K:Fm) (a:bi):Prop where
 t1:yj K a.L8
 t2:yj K a.Ny
 t3:yj K a.QL
 t4:yj K a.Lj
 t5:yj K a.JN
 k1:HA K (.ref a.L8) (.ref a.L8)=FB FS
 k2:HA K (.ref a.Ny) (.ref a.L8)=FB Gc
 k3:HA K (.ref a.QL) (.ref a.L8)=FB Gc
 k4:HA K (.ref a.Lj) (.ref a.L8)=FB Gc
 k5:HA K (.ref a.JN) (.ref a.L8)=FB Gc
theorem qx.of {K:Fm}{a:bi}{M:Fq->Prop}{H:Hp}(I:qx K a) (h:a9 a M H s v): ∃C,i4 K H v (.ref C)/\HA K (.ref C) (.ref a.L8)=FB (lM s).isSome:=by
 cases s with
 |bind x e=>
  unfold a9 at h;obtain⟨u,⟨p,dx,rfl,m,z⟩,_⟩:=h;exact#[_,I.t1.of z,I.k1]
 |loop x lo hi l=>
  unfold a9 at h;obtain⟨u1,u2,q,us,⟨p,dx,rfl,m,z⟩,_⟩:=h;exact#[_,I.t2.of z,I.k2]
 |cond c x y=>
  unfold a9 at h;obtain⟨u,q,us,g,ws,⟨p,dx,rfl,m,z⟩,_⟩:=h;exact#[_,I.t3.of z,I.k3]
 |step b z qu p top am=>
  unfold a9 at h;obtain⟨u1,u2,u3,u4,u5,⟨p,dx,rfl,m,z⟩,_⟩:=h;exact#[_,I.t4.of z,I.k4]
 |block nm b z p x am un g=>
  unfold a9 at h;obtain⟨u1,u2,u3,u4,⟨p,dx,rfl,m,z⟩,_⟩:=h;exact#[_,I.t5.of z,I.k5]
theorem fo.XX {a:bi}{H:Hp}{t:Fn}{K1 K2:Ft}(S:fo a B H n t K1) (hc:K1.values.contains u=FS) (hf:K2.funs=K1.funs) (hl:K2.values.length+1=K1.values.length)
  (hv: ∀v,K2.values.contains v=(!decide (v=u)&&K1.values.contains v)) {kk:Fh (be×V)}(e:H B.kd=FB (.dK kk)):has kk u=FS/\fo a B (aF H B.kd (.dK (fE kk (nk u)))) n t K2:=by
 rw[02];obtain⟨as,all,h1,h2,h3⟩:=S.rd.toks;obtain⟨kk',k1,k2,k3⟩:=S.kn.vals;obtain⟨ff,f1,f2⟩:=S.kn.funs;have hy:=S.Tf;have hz:=S.SH;obtain rfl:kk'=kk:=by rw[e] at k1;cases k1;rfl
 obtain⟨d1,d2,d3,d4,d5,d6⟩:=S.Qh;have nr:B.r≠B.kd:=λw=>by rw[w,e] at er;cases er
 have nq:B.q≠B.kd:=λw=>by rw[w,e] at h1;cases h1
 have hu:has kk' u=FS:=by rw[k3];exact hc
 have len:=S.kn.len;refine#[hu,#[#[dr,by rw[ac nr];exact er],as,all,by rw[ac nq];exact h1,Paired.Nq h2 λb x ⟨dx,ex⟩=>#[dx,?_],h3],S.wh,#[#[_,ae,?_,λv=>?_],#[ff,by rw[ac d1.symm];exact f1,by rw[hf];exact f2],by lia,#[ff,by rw[ac d1.symm];exact f1,(by rw[hf];exact S.kn.fl f1)]],(by rw[ac d2.symm];exact hy),(by rw[ac d3.symm];exact hz),S.Qh,λb xs h=>?_]
 ·rw[ac λw=>by rw[w,e] at ex;cases ex]
  exact ex
 ·have:(fE kk' (nk u)).length<kk'.length:=by
   unfold fE;refine VQ (Iv _ _) λw=>?_;rw[Qj] at w;unfold has bO at hu;rw[Ip,Nv] at hu;obtain⟨p,hp,e1⟩:=hu;have:=w p hp;simp only[N8] at this e1;exact this e1
  lia
 ·rw[ug,k3,hv]
 ·have e2:=S.fr b xs h
  rw[ac λw=>by rw[w,e] at e2;cases e2];exact e2
def yg (Kn:Ft) (ss:Fh Hj):Ft:=#[(jF ss).reverse++Kn.values,Kn.funs]
theorem rR {x:Fi}{rest V:Fh Fi}(h1:x∉rest) (h2:x∉V) (v:Fi):(rest.reverse++V).contains v=(!decide (v=x)&&((x::rest).reverse++V).contains v):=by
 by_cases e:v=x
 ·subst e
  rw[GQ rfl];show _=Gc;rw[VY];intro z;rcases F8.mp (Gw.mp z) with z|z
  ·exact h1 (J7.mp z)
  ·exact h2 z
 ·rw[Gg e]
  show _=((x::rest).reverse++V).contains v
  rw[Hq,Gw,Gw,F8,F8,J7,J7,FF];constructor
  ·rintro(z|z)
   ·exact .inl (.inr z)
   ·exact .inr z
  ·rintro((z|z)|z)
   ·exact FP z e
   ·exact .inl z
   ·exact .inr z
inductive kP (a:bi) (m:FH) (vs:Fh V) (H:Hp) (Q:VK) (E:XK):Prop
 |mk {β:Type}(B:Rb) (L:FH) (H0:Hp) (Ro:β->Fn->Prop) (F:Fh (Fk×V)) (b:GA) (t:Fn) (Kn:Ft) (Bs:Ig) (d f:FH) (g:Jn×Ig->FC β) (_:vs=[.ref B.r, .int d]) (_:d<=6) (_:7<=d+m) (_:16*t.length<=f) (_:Bk B.bl Bs) (_:B.bl.c.length+t.length<=4000) (_:RS ⟨a,E,B,L,H0,Ro⟩ F b H t Kn (Gm "{">>=λ_=>Ki f (6-d) Kn Bs>>=g))
  (_: ∀l v H' t' c',Bk (B.bl.at_ c') l.2->c'.length+t'.length<=4000->RS #[a,E,B.bk c',L,H0,Ro] ((.sts l.1,v)::F) FS H' t' Kn (g l)->Q v H'):kP a m vs H Q E
abbrev pZ (a:bi) (m:FH) (ok:Fn->Prop):Sp:=oJ a (λd=>[.int d]) λd t=>7<=d+m/\ok t
section
variable {k m:FH}{x Hl:FY}{st:Stmt}{f:Fq}{fd:Gz}{N:Fh FY}
theorem amz (T:aU K mg a) (XC:XT K a) (hk:8<=k) (F:oY K x Hl st f fd) (S:ay N ["reader","depth"] (af st))
  (JO: ∀(Hb:Fp) (A:Hc) (outer:Fh Env) (s:Fw) (H:Hp) {β:Type}(B:Rb) (L:FH) (H0:Hp) (Ro:β->Fn->Prop) (F:Fh (Fk×V)) (b:GA) (t:Fn) (Kn:Ft) (Bs:Ig) (d fu:FH) (g:Jn×Ig->FC β) (Q:VK) (E:XK),bZ k (A.deeper [011])->d<=6->7<=d+m->16*t.length<=fu->Bk B.bl Bs->B.bl.c.length+t.length<=4000->
   let X:=fi (f9 P w) P w K mg base N Hl (af st) f Hb A outer s H E
   let D:d9:= { nx:=λ_ H'=>Q .IX H',rt:=Q }
   let Z:Zf β:=#[a,E,B,L,H0,Ro]
   RX X a E->RS Z F b H t Kn (Gm "{">>=λ_=>Ki fu (6-d) Kn Bs>>=g)->(∀l v H' t' c',Bk (B.bl.at_ c') l.2->c'.length+t'.length<=4000->RS #[a,E,B.bk c',L,H0,Ro] ((.sts l.1,v)::F) FS H' t' Kn (g l)->Q v H')->Bd X (bf st) D (L2.start N [.ref B.r, .int d]) H):bV P w K mg base (f9 P w) (k+1) f fd ["reader","depth"] (kP a m):=by
 refine fS F S [03] [02];obtain⟨B,L,H0,Ro,F,b,t,Kn,Bs,d,fu,g,rfl,h1,h2,h3,h4,h5,R,q⟩:=h;exact JO Hb A outer s H B L H0 Ro F b t Kn Bs d fu g Q E hr h1 h2 h3 h4 h5 (ka T XC hk S hr) R q
end
abbrev fkS (ps:Fh (Hj×V)) (F:Fh (Fk×V)):Fh (Fk×V):=(ps.map λx=>(Fk.st x.1,x.2))++F
theorem t8 {a:bi}{M:Fq->Prop}{H:Hp}{F:Fh (Fk×V)}{l:Jn}{ws:Fh V}(hl:bE a M H l ws): ∀ {ps:Fh (Hj×V)},(∀ {i:FH}{x:Fk×V},(fkS ps F)[i]?=FB x->jm a M H x)->bE a M H (Dk (ps.map (·.1)).reverse l) ((ps.map (·.2)).reverse++ws)
 |[],_=>hl
 | (e,v)::ps,h=>by
  rw[FX,FX,GZ,GZ,sL,GN];refine t8 (l:= .cons e l) ?_ λ{i x} q=>h (i:=i+1) q;unfold bE;exact#[v,ws,Go,h (i:=0) rfl,hl]
theorem abQ {F:Fh (Fk×V)}{ps:Fh (Hj×V)}{i:FH}{y:V}(h:((ps.map λx:Hj×V=>x.2).reverse)[i]?=FB y): ∃(s:Hj) (j:FH),((ps.map λx:Hj×V=>x.1).reverse)[i]?=FB s/\(fkS ps F)[j]?=FB (Fk.st s,y):=by
 have hi:i<ps.length:=by
  obtain⟨h,_⟩:=Gq.mp h;rw[GS,FE] at h;exact h
 rw[TR (by rw[FE];exact hi),FE,GB] at h;obtain⟨⟨s,v⟩,e,rfl⟩:=Gs.mp h;refine#[s,ps.length-1-i,?_,?_]
 ·rw[TR (by rw[FE];exact hi),FE,GB,e]
  rfl
 ·rw[RK (by rw[FE];lia),GB,e]
  rfl
theorem hU.drop {Kn K1:Ft}{ss:Fh Hj}{x:Fi}(lo:hU Kn ss K1) (h:ss[i]?=FB (.bind x e)):(yg Kn (ss.drop i)).values.contains x=FS/\(yg Kn (ss.drop (i+1))).values.length+1=(yg Kn (ss.drop i)).values.length/\ ∀v,(yg Kn (ss.drop (i+1))).values.contains v=(!decide (v=x)&&(yg Kn (ss.drop i)).values.contains v):=by
 have ed:ss.drop i= .bind x e::ss.drop (i+1):=by
  obtain⟨h,e⟩:=Gq.mp h;rw[<-e];exact Hy h
 have el:jF (Hj.bind x e::ss.drop (i+1))=x::jF (ss.drop (i+1)):=rfl
 have sub:(x::jF (ss.drop (i+1))).Sublist (jF ss):=by
  rw[<-el,<-ed];exact(VZ i ss).filterMap lM
 have nin:=(Gu.mp (sub.nodup lo.nodup)).1
 have nV:=lo.free x (sub.subset (Fy ..));unfold yg;rw[ed,el];refine#[Gw.mpr (F8.mpr (.inl (J7.mpr (Fy ..)))),?_,rR nin nV];simp only[FR,GS,FG];lia
theorem CH {Kn:Ft}{ss:Fh Hj}(h:ss[i]?=FB s) (hl:lM s=FM):yg Kn (ss.drop i)=yg Kn (ss.drop (i+1)):=by
 have ed:ss.drop i=s::ss.drop (i+1):=by
  obtain⟨h,e⟩:=Gq.mp h;rw[<-e];exact Hy h
 rw[ed];unfold yg jF;rw[K9,hl]
theorem B9 {x:Fi}(hl:lM s=FB x): ∃e1,s= .bind x e1:=by
 cases s with
 |bind y e1=>cases hl;exact#[e1,Go]
 |loop _ _ _ _=>cases hl
 |cond _ _ _=>cases hl
 |step _ _ _ _ _ _=>cases hl
 |block _ _ _ _ _ _ _ _=>cases hl
inductive BrI {β:Type}(Z:Zf β) (Ls:Fq) (F:Fh (Fk×V)) (Kn:Ft) (d l:FH) (g:Jn×Ig->FC β) (σ0:L2.St) (m:FH) (σ:L2.St) (H:Hp):Prop
 |mk (ps:Fh (Hj×V)) (K1:Ft) (B1:Ig) (c:Fh (be×V)) (t:Fn) (f:FH) (_:m=t.length) (_:σ=σ0) (_:ps.length+t.length<l) (_:Bk (Z.B.bl.at_ c) B1) (_:c.length+t.length<=4000) (_:16*t.length+15<=f) (_:hU Kn (ps.map (·.1)).reverse K1)
  (_:RS (Zf.mo { Z with B:=Z.B.bk c } Ls (ps.map (·.2)).reverse) (fkS ps F) FS H t K1 (Ki f d K1 B1>>=λx=>g (Dk (ps.map (·.1)).reverse x.1,x.2))):BrI Z Ls F Kn d l g σ0 m σ H
section
variable {β:Type}{Z:Zf β}{H:Hp}{p:FC β}
theorem mV {e f:HM}{te:TE}(hL:H L=FB (.lst us)) (he:PE X e te) (hv: ∀R:VK,R (.ref L) H->te σ H R) (q:Pe X f σ H λv H1=> ∃(Z:Zf β) (F':Fh (Fk×V)) (b':GA) (t':Fn) (XS:Ft) (p':FC β),v9 Z L/\us.length<Gk/\RS (Z.mo L us) F' b' H1 t' XS p'/\(∀H2,RS (Z.mo L (us++[v])) F' b' H2 t' XS p'->Bd X ss D σ H2))
  (hb:IM e "append" X.env (eval e X.env)=eval e X.env:=by rfl) (KH:FU [f] X.env=[(Gc,eval f X.env)]:=by rfl) (hp:iA p2 p4:=by rfl):
  Bd X (.Expr (.Call (.Attribute e "append" p2) [f] [] p4) p5::ss) D σ H:=by
 refine iP he hv hL (q.mono λv H1 z=>?_) hb KH hp;obtain⟨Z,F',b',t',XS,p',N,h1,R',h2⟩:=z;exact#[us,R'.QU,h1,h2 _ (R'.push N)]
theorem m8 {te:TE}(Y:RX X Z.a Z.E) (he:PE X e te) (hv: ∀Q:VK,Q (.str (sb u)) H->te (FB (.ref Z.B.r)::σ) H Q) (R:RS Z F b H t K1 p) (hc:K1.values.contains u=FS) (hf:K2.funs=K1.funs) (hl:K2.values.length+1=K1.values.length) (hk: ∀v,K2.values.contains v=(!decide (v=u)&&K1.values.contains v))
  (q: ∀H',RS Z F b H' t K2 p->Bd X ss D (FB (.ref Z.B.r)::σ) H') (hp:iA p2 p4:=by rfl) (KH:FU [e] X.env=[[001]]:=by rfl):
  Bd X (.Expr (.Call (.Attribute [005] "forget" p2) [e] [] p4) p5::ss) D (FB (.ref Z.B.r)::σ) H:=by
 rw[00];rw[02];obtain⟨kk,k1,k2,k3⟩:=S.kn.vals;obtain⟨hu,S'⟩:=S.XX hc hf hl hk k1;refine bF (Y.m1 Y.T.Xk.c (pH Y.T) [01] aT S rfl #[_,he,hv _ #[Z.B.r,dr,Z.B.q,Z.B.kd,Z.B.fn,Z.B.ds,Z.B.bl,n,u,kk,Go,er,k1,hu,?_]] hp KH);exact q _ (R.go S' (eX (.inr (.inl rfl))) R.l R.w)
end
theorem amA (T:aU K mg a) (XC:XT K a) (IL:qx K a) (hk:8<=k)
  (G:T.Xt.O P w base k (pZ a m λ_=>True)):
  T.WW.O P w base (k+1) (kP a m):=by
 refine amz T XC hk T.WW.F ahu λHb A outer s H β B L H0 Ro F b t Kn Bs d fu g Q E hr hd hm hf hB hc=>?_;intro X D Z Y R q;have lL:=R.lL;have room:=R.room;refine cF (Z:=Z.at t.length) Y aiI R.at λH t1 R=>?_;have l1:t1.length+1<=t.length:=R.l;have R:=RS.back (Z:=Z) lL R;refine mt 2 Y R λLs H N R=>?_;refine f7 Y.lv (BrI Z Ls F Kn (6-d) t.length g [FB (.ref B.r),FB (.int d),FB (.ref Ls),FM]) _ #[[],Kn,Bs,B.bl.c,t1,fu,Go,Go,by show 0+t1.length<_;lia,hB,by lia,by lia,hU.nil,R] ?_;rintro mm σ H ⟨ps,K1,B1,c,t2,f,rfl,rfl,ul,hB1,hc1,hf1,lo,R⟩;rw[03];have N': ∀ {c:Fh (be×V)},v9 { Z with B:=Z.B.bk c } Ls:=#[N.n0,N.nm,N.nx,N.nq];have len:((ps.map (·.2)).reverse:Fh V).length=ps.length:=by rw[GS,FE]
 refine jr (dv (iC (Z:=Zf.mo { Z with B:=Z.B.bk c } Ls (ps.map (·.2)).reverse) Y R (jU _ _ _ _).bind λnb=>[021]));rw[cP R.tok Za];cases hs:(FK t2 == Jq (Fj "}")) with
 |false=>
  have R1:RS (Zf.mo { Z with B:=Z.B.bk c } Ls (ps.map (·.2)).reverse) (fkS ps F) FS H t2 K1 (Lw f (6-d) K1 B1>>=λs=>Ki f (6-d) s.2.1 s.2.2>>=λx=>g (Dk (ps.map (·.1)).reverse (.cons s.1 x.1),x.2)):=by
   have:=R.asf (AN hs);simp only[bind_assoc,pure_bind] at this;exact this
  refine ca (mV (β:=β) R.QU (pv 2) [05] #[_,Y.call2 #[G,hr,T.Xt.c,Go] (pv 1) [01] rfl,(B.bk c).more Ls (ps.map (·.2)).reverse,t2.length,H0,Ro,fkS ps F,Gc,t2,K1,B1,d,f,_,Go,hd,#[hm,Hs],by lia,hB1,hc1,DQ λs=>(jU f (6-d) s.2.1 s.2.2).bind,R1.at,λs v H' t' c' kn hB' WX R2=>?_]);have l2:t'.length+1<=t2.length:=R2.l;have R2:=RS.back (Z:=Zf.mo { Z with B:=Z.B.bk c' } Ls (ps.map λx:Hj×V=>x.2).reverse) (l:=t2.length) (by show t2.length<=L;have:t.length<=L:=lL;lia) R2;refine#[{ Z with B:=Z.B.bk c' },_,_,_,_,_,N',by rw[len];exact Gr (show ps.length<=4000 by lia) [01],R2,λH3 R3=>?_];refine gt #[_,l2,(s.1,v)::ps,s.2.1,s.2.2,c',t',f,Go,Go,(by rw[FG];lia),hB',WX,(by lia),?_,?_]
  ·rw[FX,GZ]
   exact lo.snoc kn
  ·rw[FX,FX,GZ,GZ]
   simp only[sL];exact R3
 |true=>
  obtain⟨xp,r,rfl⟩:=xl R (beq_iff_eq.mp hs);refine bM (Dc (Z:=Zf.at (Zf.mo { Z with B:=Z.B.bk c } Ls (ps.map (·.2)).reverse) ((Jq (Fj "}"),xp)::r).length) Y Za (R.at.as (p':=GL>>=λ_=>g (Dk (ps.map (·.1)).reverse .nil,B1)) (bK (zi hs))) λH t5 R=>?_);have l5:t5.length+1<=((Jq (Fj "}"),xp)::r).length:=R.l;have R:=RS.back (Z:=Zf.mo { Z with B:=Z.B.bk c } Ls (ps.map λx:Hj×V=>x.2).reverse) (by show((Jq (Fj "}"),xp)::r).length<=L;have:t.length<=L:=lL;lia) R;have eK:K1=yg Kn (ps.map (·.1)).reverse:=by
   obtain⟨v1,f1⟩:=K1;unfold yg;rw[<-lo.vals,<-lo.funs]
  rw[eK] at R;generalize hss:(ps.map (·.1)).reverse=ss at R lo;generalize hus:(ps.map (·.2)).reverse=us at R len;refine ki 3 Y.lv Y.nd (pv 2) [05] (λi σ H=> ∃v:FA V,σ=[FB (.ref B.r),FB (.int d),FB (.ref Ls),v]/\RS (Zf.mo { Z with B:=Z.B.bk c } Ls us) (fkS ps F) FS H t5 (yg Kn (ss.drop i)) (g (Dk ss .nil,B1))) #[FM,Go,R] (λ_ _ _ _ ⟨_,_,R⟩=>R.QU) ?_ ?_
  ·rintro i y σ H hi ⟨v,rfl,R⟩
   rw[<-hus] at hi;obtain⟨s,j,hs,hj⟩:=abQ (F:=F) hi;rw[hss] at hs;have sa:a9 a (eU (Zf.mo { Z with B:=Z.B.bk c } Ls us).B) H s y:=R.f hj;obtain⟨C,ty,kit⟩:=IL.of sa;refine bI #[_,cT (aY jg (by rfl) T.KQ O9 (aa (pv 3) (aa (gW (by rfl) T.T6) ag))),_,_,_,_,Go,ty,kit,_,Go,?_];cases hl:lM s with
   |none=>
    rw[CH hs hl] at R;exact bM (cf #[_,Go,R])
   |some x=>
    obtain⟨e1,rfl⟩:=B9 hl;obtain⟨h1,h2,h3⟩:=lo.drop hs;unfold a9 at sa;obtain⟨ue,⟨p,dx,rfl,mp,zp⟩,_⟩:=sa;exact ca (m8 (Z:=Zf.mo { Z with B:=Z.B.bk c } Ls us) Y (aj (pv 3) rfl) (λQ q=>#[p,_,dx,_,_,Go,zp,T.RY,T.Og,Go,q]) (K2:=yg Kn (ss.drop (i+1))) R h1 rfl h2 h3 λH R=>cf (cf #[_,Go,R]))
  ·rintro σ H ⟨v,rfl,R⟩
   have eL:us.length=ss.length:=by rw[len,<-hss,GS,FE]
   rw[eL,QQ] at R;have R1:=R.less N';refine aM #[_,pv 2,q (Dk ss .nil,B1) (.ref Ls) H t5 c hB1 (by lia) ?_];have R2:RS { Z with B:=Z.B.bk c } F FS H t5 Kn (g (Dk ss .nil,B1)):=by
    have:=R1.cut ps.length;rw[show(fkS ps F).drop ps.length=F from Fh.drop_left' (by rw[FE])] at this;exact this
   refine R2.and #[us,#[Ls,Go,N.nm,R.QU],?_];rw[<-hss,<-hus,<-GV (Fh.reverse (ps.map (·.2)))];exact t8 (F:=F) (by unfold bE;rfl) λe=>R1.f e
theorem Dy:cX "for" (Fj "for"):=[007]
section
variable {K:Ft}{β:Type}{g:B6->FC β}{a:Jn×Ig}
theorem abR (h1:FD t "let"=Gc) (h:FD t "for"=FS):(Lw (k+1) d K B>>=g) t=(HH d>>=λn=>GL>>=λ_=>GY K>>=λx=>Hx "in">>=λ_=>FZ k HK K>>=λlo=>Gm "..">>=λ_=>FZ k HK K>>=λhi=>
  Gm "{">>=λ_=>Ki k n (K.with x) B>>=λl=>g (.loop x lo hi l.1,K,l.2)) t:=by
 rw[aX (BW h1 h)];simp only[bind_assoc,pure_bind]
theorem aiQ (h1:FD t "let"=Gc) (h2:FD t "for"=Gc) (h:FD t "if"=FS):(Lw (k+1) d K B>>=g) t=(HH d>>=λn=>GL>>=λ_=>FZ k HK K>>=λc=>Gm "{">>=λ_=>Ki k n K B>>=λa=>lz k n K c a>>=g) t:=by
 rw[aX (DM h1 h2 h)];simp only[bind_assoc]
theorem wO (h:FD t "else"=Gc):(lz k n K c a>>=g) t=g (.cond c a.1 .nil,K,a.2) t:=by
 unfold lz;rw[bind_assoc];exact(bK (x:=Gc) (r:=t) (by unfold X7;rw[Fs (by rw[h];exact Fl)])).trans rfl
theorem AB (h:FD (x::r) "else"=FS):(lz k n K c a>>=g) (x::r)=(GL>>=λ_=>Gm "{">>=λ_=>Ki k n K a.2>>=λb=>g (.cond c a.1 b.1,K,b.2)) (x::r):=by
 unfold lz;rw[bind_assoc];refine(bK (x:=FS) (r:=r) (by unfold X7;rw[Fv h];rfl)).trans ?_;rw[Fv rfl];simp only[bind_assoc,pure_bind]
 rfl
end
theorem aiR (T:aU K mg a) (XC:XT K a) (hk:8<=k) (G:oF P w K mg base a k)
  (G2:T.WW.O P w base k (kP a m)):
  T.Xu.O P w base (k+1) (pZ a (m+1) λt=>FD t "let"=Gc/\FD t "for"=FS):=by
 refine zg T XC hk T.Xu.F ahx (λ_=>rfl) λHb A outer s H β B L H0 Ro F b t Kn Bs d fu g Q E hr hd ho hf hB hc=>?_;intro X D Z en Y R q;have lL:=R.lL;have hm:Kn.values.length+(Z.at t.length).L<=4000:=R.room;obtain⟨dm,n1,n2⟩:=ho;obtain⟨xp,r,e⟩:=eY R (beq_iff_eq.mp n2);obtain⟨f,rfl⟩: ∃f,fu=f+1:=#[fu-1,by lia];have c:CB X "read_exp" ["reader","depth"] (a0 a FS FZ 12 (Lv 13)):=#[G,hr,T.SV.c,Go];have hF:16*(Z.at t.length).L+12<=f+16:=by show 16*t.length+12<=f+16;lia
 have R:=R.at.as (abR n1 n2);generalize hl:t.length=l at R lL hF hm hc hf
 have nb:FK t≠ .bad:=by rw[e];intro z;cases z
 subst e;refine tI (Z:=Z.at l) 2 Y hd nb R λlt R=>?_;refine iO (Z:=Z.at l) Y Dy R λH t R=>?_;refine i8 (Z:=Z.at l) 3 Y R λu H t ft R=>?_;refine lr (Z:=Z.at l) Y Y3 R λH t R=>?_;refine eF (Z:=Z.at l) (d:=0) 4 Y c ak [05] R (m6 λ_=>(bo "..").bind) (F6 _) zO hF λe1 v1 H t R=>?_;refine cF (Z:=Z.at l) Y Y4 R λH t R=>?_;refine eF (Z:=Z.at l) (d:=0) 5 Y c ak [05] R (m6 λ_=>(bo "{").bind) (F6 _) zO hF λe2 v2 H t R=>?_;refine gL (Z:=Z.at l) Y (pv 3) [05] ft hm R λH R=>?_;have l7:t.length+1<=l:=R.l;refine aN 6 Y.nd #[_,Y.call2 #[G2,hr,T.WW.c,Go] (pv 2) [01] rfl,B,l,H0,Ro,_,_,t,Kn.with u,Bs,d+1,f,_,Go,lt,by lia,by lia,hB,by lia,R,λx v3 H t c' hB' WX R=>?_];refine kX (Z:=#[a,E,B.bk c',l,H0,Ro]) Y (pv 3) [05] ft R λH R=>?_;refine ic (Z:=#[a,E,B.bk c',l,H0,Ro]) Y (abo T) (aa (pv 3) (aa (pv 4) (aa (pv 5) (aa (pv 6) ag)))) [05] R rfl λw H i R=>?_;have R:=RS.back (Z:=#[a,E,B.bk c',L,H0,Ro]) lL R;refine q (.loop u e1 e2 x.1,Kn,x.2) w H t c' rfl hB' WX ((R.cut 3).and ?_);obtain⟨us,la,sa⟩:mJ a (eU B) H x.1 v3:=R.f (i:=0) rfl;show a9 a (eU B) H (.loop u e1 e2 x.1) w;unfold a9;exact#[v1,v2,v3,us,i,R.f (i:=2) rfl,R.f (i:=1) rfl,la,sa]
theorem aiS (T:aU K mg a) (XC:XT K a) (hk:8<=k) (G:oF P w K mg base a k)
  (G2:T.WW.O P w base k (kP a m)):
  T.Xv.O P w base (k+1) (pZ a (m+1) λt=>FD t "let"=Gc/\FD t "for"=Gc/\FD t "if"=FS):=by
 refine zg T XC hk T.Xv.F ahy (λ_=>rfl) λHb A outer s H β B L H0 Ro F b t Kn Bs d fu g Q E hr hd ho hf hB hc=>?_;intro X D Z en Y R q;have lL:=R.lL;obtain⟨dm,n1,n2,n3⟩:=ho;obtain⟨xp,r,e⟩:=eY R (beq_iff_eq.mp n3);obtain⟨f,rfl⟩: ∃f,fu=f+1:=#[fu-1,by lia];have c:CB X "read_exp" ["reader","depth"] (a0 a FS FZ 12 (Lv 13)):=#[G,hr,T.SV.c,Go];have hF:16*(Z.at t.length).L+12<=f+16:=by show 16*t.length+12<=f+16;lia
 have R:=R.at.as (aiQ n1 n2 n3);generalize hl:t.length=l at R lL hF hc hf
 have nb:FK t≠ .bad:=by rw[e];intro z;cases z
 subst e;refine tI (Z:=Z.at l) 2 Y hd nb R λlt R=>?_;refine iO (Z:=Z.at l) Y xH R λH t R=>?_;refine eF (Z:=Z.at l) (d:=0) 3 Y c ak [05] R (m6 λ_=>(bo "{").bind) (F6 _) zO hF λe1 v1 H t R=>?_;have l4:t.length+1<=l:=R.l;have cb:CB X "read_braces" ["reader","depth"] (kP a m):=#[G2,hr,T.WW.c,Go];refine aN 4 Y.nd #[_,Y.call2 cb (pv 2) [01] rfl,B,l,H0,Ro,_,_,t,Kn,Bs,d+1,f,_,Go,lt,by lia,by lia,hB,by lia,R,λx v3 H t c3 hB3 hc3 R=>?_];refine mt (Z:=#[a,E,B.bk c3,l,H0,Ro]) 5 Y R λLs H N R=>?_;have R:=(R.less N).and (e:=(.sts .nil, .ref Ls)) #[[],#[Ls,Go,N.nm,R.QU],by unfold bE;rfl];have l5:t.length+1<=l:=R.l;refine gi (λσ' H'=> ∃(y:Jn) (B5:Ig) (v5:V) (c5:Fh (be×V)) (t5:Fn),σ'=[FB (.ref B.r),FB (.int d),FB (.int ((d+1:FH):Int)),FB v1,FB v3,FB v5]/\Bk (B.bl.at_ c5) B5/\c5.length+t5.length<=4000/\RS #[a,E,B.bk c5,l,H0,Ro] ((.sts y,v5)::(.sts x.1,v3)::(.e e1,v1)::F) FS H' t5 Kn (g (.cond e1 x.1 y,Kn,B5))) ?_ ?_
 ·rintro σ H ⟨y,B5,v5,c5,t5,rfl,hB5,hc5,R⟩
  refine ic (Z:=#[a,E,B.bk c5,l,H0,Ro]) Y (ahL T) (aa (pv 3) (aa (pv 4) (aa (pv 5) ag))) [05] R rfl λw H i R=>?_;have R:=RS.back (Z:=#[a,E,B.bk c5,L,H0,Ro]) lL R;refine q (.cond e1 x.1 y,Kn,B5) w H t5 c5 rfl hB5 hc5 ((R.cut 3).and ?_);obtain⟨us,la,sa⟩:mJ a (eU B) H x.1 v3:=R.f (i:=1) rfl;obtain⟨us5,la5,sa5⟩:mJ a (eU B) H y v5:=R.f (i:=0) rfl;show a9 a (eU B) H (.cond e1 x.1 y) w;unfold a9;exact#[v1,v3,us,v5,us5,i,R.f (i:=2) rfl,la,sa,la5,sa5]
 ·refine dv (uX (Z:=#[a,E,B.bk c3,l,H0,Ro]) Y R (λb=>en _ t b (R.as (wO (cq b "else"))).w) (λnb e=>#[_,Go,bM #[.nil,x.2, .ref Ls,c3,t,Go,hB3,hc3,R.as (wO ((b7 R.tok qV).symm.trans e))]]) λ{y r} et e nb=>?_)
  subst et;have e:=(b7 R.tok qV).symm.trans e;obtain⟨y,yp⟩:=y;obtain rfl:y=_:=beq_iff_eq.mp e;refine#[Y6,_,AB e,λH R=>#[_,Go,ca (aN 5 Y.nd #[_,Y.call2 cb (pv 2) [01] rfl,B.bk c3,l,H0,Ro,_,_,r,Kn,x.2,d+1,f,_,Go,lt,by lia,by rw[FG] at l5;lia,hB3,by rw[FG] at hc3;show c3.length+_<=_;lia,R.cut 1,λy v5 H t c5 hB5 hc5 R=>cf #[y.1,y.2,v5,c5,t,Go,hB5,hc5,R]])]]
abbrev abS (P:Gh) (w:GR) (K:Fm) (mg:FY->FA Fp) (base:Ha) (a:bi) (k:FH) (f:Fq) (fd:Gz) (ok:Fn->Prop):Prop:=bV P w K mg base (f9 P w) k f fd ["reader"] (oJ a (λ_=>[]) λ_ t=>ok t)
theorem aiT (T:aU K mg a) (XC:XT K a) (hk:8<=k)
  (G1:abS P w K mg base a k a.f_Z a.aeW λt=>FD t "let"=FS)
  (G2:T.Xu.O P w base k (pZ a m λt=>FD t "let"=Gc/\FD t "for"=FS))
  (G3:T.Xv.O P w base k (pZ a m λt=>FD t "let"=Gc/\FD t "for"=Gc/\FD t "if"=FS))
  (G4:abS P w K mg base a k a.f_2 a.ae2 λt=>FD t "let"=Gc/\FD t "for"=Gc/\FD t "if"=Gc/\FD t "block"=FS)
  (G5:abS P w K mg base a k a.f_1 a.ae1 λt=>FD t "let"=Gc/\FD t "for"=Gc/\FD t "if"=Gc/\FD t "block"=Gc):
  T.Xt.O P w base (k+1) (pZ a m λ_=>True):=by
 refine zg T XC hk T.Xt.F ahv (λ_=>rfl) λHb A outer s H β B L H0 Ro F b t Kn Bs d fu g Q E hr hd ho hf hB hc=>?_;intro X D Z en Y R q;have see: ∀ {ss:Fh Stmt}{A:Fh Stmt}{s:String}{v:FY}{j:FH}{p1 p2 p3 p4 p5:Pos}(lit:cX v (Fj s)) (hp:iA p2 p4),(FD t s=FS->Bd X A (D.to X ss) [FB (.ref B.r),FB (.int d)] H)->(FD t s=Gc->Bd X ss D [FB (.ref B.r),FB (.int d)] H)->Bd X (.If (.Call (.Attribute [005] "sees" p2) [.Constant (.str v) j p3] [] p4) A [] p5::ss) D [FB (.ref B.r),FB (.int d)] H:=λlit hp yes no=>
  bI (dv (iC (Z:=Z) Y R (lX _ _ _ _).bind (λnb=>#[_,Go,by rw[b7 R.tok lit];exact aP yes no]) hp))
 refine see CQ rfl (λe1=>aM (e7 Y #[G1,hr,T.d_Z.c,Go] #[B,L,H0,Ro,F,b,t,Kn,Bs,d,fu,g,Go,hd,e1,hf,hB,hc,en,R,q])) λe1=>?_;refine see Dy rfl (λe2=>aM #[_,Y.call2 #[G2,hr,T.Xu.c,Go] (pv 1) [01] rfl,B,L,H0,Ro,F,b,t,Kn,Bs,d,fu,g,Go,hd,#[ho.1,e1,e2],hf,hB,hc,en,R,q]) λe2=>?_;refine see xH rfl (λe3=>aM #[_,Y.call2 #[G3,hr,T.Xv.c,Go] (pv 1) [01] rfl,B,L,H0,Ro,F,b,t,Kn,Bs,d,fu,g,Go,hd,#[ho.1,e1,e2,e3],hf,hB,hc,en,R,q]) λe3=>?_;refine see uv rfl (λe4=>aM (e7 Y #[G4,hr,T.d_2.c,Go] #[B,L,H0,Ro,F,b,t,Kn,Bs,d,fu,g,Go,hd,#[e1,e2,e3,e4],hf,hB,hc,en,R,q])) λe4=>?_;exact aM (e7 Y #[G5,hr,T.d_1.c,Go] #[B,L,H0,Ro,F,b,t,Kn,Bs,d,fu,g,Go,hd,#[e1,e2,e3,e4],hf,hB,hc,en,R,q])
theorem rY {H:Hp}{Q:VK}{E:XK}(h:kP a 0 vs H Q E):False:=by
 obtain⟨B,L,H0,Ro,F,b,t,Kn,Bs,d,f,g,e,hd,hm,_⟩:=h;lia
theorem yC (T:aU K mg a) (XC:XT K a) (IL:qx K a) (hk:8<=k) (G:oF P w K mg base a k): ∀m:FH,
  T.WW.O P w base (k+3+3*m) (kP a m):=by
 intro m
 induction m with
 |zero=>exact fS T.WW.F ahu (λ_ _ _ _ h=>(rY h).elim) (λ_ _ _ _ _ _ _ _ _ h=>(rY h).elim)
 |succ m ih=>
  have Pa: ∀ {v:FY}{s:String},cX v (Fj s)->T.Xw.O P w base (k+2) (gw a [.str v] (du s) 12 FS FS .e):=λl=>(abM l T XC hk G).mono (by lia)
  have Am:=aiO T XC hk G
  have Le:=amw T XC (by lia) (aiK T XC hk G)
  have St:=amx T XC (by lia) Pa (aiL Zb T XC (by lia) (abM Zb T XC hk G))
  have Bl:=amy T XC (by lia) Pa (aiL tK T XC (by lia) (abM tK T XC hk G)) (Am.mono (by lia))
  have Fo:=aiR T XC (by lia) (G.mono (by lia:k<=k+3+3*m)) ih
  have If_:=aiS T XC (by lia) (G.mono (by lia:k<=k+3+3*m)) ih
  have Sm:=aiT T XC (by lia) (Le.mono (by lia)) Fo If_ (Bl.mono (by lia)) (St.mono (by lia))
  have:=amA T XC IL (by lia) Sm;exact this.mono (by lia)
theorem sU:cX "const" (Fj "const"):=[007]
abbrev Rb.tp (B:Rb) (dc:Fh (be×V)) (bp:Fq) (bc:Fh (be×V)):Rb:= { B with ds:=#[B.ds.p,dc,B.ds.x],bl:=#[bp,bc,B.bl.x] }
def DE (B:Rb) (H:Hp):Prop:= ∀b,eU B b->H b=FM
inductive o7 (a:bi) (ok:Fn->Prop) (vs:Fh V) (H:Hp) (Q:VK) (E:XK):Prop
 |mk {β:Type}(B:Rb) (L:FH) (H0:Hp) (Ro:β->Fn->Prop) (F:Fh (Fk×V)) (b:GA) (t:Fn) (Kn:Ft) (nf:FH) (Ds:Fh Fi) (f:FH) (g:gZ->FC β) (_:vs=[.ref B.r]) (_:ok t) (_:16*t.length<=f) (_:Bk B.ds Ds) (_:B.ds.c.length+t.length<=4000) (_:Kn.funs.length+nf=9) (_:DE B H0) (_:RS ⟨a,E,B,L,H0,Ro⟩ F b H t Kn (iq f Kn nf Ds>>=g))
  (_: ∀x v H' t' dc bp bc,(∀u,has dc u=x.2.2.2.contains u)->dc.length+t'.length<=4000->x.2.1.funs.length+x.2.2.1=9->DE (B.tp dc bp bc) H0->RS #[a,E,B.tp dc bp bc,L,H0,Ro] ((.top x.1,v)::F) FS H' t' x.2.1 (g x)->Q v H'):o7 a ok vs H Q E
inductive D9 (a:bi) (vs:Fh V) (H:Hp) (Q:VK) (E:XK):Prop
 |mk {β:Type}(B:Rb) (L:FH) (H0:Hp) (Ro:β->Fn->Prop) (F:Fh (Fk×V)) (b:GA) (t:Fn) (Kn Kf:Ft) (IG:Fi) (g:Fi->FC β) (_:vs=[.ref B.r, .str (sb IG)]) (_:cX (sb IG) IG) (_:GK.contains IG=Gc) (_: ∀u,Kf.taken u=(decide (u=IG)||Kn.taken u)) (_:RS ⟨a,E,B,L,H0,Ro⟩ F b H t Kn (GY Kf>>=g))
  (_: ∀u H' t',Kn.values.contains u=Gc->RS #[a,E,B,L,H0,Ro] F FS H' t' (Kn.with u) (g u)->Q (.str (sb u)) H'):D9 a vs H Q E
section
variable {k m:FH}{x Hl:FY}{st:Stmt}{f:Fq}{fd:Gz}{N:Fh FY}{ok:Fn->Prop}
theorem EL (T:aU K mg a) (XC:XT K a) (hk:8<=k) (F:oY K x Hl st f fd) (S:ay N ["reader"] (af st))
  (JO: ∀(Hb:Fp) (A:Hc) (outer:Fh Env) (s:Fw) (H:Hp) {β:Type}(B:Rb) (L:FH) (H0:Hp) (Ro:β->Fn->Prop) (F:Fh (Fk×V)) (b:GA) (t:Fn) (Kn:Ft) (nf:FH) (Ds:Fh Fi) (fu:FH) (g:gZ->FC β) (Q:VK) (E:XK),bZ k (A.deeper [011])->ok t->16*t.length<=fu->Bk B.ds Ds->B.ds.c.length+t.length<=4000->Kn.funs.length+nf=9->DE B H0->
   let X:=fi (f9 P w) P w K mg base N Hl (af st) f Hb A outer s H E
   let D:d9:= { nx:=λ_ H'=>Q .IX H',rt:=Q }
   let Z:Zf β:=#[a,E,B,L,H0,Ro]
   RX X a E->RS Z F b H t Kn (iq fu Kn nf Ds>>=g)->(∀x v H' t' dc bp bc,(∀u,has dc u=x.2.2.2.contains u)->dc.length+t'.length<=4000->x.2.1.funs.length+x.2.2.1=9->DE (B.tp dc bp bc) H0->RS #[a,E,B.tp dc bp bc,L,H0,Ro] ((.top x.1,v)::F) FS H' t' x.2.1 (g x)->Q v H')->Bd X (bf st) D (L2.start N [.ref B.r]) H):bV P w K mg base (f9 P w) (k+1) f fd ["reader"] (o7 a ok):=by
 refine fS F S [03] [02];obtain⟨B,L,H0,Ro,F,b,t,Kn,nf,Ds,fu,g,rfl,h1,h2,h3,h4,h5,h6,R,q⟩:=h;exact JO Hb A outer s H B L H0 Ro F b t Kn nf Ds fu g Q E hr h1 h2 h3 h4 h5 h6 (ka T XC hk S hr) R q
theorem amB (T:aU K mg a) (XC:XT K a) (hk:8<=k) (F:oY K x Hl st f fd) (S:ay N ["reader","function"] (af st))
  (JO: ∀(Hb:Fp) (A:Hc) (outer:Fh Env) (s:Fw) (H:Hp) {β:Type}(B:Rb) (L:FH) (H0:Hp) (Ro:β->Fn->Prop) (F:Fh (Fk×V)) (b:GA) (t:Fn) (Kn Kf:Ft) (IG:Fi) (g:Fi->FC β) (Q:VK) (E:XK),bZ k (A.deeper [011])->cX (sb IG) IG->GK.contains IG=Gc->(∀u,Kf.taken u=(decide (u=IG)||Kn.taken u))->
   let X:=fi (f9 P w) P w K mg base N Hl (af st) f Hb A outer s H E
   let D:d9:= { nx:=λ_ H'=>Q .IX H',rt:=Q }
   let Z:Zf β:=#[a,E,B,L,H0,Ro]
   RX X a E->RS Z F b H t Kn (GY Kf>>=g)->(∀u H' t',Kn.values.contains u=Gc->RS #[a,E,B,L,H0,Ro] F FS H' t' (Kn.with u) (g u)->Q (.str (sb u)) H')->Bd X (bf st) D (L2.start N [.ref B.r, .str (sb IG)]) H):bV P w K mg base (f9 P w) (k+1) f fd ["reader","function"] (D9 a):=by
 refine fS F S [03] [02];obtain⟨B,L,H0,Ro,F,b,t,Kn,Kf,IG,g,rfl,h1,h2,h3,R,q⟩:=h;exact JO Hb A outer s H B L H0 Ro F b t Kn Kf IG g Q E hr h1 h2 h3 (ka T XC hk S hr) R q
end
section
variable {K:Ft}{β:Type}{g:gZ->FC β}
theorem sG (h:FD t "const"=FS):(iq k K n D>>=g) t=(GL>>=λ_=>GY K>>=λx=>dW k K>>=λe=>g (.const x e,K.with x,n,D)) t:=by
 rw[aX (show iq k K n D t=(GL>>=λ_=>vH k K n D:FC gZ) t by unfold iq;rw[Fv h])];simp only[vH,dW,bind_assoc,pure_bind]
end
theorem aiU (T:aU K mg a) (XC:XT K a) (hk:8<=k) (G:T.Yi.O P w base k (gw a [] dW 12 Gc FS .e)):
  T.Xq.O P w base (k+1) (o7 a λt=>FD t "const"=FS):=by
 refine EL T XC hk T.Xq.F ahp λHb A outer s H β B L H0 Ro F b t Kn nf Ds fu g Q E hr ho hf hB hc hn hN=>?_;intro X D Z Y R q;have lL:=R.lL;have hm:Kn.values.length+(Z.at t.length).L<=4000:=R.room;obtain⟨xp,r,rfl⟩:=eY R (beq_iff_eq.mp ho);have hF:16*(Z.at (((HJ (Fj "const"),xp)::r).length)).L+12<=fu+16:=by show 16*((HJ (Fj "const"),xp)::r).length+12<=fu+16;lia
 refine iO (Z:=Z.at _) Y sU (R.at.as (sG ho)) λH t R=>?_;refine i8 (Z:=Z.at _) 1 Y R λu H t ft R=>?_;refine nX (Z:=Z.at _) 2 Y #[G,hr,T.Yi.c,Go] R hF λe v H t R=>?_;refine gL (Z:=Z.at _) Y (pv 1) [05] ft hm R λH R=>?_;refine ic (Z:=Z.at _) Y (Cu T) (aa (pv 1) (aa (pv 2) ag)) [05] R rfl λw H i R=>?_;have l:t.length+1<=r.length+1:=R.l;have R:=RS.back (Z:=Z) lL R;refine q (.const u e,Kn.with u,nf,Ds) w H t B.ds.c B.bl.p B.bl.c hB (by rw[FG] at hc;lia) hn hN ((R.cut 1).and ?_);exact#[v,i,R.f (i:=0) rfl]
theorem aiV (T:aU K mg a) (XC:XT K a):T.aai.O P w base 9 (D9 a):=by
 refine amB T XC (k:=8) [01] T.aai.F ahs λHb A outer s H β B L H0 Ro F b t Kn Kf IG g Q E hr lit Vr hK=>?_;intro X D Z Y R q;have lL:=R.lL;have hm:Kn.values.length+(Z.at t.length).L<=4000:=R.room;refine bI (dv (mq (Z:=Z) Y R (pv 1) [05] (λbd=>(fZ Kf).bind.L4 bd R.w) λnb=>[021]));rw[b7 R.tok lit];rw[05]
 ·obtain⟨xp,r,rfl⟩:=eY R (beq_iff_eq.mp e)
  refine bF (qM (Z:=Z) (i:=4) Y (aQ (by rfl) T.O4) R nb ?_);rw[aX (q:=(FT 4:FC Fi)) (by rw[eA Vr,Fv (by rw[hK,GQ rfl];rfl)])]
  rfl
 ·have en:GY Kf t=GY Kn t:=by
   obtain⟨⟨x,xp⟩,r,rfl⟩:=R.cons;cases x with
   |word u=>
    cases So:GK.contains u with
    |true=>rw[iQ So,iQ So]
    |false=>
     have nf:decide (u=IG)=Gc:=Gg λz=>by
      have e:(HJ u == HJ IG)=Gc:=e;rw[z,Hf] at e;cases e
     rw[eA So,eA So,hK,nf];rfl
   |num m=>rfl
   |sign s=>rfl
   |eof=>rfl
   |bad=>rfl
  refine i8 (Z:=Z.at t.length) 2 Y (R.at.asf en) λu H t ft R=>?_;refine gL (Z:=Z.at _) Y (pv 2) [05] ft hm R λH R=>?_;exact aM (bD 2 (q u H t (jJ ft) (RS.back (Z:=Z) lL R)))
def fJ (f n:FH) (K:Ft):FC (Fh Fi):=Lb ",">>=λm=>(if m=FS then Kt f n K else(Gm ")">>=λ_=>pure []))
section
variable {K:Ft}{β:Type}{g:Fh Fi->FC β}
theorem pX (hn:n≠0):(Kt (f+1) n K>>=g) t=(GY K>>=λx=>fJ f (n-1) (K.with x)>>=λl=>g (x::l)) t:=by
 rw[aX (yY hn),bind_assoc];have e: ∀x,((Lb ",">>=λm=>(if m=FS then(Kt f (n-1) (K.with x)>>=λl=>pure (x::l)) else(Gm ")">>=λ_=>pure [x])):FC (Fh Fi))>>=g)=(fJ f (n-1) (K.with x)>>=λl=>g (x::l)):=λx=>by
  unfold fJ;rw[bind_assoc,bind_assoc]
  congr 1
  funext m
  cases m with
  |true=>rw[Fv rfl,Fv rfl,bind_assoc];simp only[pure_bind]
  |false=>rw[Fs Fl,Fs Fl,bind_assoc,bind_assoc];simp only[pure_bind]
 simp only[e]
theorem wn (no:Gn t ","=Gc):(fJ f n K>>=g) t=(Gm ")">>=λ_=>g []) t:=by
 unfold fJ;rw[bind_assoc];refine(bK (x:=Gc) (r:=t) (by unfold Lb;rw[Fs (by rw[no];exact Fl)])).trans ?_;rw[Fs Fl,bind_assoc];simp only[pure_bind]
theorem tU {x:GO×GD}(yes:Gn (x::r) ","=FS):(fJ f n K>>=g) (x::r)=(GL>>=λ_=>Kt f n K>>=g) (x::r):=by
 unfold fJ;rw[bind_assoc];refine(bK (x:=FS) (r:=r) (by unfold Lb;rw[Fv yes];rfl)).trans ?_;rw[Fv rfl]
 rfl
theorem nG (f n:FH) (K:Ft):aL (fJ f n K):=(lP ",").strict λm=>by
 cases m with
 |true=>
  rw[Fv rfl];exact jp f n K
 |false=>
  rw[Fs Fl];exact(bo ")").bind
end
theorem mM {K:Ft}{f u:Fi} :(#[vs++f::K.values,K.funs]:Ft).taken u=(decide (u=f)||(⟨vs++K.values,K.funs⟩:Ft).taken u):=by
 unfold N9;rw[<-GA.or_assoc]
 congr 1
 rw[Hq,MF,Gp,Gw,Gw,F8,F8,FF];constructor
 ·rintro(h|h|h)
  ·exact .inr (.inl h)
  ·exact .inl h
  ·exact .inr (.inr h)
 ·rintro(h|h|h)
  ·exact .inr (.inl h)
  ·exact .inl h
  ·exact .inr (.inr h)
theorem eW {α β:Type}{g:α->FC β}(t:Fn):((FT i:FC α)>>=g) t=FT i t:=rfl
section
variable {β:Type}{Z:Zf β}{H:Hp}{Q:VK}{p:FC β}
theorem xo {e:HM}{i:FH}(Y:RX X Z.a Z.E) (he:PE X e (tC (.int i))) (R:RS Z F b H t Kn p) (h:p t=FT i t) (hp:iA p2 p4:=by rfl) (KH:FU [e] X.env=[[001]]:=by rfl):
  Pe X (.Call (.Attribute [005] "fail" p2) [e] [] p4) (FB (.ref Z.B.r)::σ) H Q:=by
 rw[00];obtain⟨⟨x,xp⟩,t',rfl,tok,Rc,M3,_⟩:=S.wh.first;refine Y.m1 Y.T.Wg.c (fH Y.T Y.C) [01] Y.up S rfl #[_,he,Z.B.r,Z.B.q,Z.B.kd,Z.B.fn,Z.B.ds,Z.B.bl,n,(x,xp),t',i,Go,S.rd,?_] hp KH;have w:=R.w;have w:=ain (p':=FT i) h w;rw[abB] at w;exact w H R.k
end
inductive abT (a:bi) (vs:Fh V) (H:Hp) (Q:VK) (E:XK):Prop
 |mk {β:Type}(B:Rb) (L:FH) (H0:Hp) (Ro:β->Fn->Prop) (F:Fh (Fk×V)) (b:GA) (t:Fn) (Kn:Ft) (IG:Fi) (f:FH) (g:Fh Fi->FC β) (_:vs=[.ref B.r, .str (sb IG)]) (_:cX (sb IG) IG) (_:GK.contains IG=Gc) (_:t.length<f) (_:RS ⟨a,E,B,L,H0,Ro⟩ F b H t Kn (Kt f 6 (Kn.with IG)>>=g))
  (_: ∀ps v H' t',ps.length<=6->ps.Nodup->(∀x∈ps,x∉Kn.values)->RS #[a,E,B,L,H0,Ro] ((.ps ps,v)::F) FS H' t' #[ps.reverse++Kn.values,Kn.funs] (Gm ")">>=λ_=>g ps)->Q v H'):abT a vs H Q E
inductive PsI {β:Type}(Z:Zf β) (Ls:Fq) (F:Fh (Fk×V)) (Kn:Ft) (IG:Fi) (g:Fh Fi->FC β) (σ0:L2.St) (m:FH) (σ:L2.St) (H:Hp):Prop
 |mk (ps:Fh Fi) (t:Fn) (f:FH) (_:m=t.length) (_:σ=σ0) (_:ps≠[]) (_:ps.length<=6) (_:ps.Nodup) (_: ∀x∈ps,x∉Kn.values) (_:t.length<f)
  (_:RS (Z.mo Ls (gS ps)) F FS H t #[ps.reverse++Kn.values,Kn.funs] (fJ f (6-ps.length) #[ps.reverse++IG::Kn.values,Kn.funs]>>=λl=>g (ps++l))):PsI Z Ls F Kn IG g σ0 m σ H
section
variable {k m:FH}{x Hl:FY}{st:Stmt}{f:Fq}{fd:Gz}{N:Fh FY}
theorem amC (T:aU K mg a) (XC:XT K a) (hk:8<=k) (F:oY K x Hl st f fd) (S:ay N ["reader","function"] (af st))
  (JO: ∀(Hb:Fp) (A:Hc) (outer:Fh Env) (s:Fw) (H:Hp) {β:Type}(B:Rb) (L:FH) (H0:Hp) (Ro:β->Fn->Prop) (F:Fh (Fk×V)) (b:GA) (t:Fn) (Kn:Ft) (IG:Fi) (fu:FH) (g:Fh Fi->FC β) (Q:VK) (E:XK),bZ k (A.deeper [011])->cX (sb IG) IG->GK.contains IG=Gc->t.length<fu->
   let X:=fi (f9 P w) P w K mg base N Hl (af st) f Hb A outer s H E
   let D:d9:= { nx:=λ_ H'=>Q .IX H',rt:=Q }
   let Z:Zf β:=#[a,E,B,L,H0,Ro]
   RX X a E->RS Z F b H t Kn (Kt fu 6 (Kn.with IG)>>=g)->(∀ps v H' t',ps.length<=6->ps.Nodup->(∀x∈ps,x∉Kn.values)->RS ⟨a,E,B,L,H0,Ro⟩ ((.ps ps,v)::F) FS H' t' ⟨ps.reverse++Kn.values,Kn.funs⟩ (Gm ")">>=λ_=>g ps)->Q v H')->Bd X (bf st) D (L2.start N [.ref B.r, .str (sb IG)]) H):bV P w K mg base (f9 P w) (k+1) f fd ["reader","function"] (abT a):=by
 refine fS F S [03] [02];obtain⟨B,L,H0,Ro,F,b,t,Kn,IG,fu,g,rfl,h1,h2,h3,R,q⟩:=h;exact JO Hb A outer s H B L H0 Ro F b t Kn IG fu g Q E hr h1 h2 h3 (ka T XC hk S hr) R q
theorem aiW (T:aU K mg a) (XC:XT K a):T.aah.O P w base 10 (abT a):=by
 refine amC T XC (k:=9) [01] T.aah.F ahr λHb A outer s H β B L H0 Ro F b t Kn IG fu g Q E hr lit Vr hf=>?_;intro X D Z Y R q;have lL:=R.lL;have one: ∀ {σ:L2.St}{H:Hp}{Q:VK}{p1 p2 p3 p4:Pos},D9 a [.ref B.r, .str (sb IG)] H Q E->Pe X (.Call (.Name "read_parameter" p1) [.Name "reader" p2, .Name "function" p3] [] p4) (FB (.ref B.r)::FB (.str (sb IG))::σ) H Q:=λh=>#[_,aI (aiV T XC) hr (by rfl) T.aai.c Y.up (aa Y.rd (aa (pv 1) ag)),h]
 obtain⟨f,rfl⟩: ∃f,fu=f+1:=#[fu-1,by lia];refine aN 2 Y.nd (vg (aO (one #[B,t.length,H0,Ro,F,Gc,t,Kn,Kn.with IG,IG,_,Go,lit,Vr,λu=>mM (vs:=[]),R.at.as (pX [01]),λu H t1 fv R=>cE #[by show 1<=Gk;decide,λLs hL=>?_]])));have l1:t1.length+1<=t.length:=R.l;have R:=RS.back (Z:=Z) lL R;have N:=R.nwl hL;have fr: ∀ {vs:Fh Fi}{u:Fi},vs.contains u=Gc->u∉vs:=λh z=>by rw[Gw.mpr z] at h;cases h
 refine f7 Y.lv (PsI Z Ls F Kn IG g [FB (.ref B.r),FB (.str (sb IG)),FB (.ref Ls)]) _ #[[u],t1,f,Go,Go,Fh.cons_ne_nil _ _,(by show 1<=6;decide),Gu.mpr #[HP,M4],λx hx=>by rw[FW.mp hx];exact fr fv,by lia,R.more hL] ?_;rintro mm σ H ⟨ps,t,f,rfl,rfl,pne,p6,pnd,pfr,hf1,R⟩;have lL:=R.lL;have sl:(gS ps).length=ps.length:=FE ..;refine dv (uX (Z:=(Zf.mo Z Ls (gS ps)).at t.length) Y R.at (λb=>(nG _ _ _).bind.L4 b R.w) (λnb e=>#[_,Go,bM ?_]) λ{x r} et e nb=>?_)
 ·have R:=R.as (wn ((cP R.tok wU).symm.trans e))
  rw[GV] at R;exact aM (bD 2 (q ps (.ref Ls) H t p6 pnd pfr ((R.less N).and #[Ls,Go,N.nm,R.QU])))
 ·subst et
  have e:=(cP R.tok wU).symm.trans e;obtain⟨x,xp⟩:=x;obtain rfl:x=_:=beq_iff_eq.mp e;refine#[nfS,_,tU e,λH R=>#[_,Go,ca ?_]]
  have l5:r.length+1<=_:=R.l;rw[03]
  have hLs:H Ls=FB (.lst (gS ps)):=RS.QU (Z:=Z.at ((Jq (Fj ","),xp)::r).length) (L:=Ls) (us:=gS ps) R;refine bI (cU bX (iH T.J8 hLs (pv 2) [05] #[_,aQ (by rfl) T.PL,Go,_,Go,?_]));rw[cj,sl];rw[05]
  ·have p6':ps.length=6:=by have:=Ga e;lia
   exact bF (xo (Z:=(Zf.mo Z Ls (gS ps)).at _) (i:=7) Y (aQ (by rfl) T.Q7) R ((aX (q:=(FT 7:FC (Fh Fi))) (vG (by lia))).trans (eW _)))
  ·have p5:ps.length<6:=by have:=Gf e;lia
   refine mV (β:=β) hLs (pv 2) [05] (one #[B.more Ls (gS ps),_,H0,Ro,F,FS,r,_,_,IG,_,Go,lit,Vr,λu=>mM,R.as (pX (by lia)),λu H t5 fv R=>?_]);have l6:t5.length+1<=_:=R.l;have R:=RS.back (Z:=Zf.mo Z Ls (gS ps)) lL R;refine#[Z,_,_,_,_,_,N,Gr (show(gS ps).length<=6 by rw[sl];exact p6) [01],R,λH R=>?_];have ns:gS ps++[V.str (sb u)]=gS (ps++[u]):=by unfold gS;rw[He];rfl
   rw[ns] at R;have nu:=fr fv;have er: ∀(V:Fh Fi),(ps++[u]).reverse++V=u::(ps.reverse++V):=λV=>by rw[U5];rfl
   refine gt #[_,l6,ps++[u],t5,f,Go,Go,(λz=>by rw[Th] at z;exact nomatch z.2),by rw[FR,JF];lia,?_,λx hx z=>?_,by lia,?_]
   ·rw[LN]
    refine#[pnd,Gu.mpr #[HP,M4],λx hx y hy z=>?_];rw[FW.mp hy] at z;exact nu (F8.mpr (.inl (J7.mpr (by rw[<-z];exact hx))))
   ·rcases F8.mp hx with hx|hx
    ·exact pfr x hx z
    ·rw[FW.mp hx] at z
     exact nu (F8.mpr (.inr z))
   ·rw[er,er,FR,JF]
    have e2: ∀l,g (ps++[u]++l)=g (ps++u::l):=λl=>by rw[GN];rfl
    simp only[e2];exact R
end
theorem Bm:cX "fun" (Fj "fun"):=[007]
theorem fo.Uo {a:bi}{H:Hp}{n:FH}{t:Fn}{K1 K2:Ft}(S:fo a B H n t K1) (hc: ∀u,K2.values.contains u=K1.values.contains u) (hl:K2.values.length=K1.values.length) (hf:K2.funs=K1.funs):fo a B H n t K2:=by
 obtain⟨kk,k1,k2,k3⟩:=S.kn.vals;obtain⟨ff,f1,f2⟩:=S.kn.funs;refine#[S.rd,S.wh,#[#[kk,k1,by rw[hl];exact k2,λu=>by rw[hc];exact k3 u],#[ff,f1,by rw[hf];exact f2],by rw[hl];exact S.kn.len,#[ff,f1,by rw[hf];exact S.kn.fl f1]],S.Tf,S.SH,S.Qh,S.fr]
theorem C8 {aC:Fh (be×V)}{j:be}{v:V}(h:bO aC j=FM):(dB aC j v).length=aC.length+1:=by
 unfold dB;rw[Fs,FR]
 ·rfl
 ·intro z
  rw[Mf] at z;obtain⟨p,hp,e⟩:=z;have:(bO aC j).isSome=FS:=by
   unfold bO;rw[Ip,Nv];exact#[p,hp,e]
  rw[h] at this;cases this
theorem fo.Il {a:bi}{H:Hp}{B:Rb}{n:FH}{t:Fn}{Kn:Ft}{x:Fi}{c:FH}{ff:Fh (be×V)}(S:fo a B H n t Kn) (hx:Kn.taken x=Gc) (e:H B.fn=FB (.dK ff)):
  fo a B (aF H B.fn (.dK (dB ff (nk x) (.int (c:FH))))) n t { Kn with funs:=(x,c)::Kn.funs } :=by
 rw[02];obtain⟨as,all,h1,h2,h3⟩:=S.rd.toks;obtain⟨kk,k1,k2,k3⟩:=S.kn.vals;obtain⟨ff',f1,f2⟩:=S.kn.funs;have hy:=S.Tf;have hz:=S.SH;have fl:=S.kn.fl e;obtain rfl:ff'=ff:=by rw[e] at f1;cases f1;rfl
 obtain⟨d1,d2,d3,d4,d5,d6⟩:=S.Qh;have nr:B.r≠B.fn:=λw=>by rw[w,e] at er;cases er
 have nq:B.q≠B.fn:=λw=>by rw[w,e] at h1;cases h1
 unfold N9 at hx;rw[Mr] at hx;have none_:bO ff' (nk x)=FM:=by
  rw[f2];have:Kn.funs.find? (λf=>f.1 == x)=FM:=by
   rw[PR];intro y hy z;have:=hx.2;rw[VS] at this;exact this y hy z
  rw[this]
  rfl
 refine#[#[#[dr,by rw[ac nr];exact er],as,all,by rw[ac nq];exact h1,Paired.Nq h2 λb x ⟨dx,ex⟩=>#[dx,?_],h3],S.wh,#[#[kk,by rw[ac d1];exact k1,k2,k3],#[_,ae,λu=>?_],S.kn.len,#[_,ae,?_]],(by rw[ac d4.symm];exact hy),(by rw[ac d5.symm];exact hz),S.Qh,λb xs h=>?_]
 ·rw[ac λw=>by rw[w,e] at ex;cases ex]
  exact ex
 ·rw[gI,Hr]
  by_cases w:u=x
  ·rw[Fv (by rw[w]),w,show((x,c).1 == x)=FS from Hf x]
   rfl
  ·rw[Fs λz=>w (eJ (JM z)),show((x,c).1 == u)=Gc from beq_eq_false_iff_ne.mpr (IV w)]
   exact f2 u
 ·rw[C8 none_,fl]
  rfl
 ·have e2:=S.fr b xs h
  rw[ac λw=>by rw[w,e] at e2;cases e2];exact e2
theorem vk:gV X (.builtin "len") (λxs H Q=> ∃a aC,xs=[V.ref a]/\DH X.prog X.w X.K a aC/\Q (.int aC.length) H):=by
 intro pins s σ H xs us Q I r h;obtain⟨a,aC,rfl,kd,q⟩:=h;obtain⟨u,rfl,ru⟩:=nP r;cases ru;obtain⟨vs,dd,rel⟩:=kd.at_;have z:=kd.len;refine call_len_dict kd.no (dd _ I.NI) (by rw[<-rel.length];rw[Im] at z;lia) ?_;rw[<-rel.length];exact#[.int aC.length,H,I.tok _,#[_,Go],q]
theorem b5.is {M:Fq->Prop}{H:Hp}(h:b5 M H us (.ref L)):H L=FB (.lst us):=by
 obtain⟨p,e,_,h⟩:=h;cases e;exact h
section
variable {β:Type}{Z:Zf β}{H:Hp}{p:FC β}
theorem RS.Uo (R:RS Z F b H t Kn p) (hc: ∀u,K2.values.contains u=Kn.values.contains u) (hl:K2.values.length=Kn.values.length) (hf:K2.funs=Kn.funs):RS Z F b H t K2 p:=by
 rw[00];exact R.go (S.Uo hc hl hf) dg.refl R.l R.w
theorem RS.Il (R:RS Z F b H t Kn p) (hx:Kn.taken x=Gc) (e:H Z.B.fn=FB (.dK ff)):RS Z F b (aF H Z.B.fn (.dK (dB ff (nk x) (.int (c:FH))))) t { Kn with funs:=(x,c)::Kn.funs } p:=by
 rw[00];exact R.go (S.Il hx e) (eX (.inr (.inr (.inl rfl)))) R.l R.w
end
section
variable {K:Ft}{β:Type}{g:gZ->FC β}
def j6 (k n:FH) (K:Ft) (D:Fh Fi) (g:gZ->FC β) (x:Fi) (ps:Fh Fi):FC β:=dW k { K with values:=ps++K.values } >>=λe=>g (.func x ps e,{ K with funs:=(x,ps.length)::K.funs },n-1,D)
def lW (k n:FH) (K:Ft) (D:Fh Fi) (g:gZ->FC β) (x:Fi):FC β:=Lb ")">>=λm=>(if m=FS then Vbemac.give [] else Kt k 6 (K.with x))>>=λps=>j6 k n K D g x ps
theorem DC (h1:FD t "const"=Gc) (h2:FD t "fun"=FS) (hn:n≠0):(iq k K n D>>=g) t=(GL>>=λ_=>GY K>>=λx=>Gm "(">>=λ_=>lW k n K D g x) t:=by
 rw[aX (show iq k K n D t=(GL>>=λ_=>abK k K n D:FC gZ) t by unfold iq;rw[Fs (by rw[h1];exact Fl),Fv h2,Fs hn])];unfold abK lW;simp only[j6,dW,bind_assoc,pure_bind]
 rfl
theorem xO (h1:FD t "const"=Gc) (h2:FD t "fun"=FS) (hn:n=0):(iq k K n D>>=g) t=FT 7 t:=
 (aX (q:=(FT 7:FC gZ)) (by unfold iq;rw[Fs (by rw[h1];exact Fl),Fv h2,Fv hn])).trans (eW t)
theorem rb:aL (j6 k n K D g x ps):=(bo "=").bind.bind
theorem qO:aL (lW k n K D g x):=(lP ")").strict λm=>by
 cases m with
 |true=>rw[Fv rfl];exact rb
 |false=>rw[Fs Fl];exact(jp _ _ _).bind
theorem Cg (h:Gn t ")"=FS):lW k n K D g x t=(Gm ")">>=λ_=>j6 k n K D g x []) t:=by
 unfold lW;refine(bK (x:=FS) (r:=t.drop 1) (by unfold Lb;rw[Fv h])).trans ?_;rw[Fv rfl];refine Eq.trans (b:=j6 k n K D g x [] (t.drop 1)) rfl ?_;exact(bK (p:=Gm ")") (g:=λ_=>j6 k n K D g x []) (x:=()) (r:=t.drop 1) (by unfold Gm;rw[Fv h])).symm
theorem zJ (h:Gn t ")"=Gc):lW k n K D g x t=(Kt k 6 (K.with x)>>=j6 k n K D g x) t:=by
 unfold lW;refine(bK (x:=Gc) (r:=t) (by unfold Lb;rw[Fs (by rw[h];exact Fl)])).trans ?_;rw[Fs Fl]
end
theorem uP {ps V:Fh Fi}{i:FH}{x:Fi}(h:ps[i]?=FB x) (nd:ps.Nodup) (fr: ∀x∈ps,x∉V):(ps.drop i++V).contains x=FS/\(ps.drop (i+1)++V).length+1=(ps.drop i++V).length/\ ∀v,(ps.drop (i+1)++V).contains v=(!decide (v=x)&&(ps.drop i++V).contains v):=by
 have ed:ps.drop i=x::ps.drop (i+1):=by
  obtain⟨h,e⟩:=Gq.mp h;rw[<-e];exact Hy h
 have sub:(x::ps.drop (i+1)).Sublist ps:=by
  rw[<-ed];exact VZ i ps
 have nin:=(Gu.mp (sub.nodup nd)).1
 have nV:=fr x (sub.subset (Fy ..));rw[ed];refine#[Gw.mpr (Fy ..),Go,λz=>?_]
 rw[WE,GJ];by_cases e:z=x
 ·subst e
  rw[GQ rfl];show _=Gc;rw[VY];intro w;rcases F8.mp (Gw.mp w) with w|w
  ·exact nin w
  ·exact nV w
 ·rw[Gg e,show(z == x)=Gc from beq_eq_false_iff_ne.mpr e]
  rfl
theorem aiX (T:aU K mg a) (XC:XT K a) (kF:DH P w K a.Ho dy) (hk:10<=k) (G:T.Yi.O P w base k (gw a [] dW 12 Gc FS .e)):
  T.Xr.O P w base (k+1) (o7 a λt=>FD t "const"=Gc/\FD t "fun"=FS):=by
 refine EL T XC (by lia) T.Xr.F ahq λHb A outer s H β B L H0 Ro F b t Kn nf Ds fu g Q E hr ho hf hB hc hn hN=>?_;intro X D Z Y R q;have lL:=R.lL;obtain⟨n1,n2⟩:=ho;obtain⟨xp,r,ex⟩:=eY R (beq_iff_eq.mp n2);have hF:16*(Z.at t.length).L+12<=fu+16:=by show 16*t.length+12<=fu+16;lia
 rw[00];rw[02];obtain⟨ff,f1,_⟩:=S.kn.funs;have fl:=S.kn.fl f1;refine bI #[_,aZ bX (aY zW (by rfl) T.J8 HF (aa [000] ag)) (bW dN (aY vk (by rfl) T.J8 HF (aa (gW (by rfl) T.Nb) ag)) (aQ (by rfl) T.Qg)) (aK _),B.r,_,dr,_,_,Go,er,T.Gj,T.IY,Go,B.fn,ff,Go,f1,a.Ho,dy,Go,kF,_,_,Go,Go,Go,_,Go,?_];rw[cj];rw[05]
 ·have e:(ff.length:Int)=3+6:=Ga e
  exact bF (xo (Z:=Z) (i:=7) Y (aQ (by rfl) T.Q7) R (xO n1 n2 (by lia)))
 have n0:nf≠0:=λz=>Gf e (by show(ff.length:Int)=3+6;lia)
 have R:=R.at.as (DC n1 n2 n0);generalize hl:t.length=l at R lL hF hc hf;subst ex;refine iO (Z:=Z.at l) Y Bm R λH t R=>?_
 refine uh (Z:=Z.at l) 1 Y R λu H t lit Vr ft R=>?_;refine cF (Z:=Z.at l) Y yf R λH t R=>?_;refine mt (Z:=Z.at l) 2 Y R λLs H N R=>?_;have R:=(R.less N).and (e:=(.ps [], .ref Ls)) #[Ls,Go,N.nm,R.QU];have l5:t.length+1<=l:=R.l;refine gi (λσ' H'=> ∃(ps:Fh Fi) (v:V) (t:Fn),σ'=[FB (.ref B.r),FB (.str (sb u)),FB v,FM,FM]/\ps.length<=6/\ps.Nodup/\(∀x∈ps,x∉Kn.values)/\RS (Z.at l) ((.ps ps,v)::F) FS H' t #[ps.reverse++Kn.values,Kn.funs] (Gm ")">>=λ_=>j6 fu nf Kn Ds g u ps)) ?_ ?_
 ·rintro σ H ⟨ps,v,t,rfl,p6,pnd,pfr,R⟩
  refine cF (Z:=Z.at l) Y vQ R λH t R=>?_;have R:=R.Uo (K2:= { Kn with values:=ps++Kn.values }) (λv=>by
   rw[Hq,Gw,Gw,F8,F8,J7]) (by
   show(ps++Kn.values).length=(ps.reverse++Kn.values).length
   rw[FR,FR,GS]) rfl
  refine nX (Z:=Z.at l) 3 Y #[G,hr,T.Yi.c,Go] R hF λe v3 H t R=>?_;obtain⟨Lp,rfl,nLp,hLp⟩:b5 (eU B) H (gS ps) v:=R.f (i:=1) rfl;refine ki 4 Y.lv Y.nd (pv 2) [05] (λi σ H=> ∃y:FA V,σ=[FB (.ref B.r),FB (.str (sb u)),FB (.ref Lp),FB v3,y]/\RS (Z.at l) ((.e e,v3)::(.ps ps, .ref Lp)::F) FS H t { Kn with values:=ps.drop i++Kn.values } (g (.func u ps e,{ Kn with funs:=(u,ps.length)::Kn.funs },nf-1,Ds))) #[FM,Go,R] (λ_ _ _ _ ⟨_,_,R⟩=>b5.is (R.f (i:=1) rfl)) ?_ ?_
  ·rintro i y σ H hi ⟨y0,rfl,R⟩
   unfold gS at hi;rw[GB] at hi;obtain⟨x,hx,rfl⟩:=Gs.mp hi;obtain⟨h1,h2,h3⟩:=uP hx pnd pfr;exact m8 (Z:=Z.at l) (K2:= { Kn with values:=ps.drop (i+1)++Kn.values }) Y (pv 4) [05] R h1 rfl h2 h3 λH R=>cf #[_,Go,R]
  ·rintro σ H ⟨y0,rfl,R⟩
   have sl:(gS ps).length=ps.length:=FE ..;rw[sl,QQ] at R
   have R:RS (Z.at l) _ FS H t Kn _:=R;rw[00];rw[02];obtain⟨gg,g1,_⟩:=S.kn.funs
   have gl:=S.kn.fl g1;refine aR (g9 (dz hr) [000] (pv 1) (aY bv (by rfl) T.J8 HF (aa (pv 2) ag)) rfl) #[_,_,Go, .inl (cw.of (b5.is (R.f (i:=1) rfl))),B.r,_,dr,_,_,Go,er,T.Gj,T.IY,Go,B.fn,_,Go, .inl #[gg,nk u,g1,Go,Gr (show gg.length<=9 by lia) [01],Go],?_]
   have R:=R.Il (x:=u) (c:=(gS ps).length) ft g1;rw[sl] at R ⊢;refine ic (Z:=Z.at l) Y (abp T) (aa (pv 1) (aa (pv 2) (aa (pv 3) ag))) [05] R rfl λw H i R=>?_
   have l9:t.length+1<=l:=R.l
   have R:=RS.back (Z:=Z) lL R;refine q (.func u ps e,{ Kn with funs:=(u,ps.length)::Kn.funs },nf-1,Ds) w H t B.ds.c B.bl.p B.bl.c hB (by lia) (by show Kn.funs.length+1+(nf-1)=9;lia) hN ((R.cut 2).and ?_);exact#[.ref Lp,v3,i,R.f (i:=1) rfl,R.f (i:=0) rfl]
 ·refine jr (dv (iC (Z:=Z.at l) Y R qO λnb=>[021]))
  rw[cP R.tok vQ];cases hs:(FK t == Jq (Fj ")")) with
  |true=>exact bM #[[], .ref Ls,t,Go,F6 _,M4,(λ_ z=>nomatch z),R.as (Cg hs)]
  |false=>exact ca (aN 2 Y.nd #[_,aI (aiW T XC) (hr.mono hk) (by rfl) T.aah.c Y.up (aa Y.rd (aa (pv 1) ag)),B,l,H0,Ro,F,FS,t,Kn,u,fu,_,Go,lit,Vr,by lia,(R.as (zJ hs)).cut 1,λps v H t p6 pnd pfr R=>cf #[ps,v,t,Go,p6,pnd,pfr,R]])
theorem DS:cX "desk" (Fj "desk"):=[007]
theorem gP {α:Type}{o:FA α}{x:α}(h1:o=FM) (h2:o=FB x):False:=nomatch h1.symm.trans h2
theorem Zc {b:GA}(h:b=Gc): ¬b=FS:=λz=>Fl (h.symm.trans z)
abbrev Rb.nb (B:Rb) (nb:Fq):Rb:= { B with bl:=#[nb,[],B.bl.x] }
abbrev Rb.dk (B:Rb) (c:Fh (be×V)):Rb:= { B with ds:=#[B.ds.p,c,B.ds.x] }
theorem fo.abU {a:bi}{H:Hp}{B:Rb}{n:FH}{t:Fn}{Kn:Ft}{nb:Fq}(S:fo a B H n t Kn) (Vs:H nb=FM) {dr:Fq}(er:H B.r=FB (.ins a.GI dr (qY B.q B.kd B.fn B.ds.p B.bl.p n))):
  fo a (B.nb nb) (aF (aF H nb (.dK [])) B.r (.ins a.GI dr (qY B.q B.kd B.fn B.ds.p nb n))) n t Kn/\dg (eU B) H (aF (aF H nb (.dK [])) B.r (.ins a.GI dr (qY B.q B.kd B.fn B.ds.p nb n))):=by
 obtain⟨as,all,h1,h2,h3⟩:=S.rd.toks;obtain⟨kk,k1,k2,k3⟩:=S.kn.vals;obtain⟨ff,f1,f2⟩:=S.kn.funs;have hy:=S.Tf;obtain⟨d1,d2,d3,d4,d5,d6⟩:=S.Qh;have old: ∀ {b:Fq}{o:HO},H b=FB o->b≠B.r->aF (aF H nb (.dK [])) B.r (.ins a.GI dr (qY B.q B.kd B.fn B.ds.p nb n)) b=FB o:=λe w=>by
  rw[ac w,ac (ai e Vs)];exact e
 have nir: ∀ {b:Fq}{o:HO},H b=FB o->(∀C dx fs,o≠ .ins C dx fs)->b≠B.r:=λe no w=>by
  rw[w,er] at e;exact no _ _ _ (FL e).symm
 have nbr:nb≠B.r:=(ai er Vs).symm
 have amD: ∀ {b:Fq}{x:GO×GD},fX a.Ju H b x->b≠B.r:=λ{b x} ⟨dx,ex⟩ w=>by
  rw[w,er] at ex;have:=Gx (λo:HO=>match o with| .ins _ _ fs=>fs.length|_=>0) (FL ex)
  exact FP this (by show¬(6=4);decide)
 refine#[#[#[#[dr,ae],as,all,old h1 (nir h1 λ_ _ _ z=>nomatch z),Paired.Nq h2 λb x h=>?_,h3],S.wh,#[#[kk,old k1 (nir k1 λ_ _ _ z=>nomatch z),k2,k3],#[ff,old f1 (nir f1 λ_ _ _ z=>nomatch z),f2],S.kn.len,#[ff,old f1 (nir f1 λ_ _ _ z=>nomatch z),S.kn.fl f1]],old hy (nir hy λ_ _ _ z=>nomatch z),by show aF (aF H nb (.dK [])) B.r _ nb=FB (.dK []);rw[ac nbr];exact ae,#[d1,d2,ai k1 Vs,d4,ai f1 Vs,ai hy Vs],λb xs h=>?_],λb o e m=>old e λz=>m (.inl z)]
 ·have w:=amD h
  obtain⟨dx,ex⟩:=h;exact#[dx,old ex w]
 ·have e2:=S.fr b xs h
  exact old e2 (nir e2 λ_ _ _ z=>nomatch z)
theorem sw {q kd fn ds bl nb:Fq}{n:FH} :Il "blocks" (.ref nb) (qY q kd fn ds bl n)=qY q kd fn ds nb n:=by
 unfold qY;simp only[Il]
 rfl
theorem fo.putD {a:bi}{H:Hp}{B:Rb}{n:FH}{t:Fn}{Kn:Ft}(S:fo a B H n t Kn):fo a (B.dk c) (aF H B.ds.p (.dK c)) n t Kn:=by
 rw[02];obtain⟨as,all,h1,h2,h3⟩:=S.rd.toks;obtain⟨kk,k1,k2,k3⟩:=S.kn.vals;obtain⟨ff,f1,f2⟩:=S.kn.funs;have hy:=S.SH;have e:=S.Tf;obtain⟨d1,d2,d3,d4,d5,d6⟩:=S.Qh;have nr:B.r≠B.ds.p:=λw=>by rw[w,e] at er;cases er
 have nq:B.q≠B.ds.p:=λw=>by rw[w,e] at h1;cases h1
 refine#[#[#[dr,(by show aF H B.ds.p (.dK c) B.r=_;rw[ac nr];exact er)],as,all,(by show aF H B.ds.p (.dK c) B.q=_;rw[ac nq];exact h1),Paired.Nq h2 λb x ⟨dx,ex⟩=>#[dx,?_],h3],S.wh,#[#[kk,(by show aF H B.ds.p (.dK c) B.kd=_;rw[ac d2];exact k1),k2,k3],#[ff,(by show aF H B.ds.p (.dK c) B.fn=_;rw[ac d4];exact f1),f2],S.kn.len,#[ff,(by show aF H B.ds.p (.dK c) B.fn=_;rw[ac d4];exact f1),S.kn.fl f1]],ae,(by show aF H B.ds.p (.dK c) B.bl.p=_;rw[ac d6.symm];exact hy),S.Qh,λb xs h=>?_]
 ·rw[ac λw=>by rw[w,e] at ex;cases ex]
  exact ex
 ·have e2:=S.fr b xs h
  rw[ac λw=>by rw[w,e] at e2;cases e2];exact e2
section
variable {β:Type}{H H0:Hp}{p:FC β}{E:XK}{Ro:β->Fn->Prop}
theorem RS.putD (R:RS #[a,E,B,L,H0,Ro] F b H t Kn p):RS #[a,E,B.dk c,L,H0,Ro] F b (aF H B.ds.p (.dK c)) t Kn p:=by
 rw[00];have k:dg (eU B) H (aF H B.ds.p (.dK c)):=eX (.inr (.inr (.inr (.inl rfl))));exact#[#[n,S.putD],R.k.trans k,λe=>jm.Ic k.two (R.f e),R.l,R.w]
theorem RS.abU {n:FH}{nb dr:Fq}(R:RS #[a,E,B,L,H0,Ro] F b H t Kn p) (hN:DE B H0) (S:fo a B H n t Kn) (Vs:H nb=FM) (er:H B.r=FB (.ins a.GI dr (qY B.q B.kd B.fn B.ds.p B.bl.p n))):
  DE (B.nb nb) H0/\RS #[a,E,B.nb nb,L,H0,Ro] F b (aF (aF H nb (.dK [])) B.r (.ins a.GI dr (qY B.q B.kd B.fn B.ds.p nb n))) t Kn p:=by
 obtain⟨S',k⟩:=S.abU Vs er;have m: ∀ {b},eU (B.nb nb) b->eU B b\/b=nb:=λ{b} z=>by
  rcases z with z|z|z|z|z|z
  ·exact .inl (.inl z)
  ·exact .inl (.inr (.inl z))
  ·exact .inl (.inr (.inr (.inl z)))
  ·exact .inl (.inr (.inr (.inr (.inl z))))
  ·exact .inr z
  ·exact .inl (.inr (.inr (.inr (.inr (.inr z)))))
 have h0:H0 nb=FM:=by
  cases e:H0 nb with
  |none=>rfl
  |some o=>
   have:=R.k nb o e λz=>by rw[hN nb z] at e;cases e
   rw[Vs] at this;cases this
 have N':DE (B.nb nb) H0:=λb z=>(m z).elim (hN b) λz=>by rw[z];exact h0
 refine#[N',#[n,S'],λb o e _=>?_,λe=>jm.Ic (λb o e w=>#[λz=>(m z).elim w (λz=>gP (by rw[z];exact Vs) e),k b o e w]) (R.f e),R.l,R.w.mono (λ_ _ z=>z) λ_ _ z H' k'=>z H' λb o e _=>k' b o e λz=>gP (N' b z) e];have w: ¬eU B b:=λz=>gP (hN b z) e
 exact k b o (R.k b o e w) w
end
section
variable {K:Ft}{β:Type}{g:gZ->FC β}
theorem yb (h1:FD t "const"=Gc) (h2:FD t "fun"=Gc):(iq k K n D>>=g) t=(Hx "desk">>=λ_=>eB D>>=λx=>Gm "{">>=λ_=>Ki k 6 K []>>=λl=>g (.desk x l.1,K,n,x::D)) t:=by
 have c1: ¬FD t "const"=FS:=by rw[h1];exact Fl
 have c2: ¬FD t "fun"=FS:=by rw[h2];exact Fl
 cases hd:FD t "desk" with
 |true=>
  rw[aX (show iq k K n D t=(GL>>=λ_=>Bq k K n D:FC gZ) t by unfold iq;rw[Fs c1,Fs c2,Fv hd])];refine Eq.trans ?_ (bK (p:=Hx "desk") (x:=()) (r:=t.drop 1) (by unfold Hx;rw[Fv hd])).symm;unfold Bq;simp only[bind_assoc,pure_bind]
  rfl
 |false=>
  have c3: ¬FD t "desk"=FS:=by rw[hd];exact Fl
  refine(aX (q:=(FT 2:FC gZ)) (by unfold iq;rw[Fs c1,Fs c2,Fs c3])).trans ?_;exact((eW t).trans (eW t).symm).trans (aX (p:=Hx "desk") (q:=(FT 2:FC Nj)) (by unfold Hx;rw[Fs c3])).symm
theorem uj (nb:x≠ .bad) (en:cR x=Gc):eB D ((x,xp)::t)=FT 2 ((x,xp)::t):=by
 cases x with
 |word u=>
  rw[dI] at en;have So:GK.contains u=FS:=by cases h:GK.contains u;rw[h] at en;cases en;rfl
  unfold eB;rw[cW,Fv So]
  rfl
 |num m=>rfl
 |sign s=>rfl
 |eof=>rfl
 |bad=>exact FP rfl nb
theorem lZ (So:GK.contains u=Gc):eB D ((.word u,xp)::t)=if D.contains u=FS then FT 4 ((.word u,xp)::t) else .ok (u,t):=by
 unfold eB;rw[cW,Fs (by rw[So];exact Fl)]
end
theorem aiY (T:aU K mg a) (XC:XT K a) (hk:8<=k)
  (G:T.WW.O P w base k (kP a 7)):
  T.Xs.O P w base (k+1) (o7 a λt=>FD t "const"=Gc/\FD t "fun"=Gc):=by
 refine EL T XC hk T.Xs.F aht λHb A outer s H β B L H0 Ro F b t Kn nf Ds fu g Q E hr ho hf hB hc hn hN=>?_;intro X D Z Y R q;have lL:=R.lL;have hm:Kn.values.length+t.length<=4000:=R.room;have R:=R.at.as (yb ho.1 ho.2);generalize hl:t.length=l at R lL hc hf hm;refine lr (Z:=Z.at l) Y DS R λH t R=>?_;have l1:t.length+1<=l:=R.l;rw[00];refine aN 1 Y.nd (xy (Z:=Z.at l) Y R (λ_=>rfl) T.Oq S.Tf (mf Ds).bind (λnb en=>?_) (λu e1 hk hu=>?_) λu xp r e1 hk hu=>#[Gm "{">>=λ_=>Ki fu 6 Kn []>>=λl=>g (.desk u l.1,Kn,nf,u::Ds),(bK (x:=u) (r:=r) ((lZ hk).trans (Fs (Zc ((hB u).symm.trans hu))))).trans rfl,λH R=>?_])
 ·obtain⟨⟨x,xp⟩,r,rfl⟩:=R.cons
  exact(aX (q:=FT 2) (uj nb en)).trans (eW _)
 ·obtain⟨⟨x,xp⟩,r,rfl⟩:=R.cons
  obtain rfl:x= .word u:=e1;exact(aX (q:=FT 4) ((lZ hk).trans (Fv ((hB u).symm.trans hu)))).trans (eW _)
 rw[e1,FG] at l1;rw[00];rw[02];refine aR (g9 (dz hr) [000] (pv 1) tM rfl) #[B.r,_,dr,_,_,Go,er,T.Gj,T.Oq,Go,B.ds.p,_,Go, .inl #[B.ds.c,nk u,S.Tf,Go,Gr (show B.ds.c.length<=4000 by lia) [01],Go],?_];have hD: ∀v,has (dB B.ds.c (nk u) (.bl FS)) v=(u::Ds).contains v:=λv=>by
  rw[rC,GJ,hB v]
  congr 1
  rw[Hq,Gp,beq_iff_eq]
 have hDl:=cD B.ds.c (nk u) (.bl FS)
 have R:=R.putD (c:=dB B.ds.c (nk u) (.bl FS));generalize dB B.ds.c (nk u) (.bl FS)=c3 at R hD hDl ⊢;generalize aF H B.ds.p (.dK c3)=H at R ⊢;rw[00];rw[02];refine aR (b4 (pv 0) fk rfl) λnb Vs=>#[B.r,_,dr,_,Go,(by rw[ac λz=>by rw[<-z,er] at Vs;cases Vs];exact er),T.Gj,T.JZ,(by show 6<1000;decide),?_]
 rw[sw];obtain⟨hN,R⟩:=R.abU hN S Vs er;refine aM (jK Y (DL T) (aO (bD 1 (aO #[_,Y.call2 #[G,hr,T.WW.c,Go] ak [01] rfl,(B.dk c3).nb nb,l,H0,Ro,F,_,r,Kn,[],0,fu,_,Go,F6 _,by decide,by lia,(λv=>rfl),(by show 0+r.length<=4000;lia),R,λx v H t c' hB' WX R=>cE (R.new rfl λw H i R=>?_)]))));have l9:t.length+1<=l:=R.l;have R:=RS.back (Z:=#[a,E,B.tp c3 nb c',L,H0,Ro]) lL R;obtain⟨us,la,sa⟩:mJ a (eU (B.tp c3 nb c')) H x.1 v:=R.f (i:=0) rfl;exact q (.desk u x.1,Kn,nf,u::Ds) w H t c3 nb c' hD (by lia) hn hN ((R.cut 1).and #[v,us,i,la,sa])
theorem aiZ (T:aU K mg a) (XC:XT K a) (hk:8<=k)
  (G1:T.Xq.O P w base k (o7 a λt=>FD t "const"=FS))
  (G2:T.Xr.O P w base k (o7 a λt=>FD t "const"=Gc/\FD t "fun"=FS))
  (G3:T.Xs.O P w base k (o7 a λt=>FD t "const"=Gc/\FD t "fun"=Gc)):
  T.Xp.O P w base (k+1) (o7 a λ_=>True):=by
 refine EL T XC hk T.Xp.F aho λHb A outer s H β B L H0 Ro F b t Kn nf Ds fu g Q E hr ho hf hB hc hn hN=>?_;intro X D Z Y R q;refine bI (dv (iC (Z:=Z) Y R (lN _ _ _ _).bind λnb=>[021]));rw[b7 R.tok sU];refine aP (λe1=>aM (e7 Y #[G1,hr,T.Xq.c,Go] #[B,L,H0,Ro,F,b,t,Kn,nf,Ds,fu,g,Go,e1,hf,hB,hc,hn,hN,R,q])) λe1=>?_;refine bI (dv (iC (Z:=Z) Y R (lN _ _ _ _).bind λnb=>[021]));rw[b7 R.tok Bm];refine aP (λe2=>aM (e7 Y #[G2,hr,T.Xr.c,Go] #[B,L,H0,Ro,F,b,t,Kn,nf,Ds,fu,g,Go,#[e1,e2],hf,hB,hc,hn,hN,R,q])) λe2=>?_;exact aM (e7 Y #[G3,hr,T.Xs.c,Go] #[B,L,H0,Ro,F,b,t,Kn,nf,Ds,fu,g,Go,#[e1,e2],hf,hB,hc,hn,hN,R,q])
section
open Vbemac (tokens)
theorem uD (u:Fi):bO dy (nk u)=(Jl.funs.find? λf=>f.1 == u).map λf=>V.int (f.2:FH):=by
 have h1:(Io "min":be)=nk (Fj "min"):=by show(Io "min":be)=Io (sb (Fj "min"));congr 1
 have h2:(Io "max":be)=nk (Fj "max"):=by show(Io "max":be)=Io (sb (Fj "max"));congr 1
 have h3:(Io "abs":be)=nk (Fj "abs"):=by show(Io "abs":be)=Io (sb (Fj "abs"));congr 1
 unfold dy Jl LJ;rw[h1,h2,h3];have ne: ∀ {v:Fi},¬v=u-> ¬nk v=nk u:=λh z=>h (eJ (JM z))
 have st: ∀(v:Fi) (x:V) (r:Fh (be×V)),bO ((nk v,x)::r) (nk u)=if v=u then FB x else bO r (nk u):=λv x r=>by
  by_cases e:v=u
  ·rw[Fv e];exact cg (by rw[e])
  ·rw[Fs e];exact b8 (ne e)
 rw[st,st,st,Hr,Hr,Hr];dsimp only;by_cases e1:Fj "min"=u
 ·rw[Fv e1,show(Fj "min" == u)=FS from beq_iff_eq.mpr e1];rfl
 ·rw[Fs e1,show(Fj "min" == u)=Gc from beq_eq_false_iff_ne.mpr e1]
  dsimp only;by_cases e2:Fj "max"=u
  ·rw[Fv e2,show(Fj "max" == u)=FS from beq_iff_eq.mpr e2];rfl
  ·rw[Fs e2,show(Fj "max" == u)=Gc from beq_eq_false_iff_ne.mpr e2]
   dsimp only;by_cases e3:Fj "abs"=u
   ·rw[Fv e3,show(Fj "abs" == u)=FS from beq_iff_eq.mpr e3];rfl
   ·rw[Fs e3,show(Fj "abs" == u)=Gc from beq_eq_false_iff_ne.mpr e3];rfl
abbrev F0:Fq->Fh V->Prop:=λ_ _=>False
theorem abl.st {a:bi}{H H':Hp}(N:abl a H H' r dr q kd fn ds bl) (hq:H q=FB (.lst (as.map V.ref))) (nq:q≠r) (tk:Paired (fX a.Ju H) as (tokens bs)) (nt: ∀b∈as,b≠r) (hl:bs.length<=3000):
  fo a #[r,q,kd,fn,#[ds,[],F0],#[bl,[],F0]] H' 0 (tokens bs) Jl:=by
 have len:(tokens bs).length<=4000:=by
  have:=dH (bs.length+1) (1,1) bs;unfold tokens;lia
 refine#[#[#[dr,N.ins],as,tokens bs,N.kept _ _ hq nq,?_,Go],fM _ _ _,#[#[[],N.kd1,FN _,λu=>rfl],#[dy,N.fn1,uD],by show 0+(tokens bs).length<=4000;lia,#[dy,N.fn1,Go]],N.ds1,N.bl1,#[N.Qh.1,N.Qh.2.1,N.Qh.2.2.1,N.Qh.2.2.2.1,N.Qh.2.2.2.2.1,N.Qh.2.2.2.2.2],λ_ _ z=>z.elim];clear len hq;revert nt;generalize tokens bs=ts at tk ⊢
 induction tk with
 |nil=>exact λ_=> .nil
 |cons h t ih=>exact λnt=> .cons (by obtain⟨dx,e⟩:=h;exact#[dx,N.kept _ _ e (nt _ (Fy ..))]) (ih λb hb=>nt b (Fx _ hb))
end
abbrev Fe (a:bi) (M:Fq->Prop) (H:Hp) (ss:Fh Hv) (us:Fh V):Prop:=Paired (λs v=>e9 a M H s v) ss us
inductive kz (K:Fm) (a:bi) (vs:Fh V) (H:Hp) (Q:VK) (E:XK):Prop
 |mk (l:Fq) (bs:Fi) (_:vs=[.ref l]) (_:cw K H l (jQ bs)) (_:bs.length<=3000) (_:W (Kd (Mh (GW bs)) Jl Nk []) (GW bs) (λss _=> ∀H' (L:Fq) (us:Fh V) (M:Fq->Prop),aS H H'->H L=FM-> ¬M L->H' L=FB (.lst us)->Fe a M H' ss us->Q (.ref L) H') (λk x=> ∀H',aS H H'->mI a.HW E H' k x)):kz K a vs H Q E
theorem EV {k n:FH}{K:Ft}{β:Type}{g:Jz->FC β}(h0:FK t≠ .eof):(Kd (k+1) K n D>>=g) t=(iq k K n D>>=λx=>Kd k x.2.1 x.2.2.1 x.2.2.2>>=λl=>g (x.1::l)) t:=by
 have e:Kd (k+1) K n D t=(iq k K n D>>=λx=>Kd k x.2.1 x.2.2.1 x.2.2.2>>=λl=>pure (x.1::l):FC Jz) t:=by
  cases h1:FD t "const" with
  |true=>
   rw[vP h0 h1,sG h1];simp only[dW,bind_assoc,pure_bind]
  |false=>
   cases h2:FD t "fun" with
   |true=>
    by_cases hn:n=0
    ·rw[zZ h0 h1 h2 hn,xO h1 h2 hn]
    ·rw[CG h0 h1 h2 hn,DC h1 h2 hn]
     unfold lW;simp only[j6,dW,bind_assoc,pure_bind]
     rfl
   |false=>
    rw[yb h1 h2];cases h3:FD t "desk" with
    |true=>
     rw[yz h0 h1 h2 h3];refine Eq.trans ?_ (bK (p:=Hx "desk") (x:=()) (r:=t.drop 1) (by unfold Hx;rw[Fv h3])).symm
     rfl
    |false=>
     rw[zd h0 h1 h2 h3];exact((aX (p:=Hx "desk") (q:=(FT 2:FC Nj)) (by unfold Hx;rw[Fs (Zc h3)])).trans (eW t)).symm
 rw[aX e];simp only[bind_assoc,pure_bind]
abbrev fkT (ps:Fh (Hv×V)):Fh (Fk×V):=ps.map λx=>(Fk.top x.1,x.2)
theorem xN {a:bi}{M:Fq->Prop}{H:Hp}{l:Fh Hv}{ws:Fh V}(hl:Fe a M H l ws): ∀ {ps:Fh (Hv×V)},(∀ {i:FH}{x:Fk×V},(fkT ps)[i]?=FB x->jm a M H x)->Fe a M H ((ps.map λx:Hv×V=>x.1).reverse++l) ((ps.map λx:Hv×V=>x.2).reverse++ws)
 |[],_=>hl
 | (e,v)::ps,h=>by
  rw[FX,FX,GZ,GZ,GN,GN];exact xN (.cons (h (i:=0) rfl) hl) λ{i x} q=>h (i:=i+1) q
inductive ShI (a:bi) (E:XK) (B:Rb) (H0:Hp) (Ro:Jz->Fn->Prop) (Ls:Fq) (l:FH) (σ0:L2.St) (m:FH) (σ:L2.St) (H:Hp):Prop
 |mk (ps:Fh (Hv×V)) (K1:Ft) (nf:FH) (D:Fh Fi) (dc:Fh (be×V)) (bp:Fq) (bc:Fh (be×V)) (t:Fn) (f:FH) (_:m=t.length) (_:σ=σ0) (_:ps.length+t.length<=l) (_: ∀u,has dc u=D.contains u) (_:dc.length+t.length<=4000) (_:K1.funs.length+nf=9) (_:16*t.length+1<=f) (_:DE (B.tp dc bp bc) H0)
  (_:v9 #[a,E,B.tp dc bp bc,l,H0,Ro] Ls) (_:RS (Zf.mo #[a,E,B.tp dc bp bc,l,H0,Ro] Ls (ps.map λx:Hv×V=>x.2).reverse) (fkT ps) Gc H t K1 (Kd f K1 nf D>>=λx=>pure ((ps.map λx:Hv×V=>x.1).reverse++x))):ShI a E B H0 Ro Ls l σ0 m σ H
theorem amE (T:aU K mg a) (XC:XT K a) (kS:z6 P w K a.Ke dR) (kF:DH P w K a.Ho dy) (hk:8<=k)
  (G:T.Xp.O P w base k (o7 a λ_=>True)):
  T.d_j.O P w base (k+1) (kz K a):=by
 have G1:=mK (P:=P) (w:=w) (base:=base) T kF
 have G2:=alW (P:=P) (w:=w) (base:=base) T kS
 have G3:=yw (P:=P) (w:=w) (base:=base) T XC;refine fS T.d_j.F aba (λvs H Q E h=>?_) [02]
 ·obtain⟨l,bs,rfl,_⟩:=h
  rfl
 obtain⟨l,bs,rfl,hS,hl,hW⟩:=h;refine aN 1 aba.nd #[_,g7 T.Vm G1 [017] (by rfl) T.Vh T.Z7.c.b .nil aT (aa (aI G2 [017] (by rfl) T.d_i.c aT (aa (pv 0) ag)) ag),l,bs,Go,hS,hl,λH1 q as s1 hq0 hq1 tk=>?_];intro r dr hr0 hdr ne;refine#[r,dr,q,Go,ae,λH2 kd fn ds bl N=>#[Go,?_]];have qr:q≠r:=(ai hq1 hr0);have up1: ∀ {b:Fq}{o:HO},H1 b=FB o->aF (aF H1 dr (.own r)) r (.ins a.GI dr []) b=FB o:=λe=>by
  rw[ac (ai e hr0),ac (ai e hdr)];exact e
 have ai0: ∀ {as:Fh Fq}{ts:Fn},Paired (fX a.Ju H1) as ts-> ∀b∈as,b≠r:=λtk=>by
  induction tk with
  |nil=>exact λb hb=>nomatch hb
  |cons h t ih=>
   intro b hb;rcases FF.mp hb with hb|hb
   ·obtain⟨dx,e⟩:=h
    rw[hb];exact ai e hr0
   ·exact ih b hb
 have S2:=N.st (up1 hq1) qr (Paired.Nq tk λb x ⟨dx,e⟩=>#[dx,up1 e]) (ai0 tk) hl
 have s02:aS H H2:=λb o e=>N.kept b o (up1 (s1 b o e)) (ai (s1 b o e) hr0)
 have upn: ∀ {b:Fq},aF (aF H1 dr (.own r)) r (.ins a.GI dr []) b=FM->H b=FM:=λ{b} e=>by
  cases z:H b with
  |none=>rfl
  |some o=>rw[up1 (s1 b o z)] at e;cases e
 have hN:DE ⟨r,q,kd,fn,⟨ds,[],F0⟩,⟨bl,[],F0⟩⟩ H:=λb z=>by
  rcases z with z|z|z|z|z|⟨_,z⟩
  ·rw[z]
   cases e:H r with
   |none=>rfl
   |some o=>exact(gP hr0 (s1 r o e)).elim
  ·rw[z];exact upn N.kd0
  ·rw[z];exact upn N.fn0
  ·rw[z];exact upn N.ds0
  ·rw[z];exact upn N.bl0
  ·exact z.elim
 clear N ai0 up1 upn;have tl:(GW bs).length<=3002:=by
  have:=dH (bs.length+1) (1,1) bs;unfold GW;lia
 generalize hRo:(λ(ss:Jz) (_:Fn)=> ∀H' (L:Fq) (us:Fh V) (M:Fq->Prop),aS H H'->H L=FM-> ¬M L->H' L=FB (.lst us)->Fe a M H' ss us->Q (.ref L) H')=Ro at hW;generalize hB:(#[r,q,kd,fn,#[ds,[],F0],#[bl,[],F0]]:Rb)=B at S2 hN;have Br:B.r=r:=by rw[<-hB]
 have same: ∀ {dc bp bc} {H':Hp},DE (B.tp dc bp bc) H->dg (eU (B.tp dc bp bc)) H H'->aS H H':=λn k b o e=>k b o e λz=>gP (n b z) e
 have R:RS ⟨a,E,B,(GW bs).length,H,Ro⟩ (fkT []) Gc H2 (GW bs) Jl (Kd (Mh (GW bs)) Jl Nk []>>=λx=>pure ([]++x)):=#[#[_,S2],λb o e _=>s02 b o e,(λe=>nomatch e),FN _,by
  rw[jL];exact hW.mono (λ_ _ z=>z) λ_ _ z H' k'=>z H' λb o e=>k' b o e λz=>gP (hN b z) e]
 rw[<-Br];refine aN 2 aba.nd (mw λLs hL=>?_);have hx: ∀b zs,¬B.bl.x b zs:=λb zs=>by rw[<-hB];exact λz=>z
 have hdc:B.ds.c=[]:=by rw[<-hB]
 refine f7 Jo (ShI a E B H Ro Ls (GW bs).length [FB (.ref l),FB (.ref B.r),FB (.ref Ls)]) _ #[[],Jl,Nk,[],B.ds.c,B.bl.p,B.bl.c,GW bs,Mh (GW bs),Go,Go,by show 0+_<=_;lia,(λ_=>by rw[hdc];rfl),by rw[hdc];show 0+_<=_;lia,Go,by unfold Mh;lia,hN,R.nwl hL,R.more hL] ?_;rintro mm σ H4 ⟨ps,K1,nf,D,dc,bp,bc,t,f,rfl,rfl,ul,hD,hDl,hn,hf,hN',N,R⟩;rw[03];obtain⟨n4,S⟩:=R.S;obtain⟨⟨x,xp⟩,t5,rfl,tok,Rc,M3,_⟩:=S.wh.first;obtain⟨dr4,er4⟩:=S.rd.ins;refine#[_,kR (cT (bS (pv 1) T.Gj T.Z8.c G3 [017] aA)),B.r,dr4,_,Go,er4,Go,B.r,B.q,B.kd,B.fn,B.ds.p,bp,n4,(x,xp),t5,Go,S.rd,(λb=>(tP _ _ _ _).bind.L4 (Rc.trans b) R.w H4 R.k),λnb=>[021]];have len:((ps.map λx:Hv×V=>x.2).reverse:Fh V).length=ps.length:=by rw[GS,FE]
 cases he:Ci x with
 |true=>
  have ex:x= .eof:=by cases x<;>first|rfl|cases he
  subst ex;refine bM (aM (bD 2 ?_));have w:=(R.as (p':=pure ((ps.map λx:Hv×V=>x.1).reverse++[])) ((bK (Cc rfl)).trans rfl)).w
  have w:Ro ((ps.map λx:Hv×V=>x.1).reverse++[]) ((.eof,xp)::t5):=w
  rw[<-hRo] at w;refine w H4 Ls _ (eU (B.tp dc bp bc)) (same hN' (R.less N).k) N.n0 N.nm R.QU ?_;rw[<-GV (ps.map λx:Hv×V=>x.2).reverse];exact xN .nil λe=>(R.less N).f e
 |false=>
  have ne:FK ((x,xp)::t5)≠ .eof:=λz=>by
   have z:x= .eof:=z;rw[z] at he;cases he
  refine ca (mV (β:=Jz) R.QU (pv 2) [05] #[_,aI G hr (by rfl) T.Xp.c aA (aa (pv 1) ag),(B.tp dc bp bc).more Ls (ps.map λx:Hv×V=>x.2).reverse,((x,xp)::t5).length,H,Ro,fkT ps,Gc,(x,xp)::t5,K1,nf,D,f,_,Go,Hs,by lia,hD,hDl,hn,λb z=>(dh z).elim (λz=>by rw[z];exact N.n0) (hN' b),R.at.as (EV ne),λy v H' t' dc' bp' bc' QT amF Yp hN2 R2=>?_]);have l2:t'.length+1<=((x,xp)::t5).length:=R2.l;have R2:=RS.back (Z:=Zf.mo #[a,E,B.tp dc' bp' bc',(GW bs).length,H,Ro] Ls (ps.map λx:Hv×V=>x.2).reverse) (by show((x,xp)::t5).length<=(GW bs).length;lia) R2;have N2:v9 ⟨a,E,B.tp dc' bp' bc',(GW bs).length,H,Ro⟩ Ls:=by
   refine#[N.n0,λz=>?_,N.nx,N.nq];rcases z with z|z|z|z|z|⟨zs,z⟩
   ·exact N.nm (.inl z)
   ·exact N.nm (.inr (.inl z))
   ·exact N.nm (.inr (.inr (.inl z)))
   ·exact N.nm (.inr (.inr (.inr (.inl z))))
   ·obtain⟨n5,S5⟩:=R2.S
    have h1:=R2.QU
    have h2:=S5.SH
    have z:Ls=bp':=z;rw[z] at h1;cases h1.symm.trans h2
   ·exact hx _ _ z
  refine#[_,_,_,_,_,_,N2,by rw[len];exact Gr (show ps.length<=4000 by lia) [01],R2,λH3 R3=>?_];refine gt #[_,l2,(y.1,v)::ps,y.2.1,y.2.2.1,y.2.2.2,dc',bp',bc',t',f,Go,Go,(by rw[FG];lia),QT,amF,Yp,(by lia),λb z=>hN2 b (cA z),N2,?_];rw[FX,FX,GZ,GZ];simp only[GN];exact#[R3.S,R3.k,R3.f,FV (Ka _ _) R3.l,R3.w]
theorem Ae {P:Gh}{w:GR}{K:Fm}{mg:FY->FA Fp}{base:Ha}{a:bi}(T:aU K mg a) (XC:XT K a) (IL:qx K a) (KT:Ac K a.Iu dj) (kS:z6 P w K a.Ke dR) (kF:DH P w K a.Ho dy):
  T.d_j.O P w base 178 (kz K a):=by
 have E:oF P w K mg base a 151:=(amv T XC KT 13).1
 have Br:=yC T XC IL [01] E 7
 have Gi:=aiK T XC [01] E
 have Co:=aiU T XC [01] Gi
 have Fu:=aiX T XC kF [01] Gi
 have De:=aiY T XC [01] Br
 have To:=aiZ T XC [01] (Co.mono (by decide:153<=176)) (Fu.mono [01]) De;exact amE T XC kS kF [01] To
def iD (z:Int):GA:=decide (0<=z)&&decide (z<=255)
def jC (zs:Fh Int):GA:=decide (zs.length<=3000)&&zs.all iD
inductive sM (K:Fm) (vs:Fh V) (H:Hp) (Q:VK) (_E:XK):Prop
 |mk (l:Fq) (zs:Fh Int) (_:vs=[.ref l]) (_:cw K H l (fW zs)) (_:zs.length<=4000) (_: ∀H',aS H H'->Q (.bl (jC zs)) H'):sM K vs H Q _E
theorem tT (h:jC zs=Gc):KA zs=FM:=by
 unfold KA;rw[Fs];intro z;have:jC zs=FS:=z;rw[h] at this;cases this
theorem uB (h:jC zs=FS): ∃bs:Fi,KA zs=FB bs/\jQ bs=fW zs/\bs.length<=3000:=by
 have h0:=h;unfold jC at h;rw[G7,Gp] at h;refine#[zs.map λc=>OE c.toNat,?_,?_,by rw[FE];exact h.1]
 ·unfold KA
  exact Fv h0
 ·unfold jQ fW
  rw[JT];refine Fh.map_congr_left λz hz=>?_;have b:=Md.mp h.2 z hz;unfold iD at b;rw[G7,Gp,Gp] at b;show V.int (nb (OE z.toNat))=V.int z;unfold nb
  congr 1
  rw[Jm.toNat_ofNat'];lia
theorem amG (T:aU K mg a):T.d_L.U P w base 1 (sM K):=by
 refine T.d_L.F.ok abb [03] [02];obtain⟨l,zs,rfl,hS,hl,hQ⟩:=h;refine#[_,(ah (aJ (oR (cc eP (aY bv (by rfl) T.J8 HF (aa (pv 0) ag)) (aQ (by rfl) T.Q8) (aK _)) (jI (aY (aaR rfl) (by rfl) T.afv boot_all (aa (BM rfl abb.nd (ib (pv 0)) (own:=[("byte",1)]) (iT (by show vh ["text","byte"] (af s_L) _ [("byte",1)]=FS;decide+kernel)) (λ_ _ _ _ _=>fF (i:=1) abb.nd rfl (G9 rfl)) (λ_ _ _ _ _=>wq) (λ_ _ _ _ _=>(iX eP eP ak (pv 1) ak))) ag)))))),?_];have il:(fW zs).length=zs.length:=FE ..;refine#[_,_,Go, .inl hS,_,_,Go,Go,_,Go,?_];rw[il];unfold jC at hQ;rw[05]
 ·have le:zs.length<=3000:=by have:=Ga e;lia
  rw[GQ le] at hQ;refine#[l,Go,#[_,hS],λD hD=>?_];refine ko (K:=K) (a:=l) (xs:=fW zs) (λi H'=>aS H H'/\H' D=FB (.lst (((zs.take i).map iD).map V.bl))) #[bC hD,ae] (λi H' _ z=>z.1.seq hS) ?_ ?_
  ·rintro i y H' hi ⟨s1,QT⟩
   obtain⟨z,hz,rfl⟩: ∃z,zs[i]?=FB z/\y=V.int z:=by
    unfold fW at hi;rw[GB] at hi;cases e:zs[i]? with
    |none=>rw[e] at hi;cases hi
    |some c=>rw[e] at hi;exact#[c,Go,(FL hi).symm]
   have eN: ∀b:GA,b=iD z-> ∃acc,H' D=FB (.lst acc)/\acc.length<Gk/\(aS H (aF H' D (.lst (acc++[V.bl b])))/\aF H' D (.lst (acc++[V.bl b])) D=FB (.lst (((zs.take (i+1)).map iD).map V.bl))):=λb hb=>by
    refine#[_,QT,?_,λb' o e=>by rw[ac (ai e hD)];exact s1 b' o e,?_]
    ·rw[FE,FE]
     exact Gr (FV (KR i zs) hl) [01]
    ·rw[ae,JS,hz,hb]
     show FB (HO.lst (((zs.take i).map iD).map V.bl++[V.bl (iD z)]))=FB (HO.lst (((zs.take i++[z]).map iD).map V.bl))
     rw[He,He]
     rfl
   refine#[Go,?_];unfold aaU;dsimp only;rw[Fv rfl];refine#[_,_,Go,Go,_,Go,?_];refine aP (λe0=>?_) λe0=>?_
   ·refine#[_,_,Go,Go,eN _ ?_]
    unfold iD;rw[e0]
    rfl
   ·refine eN _ ?_
    unfold iD;rw[e0]
    rfl
  ·rintro H' ⟨s1,QT⟩
   rw[il,J6] at QT;refine#[D,zs.map iD,Go,cw.of QT,?_];have:=hQ H' s1;rw[JB] at this;rw[Tv];exact this
 ·have le: ¬zs.length<=3000:=by have:=Gf e;lia
  rw[Gg le] at hQ;exact hQ H λ_ _ e=>e
section
open Vbemac (expandSteps)
theorem zb (h:bs.length<=3000):(GW bs).length<=4000:=by
 have:=dH (bs.length+1) (1,1) bs;unfold GW;lia
theorem abV {Qo:Jz->Fn->Prop}{Qe:FH->GD->Prop}(ho: ∀ss t,KD bs= .ok ss->xC [] LJ ss->Qo ss t) (he: ∀e,KD bs= .error e->Qe e.1 e.2):W (Kd (Mh (GW bs)) Jl Nk []) (GW bs) Qo Qe:=by
 unfold W;have r:KD bs=(match Kd (Mh (GW bs)) Jl Nk [] (GW bs) with
  | .error e=> .error e
  | .ok (a,_)=> .ok a):=rfl
 cases e:Kd (Mh (GW bs)) Jl Nk [] (GW bs) with
 |error x=>rw[e] at r;exact he x r
 |ok z=>rw[e] at r;exact ho z.1 z.2 r (mv _ Jl _ _ rfl _ _ _ (jE _ _ _) e).1
def Eo (M:Ks) (bs:Fi):Except Int (Jz×Fh GC×FH):=match KD bs with
 | .error _=> .error (-3)
 | .ok s=>match expandSteps M s with
  | .error c=> .error c
  | .ok (l,n)=> .ok (s,l,n)
theorem ai1 {f:Jz->Fh GC->FH->Vbemac.Ans} :Va M bs f=(match Eo M bs with
  | .error c=>[c]
  | .ok (s,l,n)=>f s l n):=by
 unfold Va Vbemac.withSheet Eo;cases KD bs with
 |error e=>rfl
 |ok s=>dsimp only;cases expandSteps M s<;>rfl
def Bad (K:Fm) (a:bi) (E:XK) (H:Hp) (c:Int):Prop:= ∀(C d fI:Fq) (fs:Fh (FY×V)),dG K a.Hn C fI->fs.lookup ("number":FY)=FB (.int c)->H d=FM->E (.ref C) (FB d) (aF H d (cn d fs))
theorem Bad.toW {K:Fm}{a:bi}{E:XK}{H:Hp}(XC:XW K a) (h:Bad K a E H c):pj a E H c:=λC hC d hd=>by
 have: ∃fI,dG K a.Hn C fI:=by
  unfold xcl at hC;simp only[FF,HP,or_false,Prod.mk.injEq] at hC;rcases hC with⟨_,rfl⟩|⟨_,rfl⟩|⟨_,rfl⟩|⟨_,rfl⟩|⟨_,rfl⟩|⟨_,rfl⟩
  ·exact#[_,XC.Mn]
  ·exact#[_,XC.O5]
  ·exact#[_,XC.NW]
  ·exact#[_,XC.NX]
  ·exact#[_,XC.Mo]
  ·exact#[_,XC.O6]
 obtain⟨fI,x⟩:=this;exact h C d fI _ x rfl hd
theorem vE {X:Cx}{σ:L2.St}{H:Hp}{Q:VK}{e1 e2 e3:HM}{t1 t2 t3:TE}{lo x hi:Int}{p:Pos}(h1:PE X e1 t1) (h2:PE X e2 t2) (h3:PE X e3 t3) (v1: ∀Q:VK,Q (.int lo) H->t1 σ H Q) (v2: ∀Q:VK,Q (.int x) H->t2 σ H Q) (v3: ∀Q:VK,Q (.int hi) H->t3 σ H Q) (q:Q (.bl (FQ x lo hi)) H) (hm:Vy [.LtE, .LtE] [e2,e3]=Gc:=by with_unfolding_all rfl):
  Pe X (.Compare e1 [.LtE, .LtE] [e2,e3] p) σ H Q:=by
 refine#[_,iX eP eP h1 h2 h3 hm,v1 _ (v2 _ #[_,_,Go,Go,_,Go,?_])];unfold FQ at q;by_cases h:lo<=x
 ·rw[GQ h,JB] at q
  rw[GQ h];exact ca (v3 _ #[_,_,Go,Go,q])
 ·rw[Gg h,Js] at q
  rw[Gg h];exact bM q
theorem xg {H:Hp}{Q:VK}(b c:GA) (q:Pe X e σ H λv H1=>v= .bl b/\(b=FS->Pe X (.BoolOp .And (f::es) p) σ H1 Q)/\(b=Gc->Q (.bl (b&&c)) H1)):Pe X (.BoolOp .And (e::f::es) p) σ H Q:=
 #[_,oR dA dA,q.mono λv H1 ⟨hv,h1,h2⟩=>#[b,hv,by
  cases b with
  |true=>exact ca (h1 rfl)
  |false=>exact bM (h2 rfl)]]
theorem Zd {H:Hp}{Q:VK}(q:Pe X e σ H Q):Pe X (.BoolOp .And [e] p) σ H Q:=#[_,jI dA,q]
theorem kD (T:aU K mg a) (XC:XN K a):T.ZL.U P w mg base 2 (dU a.L9 (gC (-1))):=
 okI T.ZL.F agv λHb A outer s H p Q hr q=>#[_,ah (bj (fj (by rfl) T.Ib XC.rm (bP T XC.Ot) hr T.WU.c.b .nil aT (aa (pv 0) (aa (dO cK ak) ag)))),_,Go,q]
inductive wA (K:Fm) (a:bi) (vs:Fh V) (H:Hp) (Q:VK) (E:XK):Prop
 |mk (x:GA) (_:vs=[.bl x]) (_:x=FS->Q .IX H) (_:x=Gc->Bad K a E H (-1)):wA K a vs H Q E
theorem amH (T:aU K mg a) (XC:XN K a):T.d_g.O P w base 4 (wA K a):=by
 refine fS T.d_g.F alO [03] [02];obtain⟨x,rfl,h1,h2⟩:=h;refine bI (jr #[_,cT (pv 0),?_]);cases x with
 |true=>exact#[_,Go,bM (cf (h1 rfl))]
 |false=>exact#[_,Go,ca (aR (eT d8 XC.Ot (kD T XC) (hr.mono (by decide)) (by rfl) T.Pn T.ZL.c.b) #[F6 _,_,#[Go,Go],λd hd=>h2 rfl _ d _ _ XC.Ot rfl hd])]
inductive wQ (vs:Fh V) (H:Hp) (Q:VK) (_E:XK):Prop
 |mk (x:Int) (_:vs=[.int x]) (_:Q (.bl (J2 x)) H):wQ vs H Q _E
theorem ai2 (T:aU K mg a):T.d_3.U P w base 1 wQ:=by
 refine T.d_3.F.ok alN [03] [02];obtain⟨x,rfl,q⟩:=h;exact aM (vE (lo:= -X8) (hi:=X8) (bW cS ak (aQ (by rfl) T.PM)) (pv 0) (aQ (by rfl) T.PM) (λ_ q=>#[_,_,Go,Go,q]) [05] [05] q)
def vv (z t lo hi:Int):GA:=FQ z 1 6&&(FQ t 1 4&&(J2 lo&&(J2 hi&&decide (lo<=hi))))
inductive si (vs:Fh V) (H:Hp) (Q:VK) (_E:XK):Prop
 |mk (z t lo hi:Int) (_:vs=[.int z, .int t, .int lo, .int hi]) (_:Q (.bl (vv z t lo hi)) H):si vs H Q _E
theorem ai3 (T:aU K mg a):T.aam.U P w base 2 si:=by
 refine T.aam.F.ok YD [03] [02];obtain⟨z,t,lo,hi,rfl,q⟩:=h;unfold vv at q;have h1: ∀ {X:Cx}{σ:L2.St}{e f:HM}{p:Pos},(∀Q:VK,Q (.bl (FQ z 1 6)) H->Pe X e σ H Q)->(∀Q:VK,Q (.bl (FQ t 1 4)) H->Pe X f σ H Q)->Pe X (.BoolOp .And [e,f] p) σ H λv H'=>v= .bl (FQ z 1 6&&FQ t 1 4)/\H'=H:=λh1 h2=>xg _ (FQ t 1 4) (h1 _ #[Go,λe=>Zd (h2 _ (by rw[e];exact#[Go,Go])),λe=>#[Go,Go]]);refine aN 4 YD.nd (Pe.mono (h1 (λQ q=>vE ak (pv 0) (aQ (by rfl) T.Sf) [05] [05] [05] q) λQ q=>vE ak (pv 1) (aQ (by rfl) T.QM) [05] [05] [05] q) λv H' ⟨hv,hH⟩=>?_);subst hv hH;refine aM (xg (FQ z 1 6&&FQ t 1 4) (J2 lo&&(J2 hi&&decide (lo<=hi))) (bD 4 #[Go,λe=>?_,λe=>by rw[GA.and_assoc];exact q]))
 ·rw[G7] at e
  rw[e.1,e.2,JB,JB] at q;refine xg (J2 lo) (J2 hi&&decide (lo<=hi)) (bL (aO (bD 2 (cE #[lo,Go,Go,λe=>?_,λ_=>q]))) (ai2 T) [07] T.d_3.c aT);rw[e,JB] at q;refine xg (J2 hi) (decide (lo<=hi)) (bL (aO (bD 3 (cE #[hi,Go,Go,λe=>?_,λ_=>q]))) (ai2 T) [07] T.d_3.c aT);rw[e,JB] at q;exact Zd #[_,cc eP (pv 2) (pv 3) (aK _),_,_,Go,Go,q]
end
inductive C6 (K:Fm) (a:bi) (vs:Fh V) (H:Hp) (Q:VK) (E:XK):Prop
 |mk {l:Fq}{bs:Fi}{G:Ks}(_:vs=[.int G.zones, .int G.quarters, .int G.lo, .int G.hi, .ref l]) (_:G.quarters<=4) (_:cw K H l (jQ bs)) (_:bs.length<=3000) (_: ∀c,Eo G bs= .error c-> ∀H',aS H H'->Bad K a E H' c) (_: ∀ss Z H' U o n,Eo G bs= .ok (ss,o,n)->Z.a=a->aS H Z.N->TS Z H' U o n (Hz ss) []->Q (.ref Z.x) H'):C6 K a vs H Q E
theorem ai4 (T:aU K mg a) (XC:XN K a) (KX:ms K a) (G_j:T.d_j.O P w base 178 (kz K a)):T.aan.O P w base 179 (C6 K a):=by
 refine fS T.aan.F ahC [03] [02];obtain @⟨l,bs,G,rfl,q4,sl,lb,er,q⟩:=h;refine aM (bL (aO (abz (zo T) [07] (aO (bD 0 (aO (bD 1 (aO (bD 2 (aO (bD 3 (cE #[Go,λm dm H1 hm s1 e1=>?_]))))))))))) (amg T XC.toXW KX) [07] T.d_U.c aA);refine aO (bL (aO (bD 4 (cE #[l,bs,Go,s1.seq sl,lb,abV (λss t hr' wt=>?_) λe he=>?_]))) G_j hr T.d_j.c aA)
 ·intro H2 L us M s2 _ _ hL tl
  have ex:Eo G bs=(match Lm G ss with| .error c=> .error c| .ok (l,n)=> .ok (ss,l,n)):=by unfold Eo;rw[hr']<;>rfl
  have tl':Paired (λs v=>e9 a (λp=>H2 p=FM) H2 s v) ss us:=Paired.Nq tl λs v h=>e9.Ic (λb o e _=>#[λz=>(by rw[z] at e;cases e),e]) s h
  refine cE (.mk rfl (s2 _ _ e1) q4 hL tl' wt (λc h H' s3=>(er c (by rw[ex,h]) H' ((s1.trans s2).trans s3)).toW XC.toXW) λZ H' U o n h ha hN R=>q ss Z H' U o n (by rw[ex,h]) ha (by rw[hN];exact s1.trans s2) R)
 ·intro H2 s2 d hd
  exact er (-3) (by unfold Eo;rw[he]) H2 (s1.trans s2) _ d _ _ XC.fc rfl hd
theorem zT {H H':Hp}(s:aS H H') {p:Fq}(h:H' p=FM):H p=FM:=by
 cases e:H p with
 |none=>rfl
 |some o=>rw[s _ _ e] at h;cases h
theorem vD (zs:Fh Int):(fW zs).length=zs.length:=FE _
theorem BV (x y:Fh Int):fW (x++y)=fW x++fW y:=He
def NwI (H:Hp) (zs:Fh Int) (Q:VK):Prop:= ∀(H':Hp) (p:Fq),aS H H'->H p=FM->H' p=FB (.lst (fW zs))->Q (.ref p) H'
theorem kr {H H':Hp}{v:V}(s:aS H H'): ∀ {o:GC},fT a ol H v o->fT a ol H' v o
 | .step ..,⟨u,dx,e1,m,e⟩=>#[u,dx,e1,m,s _ _ e]
 | .block ..,⟨q,n,⟨u,dx,e1,m,e⟩,h,le⟩=>#[q,n,#[u,dx,e1,m,s _ _ e],s _ _ h,le]
theorem gX {α β:Type}{F:α->β->Prop} : ∀ {l:Fh α}{m:Fh β}{i:FH}{x:α},Paired F l m->l[i]?=FB x-> ∃y,m[i]?=FB y/\F x y
 |_::_,_::_,0,_, .cons h _,e=>by cases e;exact#[_,Go,h]
 |_::_,_::_,i+1,_, .cons _ t,e=>gX (i:=i) t e
def BR:GC->Int
 | .step _ _ _ b _ _ _=>Pf b
 | .block _ _ b _ _ _ _=>Pf b
def uY:GC->FH
 | .step d _ _ _ _ _ _=>d
 | .block d _ _ _ _ _ _=>d
def gU:GC->Int
 | .step _ _ _ _ _ _ q=>q
 | .block _ _ _ _ _ _ l=>l.sum
def uW:GC->GA
 | .step .. =>FS
 | .block .. =>Gc
theorem CJ (T:aU K mg a) {H H':Hp}{v:V}{R:V->Hp->Prop}(s:aS H H'): ∀ {o:GC},fT a ol H v o->R (.int (BR o)) H'->dE K "side" R v H'
 | .step ..,⟨u,dx,e1,_,e⟩,q=>#[u,_,dx,_,_,e1,s _ _ e,T.LG,T.Na,Go,q]
 | .block ..,⟨_,_,⟨u,dx,e1,_,e⟩,_⟩,q=>#[u,_,dx,_,_,e1,s _ _ e,T.K7,T.MO,Go,q]
theorem Cd (T:aU K mg a) {H H':Hp}{v:V}{R:V->Hp->Prop}(s:aS H H'): ∀ {o:GC},fT a ol H v o->R (.int (uY o)) H'->dE K "desk" R v H'
 | .step ..,⟨u,dx,e1,_,e⟩,q=>#[u,_,dx,_,_,e1,s _ _ e,T.LG,T.M9,Go,q]
 | .block ..,⟨_,_,⟨u,dx,e1,_,e⟩,_⟩,q=>#[u,_,dx,_,_,e1,s _ _ e,T.K7,T.MN,Go,q]
theorem rV (O:OdK K a) {H H':Hp}{v:V}{Q:VK}(s:aS H H'): ∀ {o:GC},fT a ol H v o->Q (.bl (uW o)) H'-> ∃(x:V) (C:Fq) (t:Fp) (b:GA),[v, .ref a.HB]=[x, .ref C]/\i4 K H' x t/\HA K t (.ref C)=FB b/\Q (.bl b) H'
 | .step ..,⟨_,_,e1,_,e⟩,q=>#[_,_,_,_,Go,by rw[e1];exact O.s.of (s _ _ e),O.ss,q]
 | .block ..,⟨_,_,⟨_,_,e1,_,e⟩,_⟩,q=>#[_,_,_,_,Go,by rw[e1];exact O.b.of (s _ _ e),O.bs,q]
theorem eqI {i j:Int}{H:Hp}{Q:VK}(q:Q (.bl (decide (i=j))) H):rEq (.int i) (.int j) H Q:=#[Go,by rw[show decide (V.int i=V.int j)=decide (i=j) from decide_eq_decide.mpr #[λy=>V.int.inj y,λy=>by rw[y]]];exact q]
inductive ai5 (a:bi) (vs:Fh V) (H:Hp) (Q:VK) (_E:XK):Prop
 |mk {ol:Fq}{v:V}{o:GC}(_:vs=[v]) (_:fT a ol H v o) (_:Q (.int (gU o)) H):ai5 a vs H Q _E
theorem amI (T:aU K mg a) (O:OdK K a):T.d_N.U P w base 1 (ai5 a):=by
 refine T.d_N.F.ok alg [03] [02];obtain @⟨ol,v,o,rfl,ho,q⟩:=h;refine#[_,(ao (cv (cT (aY jg (by rfl) T.KQ O9 (aa (pv 0) (aa (gW (by rfl) T.NV) ag)))) (ah (aJ [000])) bw)
   (ah (aJ (aY (vW rfl) (by rfl) T.Wt boot_sum (aa [000] ag))))),?_]
 refine rV O (λ_ _ z=>z) ho [021];cases o with
 |step d z t b p p' am=>
  obtain⟨u,dx,rfl,_,e⟩:=ho;exact ca #[u,_,dx,_,_,Go,e,T.LG,T.Mw,Go,q]
 |block d z b p g u l=>
  obtain⟨r,_,⟨y,dx,rfl,_,e⟩,hl,le⟩:=ho;exact bM #[y,_,dx,_,_,Go,e,T.K7,T.LR,Go,r,l,Go,cw.of hl,q]
def xQ (l:Fh GC) (s:Int):Int:=((l.filter λo=>decide (BR o=s)).map gU).sum
inductive ai6 (a:bi) (vs:Fh V) (H:Hp) (Q:VK) (_E:XK):Prop
 |mk {ol L:Fq}{us:Fh V}{l:Fh GC}{s:Int}(_:vs=[.ref L, .int s]) (_:H L=FB (.lst us)) (_:Paired (λv o=>fT a ol H v o) us l) (_:l.length<=48) (_: ∀H',aS H H'->Q (.int (xQ l s)) H'):ai6 a vs H Q _E
theorem amJ (T:aU K mg a) (O:OdK K a):T.d_o.U P w base 2 (ai6 a):=by
 have G_N:=amI (P:=P) (w:=w) (base:=base) T O;refine T.d_o.F.ok aa5 [03] [02];obtain @⟨ol,L,us,l,sd,rfl,hL,po,le,q⟩:=h;refine#[_,(ah (aJ (aY (vW rfl) (by rfl) T.Wt boot_sum (aa (BM (tt:=tZ (Yt rEq (aaJ K (ir 2) "side") (ir 1))) rfl aa5.nd (ib (pv 0)) (own:=[("order",2)]) (iT (by show vh ["orders","side","order"] (af s_o) _ [("order",2)]=FS;decide+kernel)) (λ_ _ _ _ _=>fF (i:=2) aa5.nd rfl (G9 rfl)) (λ_ _ _ _ _=>by exact qH (aZ bX (aj (pv 2) rfl) (pv 1) (aK _))) (λ_ _ _ _ _=>(aI G_N [07] (by rfl) T.d_N.c aT (aa (pv 2) ag)))) ag)))),?_]
 refine#[L,Go,#[_,cw.of hL],λD hD=>?_];refine ko (K:=K) (a:=L) (xs:=us) (λi H'=>aS H H'/\H' D=FB (.lst (fW (((l.take i).filter λo=>decide (BR o=sd)).map gU)))) #[bC hD,by rw[ae,OK];rfl] (λi H' _ z=>cw.of (z.1 _ _ hL)) ?_ ?_
 ·rintro i y H' hi ⟨s1,QT⟩
  obtain⟨o,hl,oy⟩:=gX po hi;refine#[Go,CJ T s1 oy (eqI #[_,Go,df (λh=>?_) λh=>#[s1,?_]])]
  ·refine#[Go,kr s1 oy,_,QT,?_,λb o e=>by rw[ac (ai e hD)];exact s1 b o e,?_]
   ·rw[vD,FE]
    refine Gr (FV (Iv _ _) (FV (KR i _) le)) [01]
   ·rw[ae,JS,hl,show(TC o).toList=[o] from rfl,PV,IP,Fv (by rw[Gp];exact h),He,BV]
    rfl
  ·rw[QT,JS,hl,show(TC o).toList=[o] from rfl,PV,IP,Fs (by rw[Gp];exact h),W9,GV]
 ·rintro H' ⟨s1,QT⟩
  rw[aV po,J6] at QT;exact#[D,_,Go,cw.of QT,q H' s1]
abbrev own (l:Fh GC) (d:FH):Fh GC:=l.filter λo=>decide ((uY o:Int)=(d:FH))
theorem kI {p:GC->GA}{l:Fh GC}(h:l[i]?=FB o):(l.take (i+1)).filter p=(l.take i).filter p++(if p o=FS then [o] else []):=by
 rw[JS,h,show(TC o).toList=[o] from rfl,PV,IP,W9]
theorem nU (d:FH): ∀l:Fh GC,KC l d=[(((own l d).filter uW).length:Int),((own l d).length:Int)-((own l d).filter uW).length,xQ (own l d) 0,xQ (own l d) 1]
 |[]=>rfl
 |o::l=>by
  have ih:=nU d l;unfold KC X9 xQ at ih ⊢;simp only[Uz,and_true] at ih;obtain⟨h1,h2,h3,h4⟩:=ih;unfold own at h1 h2 h3 h4 ⊢;simp only[FX,Fh.foldr_cons,h1,h2,h3,h4,Uz,and_true]
  have ts: ∀q:Fh Int,q.foldr (λa b:Int=>a+b) 0=q.sum:=λq=>rfl
  cases o with
  |step e z t b p p' q=>
   by_cases h:e=d
   ·subst h
    cases b<;>simp [uY,uW,BR,gU,Pf,IP]<;>lia
   ·have: ¬((e:Int)=(d:FH)):=λz=>h (Oy z)
    simp [uY,IP,h,this]
  |block e z b p g u q=>
   by_cases h:e=d
   ·subst h
    cases b<;>simp [uY,uW,BR,gU,Pf,IP,X9,ts]<;>lia
   ·have: ¬((e:Int)=(d:FH)):=λz=>h (Oy z)
    simp [uY,IP,h,this]
inductive ai7 (a:bi) (vs:Fh V) (H:Hp) (Q:VK) (_E:XK):Prop
 |mk {ol L:Fq}{us:Fh V}{l:Fh GC}{d:FH}(_:vs=[.ref L, .int d]) (_:H L=FB (.lst us)) (_:Paired (λv o=>fT a ol H v o) us l) (_:l.length<=48) (_:NwI H (KC l d) Q):ai7 a vs H Q _E
theorem amK (T:aU K mg a) (O:OdK K a):T.d_r.U P w base 3 (ai7 a):=by
 have G_o:=amJ (P:=P) (w:=w) (base:=base) T O;refine T.d_r.F.ok B4 [03] [02];obtain @⟨ol,L,us,l,d,rfl,hL,po,le,q⟩:=h;refine#[_,(ao (tV (i:=2) (tt:=tZ (Yt rEq (aaJ K (ir 4) "desk") (ir 1))) rfl B4.nd rfl rfl (wK rfl rfl rfl rfl) (ib (pv 0)) (own:=[("order",4)]) (iT (by show vh ["orders","desk","own","steps","order"] (af s_r) _ [("order",4)]=FS;decide+kernel)) (λ_ _ _ _ _=>fF (i:=4) B4.nd rfl (G9 rfl)) (λ_ _ _ _ _=>by exact qH (aZ bX (aj (pv 4) rfl) (pv 1) (aK _))) (λ_ _ _ _ _=>(pv 4)))
   (ao (tV (i:=3) (tt:=tB (tCB (λxs H Q=> ∃(x:V) (C:Fq) (t:Fp) (b:GA),xs=[x, .ref C]/\i4 K H x t/\HA K t (.ref C)=FB b/\Q (.bl b) H) (tw (ir 4) (tw (λ_ H Q=>Q (.ref a.HB) H) yK)))) rfl B4.nd rfl rfl (wK rfl rfl rfl rfl) (ib (pv 2)) (own:=[("order",4)]) (iT (by show vh ["orders","desk","own","steps","order"] (af s_r) _ [("order",4)]=FS;decide+kernel)) (λ_ _ _ _ _=>fF (i:=4) B4.nd rfl (G9 rfl)) (λ_ _ _ _ _=>by exact qH (cT (aY jg (by rfl) T.KQ O9 (aa (pv 4) (aa (gW (by rfl) T.NV) ag))))) (λ_ _ _ _ _=>(pv 4)))
   (ah (aJ (hZ (aa (aY bv (by rfl) T.J8 HF (aa (pv 3) ag)) (aa (bW cS (aY bv (by rfl) T.J8 HF (aa (pv 2) ag)) (aY bv (by rfl) T.J8 HF (aa (pv 3) ag))) (aa (aI G_o [07] (by rfl) T.d_o.c aT (aa (pv 2) (aa (aQ (by rfl) T.UJ) ag))) (aa (aI G_o [07] (by rfl) T.d_o.c aT (aa (pv 2) (aa (aQ (by rfl) T.Wn) ag))) ag))))))))),?_]
 refine#[L,Go,#[_,cw.of hL],λD hD=>?_];refine ko (K:=K) (a:=L) (xs:=us) (λi H'=>aS H H'/\ ∃QN,H' D=FB (.lst QN)/\Paired (λv o=>fT a ol H v o) QN ((l.take i).filter λo=>decide ((uY o:Int)=(d:FH)))) #[bC hD,[],ae,by rw[OK];exact .nil] (λi H' _ z=>cw.of (z.1 _ _ hL)) ?_ ?_
 ·rintro i y H' hi ⟨s1,QN,QT,pr⟩
  obtain⟨o,hl,oy⟩:=gX po hi;refine#[Go,Cd T s1 oy (eqI #[_,Go,df (λh=>?_) λh=>#[s1,QN,QT,?_]])]
  ·refine#[QN,QT,?_,λb o e=>by rw[ac (ai e hD)];exact s1 b o e,QN++[y],ae,?_]
   ·rw[aV pr]
    exact Gr (FV (Iv _ _) (FV (KR i _) le)) [01]
   ·rw[kI hl,Fv (GQ h)]
    exact fh pr oy
  ·rw[kI hl,Fs (by rw[Gp];exact h),GV]
   exact pr
 ·rintro H1 ⟨s1,u1,h1,p1⟩
  rw[aV po,J6] at p1;have le1:(own l d).length<=48:=FV (Iv _ _) le;refine#[D,Go,#[_,cw.of h1],λD2 hD2=>?_];have nD:D≠D2:=λz=>by rw[<-z,h1] at hD2;cases hD2
  refine ko (K:=K) (a:=D) (xs:=u1) (λi H'=>aS H1 H'/\ ∃QN,H' D2=FB (.lst QN)/\Paired (λv o=>fT a ol H v o) QN (((own l d).take i).filter uW)) #[bC hD2,[],ae,by rw[OK];exact .nil] (λi H' _ z=>cw.of (z.1 _ _ h1)) ?_ ?_
  ·rintro i y H' hi ⟨s2,QN,QT,pr⟩
   obtain⟨o,hl,oy⟩:=gX p1 hi;refine#[Go,rV O (s1.trans s2) oy [021]];cases z:uW o with
   |true=>
    refine ca #[QN,QT,?_,λb o e=>by rw[ac (ai e hD2)];exact s2 b o e,QN++[y],ae,?_]
    ·rw[aV pr]
     exact Gr (FV (Iv _ _) (FV (KR i _) le1)) [01]
    ·rw[kI hl,Fv z]
     exact fh pr oy
   |false=>
    refine bM #[s2,QN,QT,?_];rw[kI hl,Fs (by rw[z];exact Fl),GV];exact pr
  ·rintro H2 ⟨s2,u2,h2,p2⟩
   rw[aV p1,J6] at p2;have h1':=s2 _ _ h1;refine#[D2,_,Go, .inl (cw.of h2),D,_,Go, .inl (cw.of h1'),D2,_,Go, .inl (cw.of h2),_,_,Go,Go,?_];refine .mk rfl h1' (Paired.Nq p1 λv o h=>kr (s1.trans s2) h) le1 λH3 s3=>?_;refine .mk rfl (s3 _ _ h1') (Paired.Nq p1 λv o h=>kr ((s1.trans s2).trans s3) h) le1 λH4 s4=>?_;refine#[by show 4<=Gk;decide,λp hp=>q _ p (((s1.trans s2).trans s3).trans (s4.trans (bC hp))) (zT (((s1.trans s2).trans s3).trans s4) hp) ?_];rw[ae,nU,aV p1,aV p2]
   rfl
end OS
namespace OS
open Vbemac
theorem qU: ∀k K n D,Po (tops k K n D) (λl=>l.length<=k)
 |0,K,n,D=>by unfold tops;exact Po.fail
 |k+1,K,n,D=>by
  have E:=(rk k).expr;unfold tops;refine Po.itp (c:=λt=>peek t= .eof) (λt a r nb e=>by cases e;exact#[F6 _,nb]) (Po.ite ?_ (Po.ite (Po.itd (c:=n=0) (λ_=>Po.fail) λn0=>?_) (Po.ite ?_ Po.fail)))
  ·refine cO.bind λ_ _=>(de K).bind λx hx=>(bh _).bind λ_ _=>(E DEEP K).bind λe he=>(bh _).bind λ_ _=>(qU k (K.with x) n D).bind λl hl=>Po.pure ?_
   exact Hh hl
  ·refine cO.bind λ_ _=>(de K).bind λx hx=>(bh _).bind λ_ _=>(gO _).bind λm _=>(show Po (if m=FS then give [] else params k PARAMS (K.with x)) (λps=>ps.Nodup/\ps.length<=6) by
     split
     ·exact Po.pure #[.nil,F6 _]
     ·exact(lw k PARAMS (K.with x)).mono λ_ z=>#[z.1,z.2.1]).bind λps hp=>(bh _).bind λ_ _=>(E DEEP { K with values:=ps++K.values }).bind λe he=>(bh _).bind λ_ _=>(qU k { K with funs:=(x,ps.length)::K.funs } (n-1) D).bind λl hl=>Po.pure ?_
   exact Hh hl
  ·refine cO.bind λ_ _=>(nJ (f:=λw=>D.contains w) (n:=4) (b:=FS)).bind λx _=>(bh _).bind λ_ _=>(fV k NEST K []).1.bind λl hl=>(qU k K n (x::D)).bind λr hr=>Po.pure ?_
   exact Hh hr
theorem AX (h:KD bs= .ok ss) (hb:bs.length<=3000):deskCount ss<=70000:=by
 have r:KD bs=(match tops (fuel (tokens bs)) known0 FUNS [] (tokens bs) with
  | .error e=> .error e
  | .ok (a,_)=> .ok a):=rfl
 have tl:=zb hb;refine FV (Iv _ _) ?_;cases e:tops (fuel (tokens bs)) known0 FUNS [] (tokens bs) with
 |error x=>rw[r,e] at h;cases h
 |ok z=>
  rw[r,e] at h;cases h;have:=(qU _ known0 _ _ _ _ _ (jE _ _ _) e).1;unfold fuel at this;lia
end OS
namespace OS
open PySem PySem.Spec L2
open PyProof.Rows hiding St
variable {P:Gh}{w:GR}{K:Fm}{mg:FY->FA Fp}{base:Ha}{a:bi}
theorem qk {z t lo hi:Int}{zs:Fh Int}(h:(vv z t lo hi&&jC zs)=Gc):Lz z t lo hi zs=[-1]:=by
 show OZ [[8,z,t,lo,hi],zs]=_
 unfold OZ;rw[show Xf [[8,z,t,lo,hi],zs]=(match Mt z t lo hi,KA zs with
   |some M,some b=>FB (.desks M b)
   |_,_=>FM) from rfl]
 cases h1:vv z t lo hi with
 |false=>rw[show Mt z t lo hi=FM from Fs (by show¬vv z t lo hi=FS;rw[h1];exact Fl)]
 |true=>
  rw[h1,JB] at h;rw[tT h];cases Mt z t lo hi<;>rfl
theorem Bw {z t lo hi:Int}{zs:Fh Int}{bs:Fi}(h:vv z t lo hi=FS) (hb:KA zs=FB bs): ∃G:Ks,(G.zones:Int)=z/\(G.quarters:Int)=t/\G.lo=lo/\G.hi=hi/\G.quarters<=4/\Lz z t lo hi zs=(match Eo G bs with
  | .error c=>[c]
  | .ok (s,l,n)=>0::(Hz s:Int)::(Jb (Hz s)).flatMap λd=>KC l d):=by
 have h':=h;unfold vv FQ at h;simp only[G7,Gp] at h;refine#[#[z.toNat,t.toNat,lo,hi],by lia,by show(t.toNat:Int)=t;lia,Go,Go,by show t.toNat<=4;lia,?_]
 show OZ [[8,z,t,lo,hi],zs]=_
 unfold OZ;rw[show Xf [[8,z,t,lo,hi],zs]=(match Mt z t lo hi,KA zs with
   |some M,some b=>FB (.desks M b)
   |_,_=>FM) from rfl,hb,show Mt z t lo hi=FB _ from Fv h']
 exact ai1
theorem Ze (o:Fh GC): ∀i:FH,((Jb i).flatMap λd=>KC o d).length=4*i
 |0=>rfl
 |i+1=>by rw[Xa,U6,FR,Ze o i];rfl
theorem amL (T:aU K mg a) (XC:XN K a) (KX:ms K a) (O:OdK K a) (G_j:T.d_j.O P w base 178 (kz K a)):
  T.d_a.U P w base 180 (kt K):=by
 refine T.d_a.F.ok yH [03] [02];obtain⟨z,t,lo,hi,l,zs,rfl,hS,hl,hQ⟩:=h;refine#[_,(ao (BD (R:=a.Hn) (G:=a.Hn) (i:=6) (λv od SE=> ∃(C d fI:Fq) (c:Int) (fs:Fh (FY×V)),v= .ref C/\od=FB d/\dG K a.Hn C fI/\Lz z t lo hi zs=[c]/\SE d=FB (cn d fs)/\fs.lookup ("number":FY)=FB (V.int c)) rfl rfl (λC d H h=>by obtain⟨_,_,fI,_,_,e,_,x,_⟩:=h;cases e;exact#[fI,x, .inr rfl]) (by rfl) T.Ib yH.nd rfl rfl
    (λpins Ew PE_=>ao (bj (aI (amH T XC) [07] (by rfl) T.d_g.c PE_ (aa (oR (aI (ai3 T) [07] (by rfl) T.aam.c aT (aa (pv 0) (aa (pv 1) (aa (pv 2) (aa (pv 3) ag))))) (jI (aI (amG T) [07] (by rfl) T.d_L.c aT (aa (pv 4) ag)))) ag)))
     (ah (cr (i:=5) yH.nd rfl (G9 rfl) (aI (ai4 T XC KX G_j) hr (by rfl) T.aan.c PE_ (aa (pv 0) (aa (pv 1) (aa (pv 2) (aa (pv 3) (aa (pv 4) ag)))))))))
    (λa'=>(ah (aJ (hZ (aa (EQ (K:=K) rfl [00] mO (pv 6) (by rfl)) ag))))))
   (ao (cr (i:=7) yH.nd rfl (G9 rfl) (bW dN (aj (pv 5) rfl) ak))
   (ao (cr (i:=8) yH.nd rfl (G9 rfl) (hZ (aa ak (aa (pv 7) ag))))
   (ao (rn KW rfl (pL (by rfl) T.UK (aa (pv 7) ag)) (fF (i:=9) yH.nd rfl (G9 rfl)) (ah (bj (sj ID PySem.F.slot_list_extend PySem.F.type_list_extend zy (pv 8) (aa (aI (amK T O) [07] (by rfl) T.d_r.c aT (aa (aj (pv 5) rfl) (aa (pv 9) ag))) ag)))))
   (ah (aJ (pv 8))))))),?_]
 refine#[?_,?_]
 ·have bad: ∀ {H1:Hp}{c:Int},Lz z t lo hi zs=[c]->Bad K a (λv od SE=> ∃(C d fI:Fq) (c:Int) (fs:Fh (FY×V)),v= .ref C/\od=FB d/\dG K a.Hn C fI/\Lz z t lo hi zs=[c]/\SE d=FB (cn d fs)/\fs.lookup ("number":FY)=FB (V.int c)) H1 c:=λh C d fI fs x lk hd=>#[C,d,fI,_,fs,Go,Go,x,h,ae,lk]
  refine#[z,t,lo,hi,Go,_,Go,aP (λh1=>?_) λh1=>#[_,Go,nofun,λ_=>bad (qk (by rw[h1];rfl))]];refine#[l,zs,Go,hS,hl,λH1 s1=>#[_,Go,λht=>?_,λht=>bad (qk (by rw[h1,ht];rfl))]];obtain⟨bs,eb,ev',hb⟩:=uB ht;obtain⟨G,rfl,rfl,rfl,rfl,q4,ec⟩:=Bw h1 eb;refine .mk rfl q4 (by rw[ev'];exact s1.seq hS) hb (λc h H' _=>bad (by rw[ec,h])) λss Z H' U o n h ha _ R=>?_;subst ha;rw[h] at ec;obtain⟨B,nm,R,_,hd,_⟩:=R;obtain @⟨r,b,ff,d,s,nd,kk,os,FO,W,A,gs,YR,hj⟩:=R;have le:o.length<=48:=YR.le;have sB:=W.O.same;have ho:=sB _ _ YR.ho;have hx:=sB _ _ YR.hx;have rd:KD bs= .ok ss:=by
   unfold Eo at h;cases e:KD bs with
   |error x=>rw[e] at h;cases h
   |ok s'=>
    rw[e] at h;dsimp only at h;cases e2:Lm G s' with
    |error c=>rw[e2] at h;cases h
    |ok y=>rw[e2] at h;cases h;rfl
  have dl:=AX rd hb;refine#[Z.x,_,Z.dx,_,_,Go,hx,T.HL,T.Kw,Go,_,_,Go,Go,?_];rw[hd];refine#[by show 2<=Gk;decide,λD hD=>?_]
  have s1:=bC (o:=HO.lst [V.int 0,V.int (Hz ss:FH)]) hD;refine#[_,Go,by lia,by lia,?_];rw[WD];refine qv (lo:=0) (n:=Hz ss) (λi σ H3=> ∃y:FA V,σ=[FB (.int G.zones),FB (.int G.quarters),FB (.int G.lo),FB (.int G.hi),FB (.ref l),FB (.ref Z.x),FM,FB (.int (Hz ss:FH)),FB (.ref D),y]/\aS H' H3/\H3 D=FB (.lst (fW (0::(Hz ss:Int)::(Jb i).flatMap λd=>KC o d)))) #[FM,Go,s1,by rw[ae];rfl] ?_ ?_
  ·rintro i σ H3 hi ⟨y',rfl,s3,h3⟩
   refine#[.inl #[Go,_,cw.of h3],Z.x,_,Z.dx,_,_,Go,s3 _ _ hx,T.HL,T.JX,Go,?_];rw[T1];refine .mk (d:=i) rfl (s3 _ _ ho) (Paired.Nq YR.po λv o h=>kr (λb u e=>s3 _ _ (sB _ _ e)) h) le λH4 p s4 hp e4=>?_;have nD:p≠D:=λz=>by rw[z,h3] at hp;cases hp
   have fl:=Ze o i;refine#[D,p,_,_,Go,Go,s4 _ _ h3,e4,?_,FB (.int i),Go,λb u e=>?_,?_]
   ·rw[vD,vD,FG,FG,fl,show(KC o i).length=4 from rfl]
    exact FV (m:=300000) (by lia) [01]
   ·rw[ac λz=>by rw[z,hD] at e;cases e]
    exact s4 _ _ (s3 b u e)
   ·rw[ae,Xa,<-BV,U6]
    rfl
  ·rintro σ H3 ⟨y,rfl,s3,h3⟩
   refine hQ _ D ?_;rw[ec,h3]
 ·rintro C d H2 a' ⟨C',d',fI,c,fs,eC,ed,X1,ec',hd,lk⟩ ha'
  cases ed;cases eC;have nd:d≠a':=λz=>by rw[z,ha'] at hd;cases hd
  have h1:aF H2 a' (kH C d a') d=FB (cn d fs):=by rw[ac nd];exact hd
  refine#[_,_,_,a',d,_,_,X1,Go,ae,h1,lk,?_];refine#[by show 1<=Gk;decide,λp hp=>?_];refine hQ _ p ?_;rw[ec'];exact ae
theorem ms.at_ (I:ms K a) (hi:(zQ a)[i]?=FB C) (hj:(zQ a)[j]?=FB D) (h:i<15) (h':j<15):HA K (.ref C) (.ref D)=FB (decide (i=j)):=by
 have:=Gx (λl=>(l[i]?.bind λr:Fh (FA GA)=>r[j]?)) I.kit
 rw[GB,hi,GB,MI h] at this;simp only[Ms,FA.bind_some,GB,hj,MI h'] at this;exact FL this
theorem abW {a:bi}(I:ms K a):qx K a:=#[I.ty _ (.tail _ (.tail _ (.tail _ (.tail _ (.tail _ (.tail _ (.tail _ (.head _)))))))),I.ty _ (.tail _ (.tail _ (.tail _ (.tail _ (.tail _ (.tail _ (.tail _ (.tail _ (.head _))))))))),I.ty _ (.tail _ (.tail _ (.tail _ (.tail _ (.tail _ (.tail _ (.tail _ (.tail _ (.tail _ (.head _)))))))))),I.ty _ (.tail _ (.tail _ (.tail _ (.tail _ (.tail _ (.tail _ (.tail _ (.tail _ (.tail _ (.tail _ (.head _))))))))))),I.ty _ (.tail _ (.tail _ (.tail _ (.tail _ (.tail _ (.tail _ (.tail _ (.tail _ (.tail _ (.tail _ (.tail _ (.head _)))))))))))),I.at_ (i:=7) (j:=7) rfl rfl [01] [01],I.at_ (i:=8) (j:=7) rfl rfl [01] [01],I.at_ (i:=9) (j:=7) rfl rfl [01] [01],I.at_ (i:=10) (j:=7) rfl rfl [01] [01],I.at_ (i:=11) (j:=7) rfl rfl [01] [01]]
theorem Ct {mg:FY->FA Fp}{base:Ha}{a:bi}(T:aU K mg a) (XC:XN K a) (kS:z6 P w K a.Ke dR) (kF:DH P w K a.Ho dy) (KT:Ac K a.Iu dj) (I:ms K a) (O:OdK K a):T.d_a.U P w base 180 (kt K):=
 amL T XC I O (Ae T XC.toXT (abW I) KT kS kF)
end OS
open PySem PySem.W PyProof.Rows
theorem PySem.Challenge.cw_ordersheets_s09_desks_holds : PySem.Challenge.rw_ordersheets_s09_desks.Holds :=
 OS.hd OS.Ct

import PyProof.Rows.All
import KE.OsGo
import Wide.All
import OpenK.AllK
import Wide.FinOn
import PyProof.EqAt
import PyProof.EqKinds
import PyProof.TupleCall
import KE.BitLaws
import Open.SpecLaws
import KE.OsHead
import PyProof.StationsW
import PyProof.PassesOwn
import PyProof.ExcClass
import PyProof.ExcClass2
import PyProof.ExcArgs
import PyProof.ExcBaseAll.Exception
import PyProof.InstLoad
import PyProof.InstStoreFacts
import VbemacSpec
import PySem.Str
import PySem.Challenge.RW_ordersheets_s03_expand
import PyProof.RulesAs
import PyVbemac
local macro_rules|`(#[$x,*])=>`(⟨$x,*⟩)
open Option renaming some->Fa,none->FB
open Bool renaming true->FM,false->FS
open _root_ renaming rfl->Gc
set_option compiler.extract_closed false
set_option hygiene false
local macro_rules
|`([00])=>`((by decide+kernel))
|`([01])=>`((by decide))
|`([02])=>`((λGF A outer s H vs Q E hr h=>?_))
|`([03])=>`((λvs H Q E h=>by cases h;subst_vars;rfl))
|`([04])=>`((λ_ _ _ _ _ _ us hl=>OS.u2 hl λ_ _=>[0x0]))
|`([05])=>`((λ_ q=>q))
|`([06])=>`((λ_ _ _ _ _ _ us hl=>OS.u1 hl λ_=>[0x0]))
|`([07])=>`((hr.mono [01]))
|`([08])=>`((ah (pv 0) rfl))
|`([09])=>`((by exact rfl))
|`([000])=>`((OS.aC KX G [0x5] [04]))
|`([001])=>`((FS,eval e X.env))
|`([002])=>`((λ_ _=>rfl))
|`([003])=>`(("__debug__":FD))
|`([004])=>`((λ_ _ _ _ _ _ us hl=>OS.u3 hl λ_ _ _=>[0x0]))
|`([005])=>`((.Name "reader" p1))
|`([006])=>`((FH KX G [09]))
|`([007])=>`(#[by decide+kernel,by decide+kernel,by decide+kernel])
|`([008])=>`(#[by decide+kernel,by decide+kernel])
|`([009])=>`((OS.aC KX G [0x5] [06]))
local macro_rules
|`(tactic|rw[00])=>`(tactic|(obtain⟨n,S⟩:=R.S))
|`(tactic|rw[01])=>`(tactic|(intro pins s σ H Q I h))
set_option hygiene true
open _root_ renaming List->EV,if_neg->E5,if_pos->E7,Option->Fd,Nat->Fm,absurd->Fv,of_decide_eq_true->FN,of_decide_eq_false->FR,decide_eq_false->FU,decide_eq_true_iff->F5,congrArg->Ga,Bool->Gg,decide_eq_true->Gy,beq_self_eq_true->GN,UInt8->IP,Array->Jk,if_false->ME,Unit->MZ,decide_eq_true_eq->NT,if_true->SW,not_or->VH
open Vbemac renaming Bytes->EW,text->EY,Toks->E2,Known->E6,Exp->Fc,P->Fe,isKey->Ff,peek->Fp,within->Fw,fail->Fx,expr->FE,sign->FX,isSign->FY,Bytes->F7,Pos->Gh,Out->Gj,KEYS->Gp,next->Gq,Tok->Gs,SIGNS->Gu,primary->Gw,newName->Gz,unary->GD,tokens->GJ,Stmt->GR,behind->G9,Top->Ha,Env->Hb,key->Hc,deeper->Hh,DEEP->Hl,digit->Hw,Order->Hx,isKey->HB,Blocks->HJ,Scope->HM,place->HZ,evAmounts->Il,side->IC,runOne->IJ,zoneIn->IK,known0->IM,Stmts->IQ,MOST->IT,knownBlock->IZ,Sheet->Je,deskCount->Jg,Funs->Jw,told->Jx,runAll->JB,maybeName->JG,isPrice->JH,Exps->JP,tops->JQ,stmts->JT,letter->J2,Market->J3,params->J4,bytesOf->Kb,BIG->Kc,ifSign->KC,addBlock->KJ,stmt->KW,BUILT->K9,signOf->Ll,ev->Ly,fuel->LN,isSign->LP,marketOf->L3,expandSteps->Mw,compare->MA,row->MB,Toks->MI,expandTops->MY,FUNS->M0,truth->NL,read->Oe,answer->OI,lex->OT,SLOPE->Pn,arguments->PV,Rest->Ql,valueIn->QR,blank->RW,evEither->Tq,MOSTORDERS->UI,withOrders->UJ,moreAdded->Vb,moreTimes->Vc,blockName->Vd,compared->VD,evRest->VI,builtIn->We,checked->Wf,moreAnd->Wh,addStep->Wi,runLoop->Wj,anyName->Wl,moreOr->WH,placed->WI,decode->WJ,arith->Xs,added->Xt,times->Xu,evOpt->Xv,ifKey->Xw,PRICE->Xx,evBoth->YX,ands->Y1
open Bool renaming false_ne_true->EZ,and_eq_true->GC,eq_iff_iff->GZ,noConfusion->He,and_false->HY,false_eq_true->II,false_and->IW,true_and->Jh,or_eq_false_iff->LZ,or_eq_true->Mh,or_false->OX,not_eq_false'->Pl,or_true->P0,false_or->RR,true_or->S6,and_eq_true_iff->TZ,not_eq_true'->Vy,eq_false_iff->Vz
open PySem.W renaming Frag->E1,mg_of->FH,mg_none_of->Hg,kitOne->Hy,findIn->HF,kia_one->HW,fnOf->HX,emptyDict->Iq,keepIn->Ir,instObj->Jo,nsIn->JO,callWith_K->KG,codeIn->K3,methodCall_KW->Lc,plainGet->Nb,lookIn->NY,plainGet_of->Og,callWith_K0->Oh,methodObj->OU,hasDictIn->OV,specialIn->OW,isFn->OY,length_le_weightAllW->Qh,takerIn->Qk,nsMap_none_of_in->QU,cellsFrom_some->Rp,isNs_of_in->Tp,plainOver->T8,kitx_list->T9,kitx_dict->Ua,WRecords->UK,handedIn->UL,makesIn->Ve,takesIn->Vf,findCls->Vg,WalkOS->VE,typeIn->VF,nsOkIn->VG,mroIn->Wm
open PySem renaming Value->E3,Addr->E4,Shared->E8,wpAny_bind->Fn,starEach->Fy,Str->FD,wpAny->FG,sizeLine->FP,wpAny_pure->FT,Program->FW,FuncData->Gb,wpAny_loadPart_at->Gk,World->Gx,mem_of_lookup->GB,Around->GG,Heap->GI,bindArgs->Hf,boot_len->Hr,Expr->Hv,typeLookup->HD,sizeLine_eq->HP,cellsFrom->HU,excClassObj->Ib,compareOp->Ij,attributeBase->Im,sysModules->Io,wpAny_mono->Ip,wpAny_truthy_bool->ID,backTo->IE,Obj->IG,builtinLookup_eq_fast->IV,mainGlobals->Jc,keywordEach->Jd,checkBuiltinCall->Jr,wpAny_Call_Name_kw->Jy,NameKind->JJ,tupleKind_room_in1->J8,wpAny_passesOwn->Kh,typeLookup_type->Ki,backToKw->KH,intItems->KI,bootBuiltins->KQ,getMethod->KU,codeAny->Lf,swapsWith->Lx,foldedSetIterable->LO,plainObj_wpAny_Assign_Attribute->Md,numAt->Mi,StoreFacts->Mm,argBest->Mz,sliceBounds->MC,compEnvC->MF,wpAny_execs_nil->MV,codeAny_mono->M8,ExcBaseFacts->M9,tupleKind->Nv,pushCells->Nw,callWith->NC,Within->NQ,wpAny_standAt->NV,wpAny_holding->NW,rawInt->NX,DictEntry->Oi,binaryOp->Oj,letOwnedTupleGo->OO,pushCells_keeps->OP,codeAny_call_builtin->Pq,importBound->Pw,cLine->Px,PassesOwn->PR,noteFrame->PU,valueAt->PZ,wpAny_call->Qx,GenState->QV,atKey->QW,wpAny_lookBehind->Rm,pastItsLine_dict->Rn,setFlight->Rq,pyNext->Rt,IsPair->Ru,BindsTo->SO,callerA->SQ,getAttr->SR,setAttr->SS,getItem->SV,notedBy->SY,wpAny_setField->Tj,lastMarks->U9,bindL->Vh,bindC->Vi,wpAny_nextOf_list_item->Vq,tupleKeyHash->Vs,wpAny_nsSet1->Vu,wpAny_typeOf->Vv,Fin->VJ,wpAny_isTrue_Compare1->Wb,wpAny_loadName_local->Wy,ZipApart->WG,wpAny_loadName_cell->Xo,Builtin->Xr,wpAny_getItem_heap->YO,getattributeRaised->YQ,builtinsNs->YR,wpAny_Name->YS,typeIs_str->YU,isInstance->YV
open List renaming mem_cons_of_mem->E9,mem_cons_self->Fb,length_map->Fh,mem_cons->Fi,length_cons->Fj,length_append->Ft,mem_singleton->Fz,map_cons->FC,mem_append->FK,getElem?_eq_some_iff->FZ,size_toArray->F3,nodup_cons->F6,contains_iff_mem->F8,getElem?_map->Gf,contains_cons->Gn,append_assoc->Gr,length_reverse->Gv,reverse_cons->GA,append_nil->GL,mem_of_getElem?->GP,map_append->GS,find?_cons->G6,mem_append_right->G8,drop_eq_getElem_cons->Hd,getElem?_eq_getElem->Hi,not_mem_nil->Hs,getD_eq_getElem?_getD->IA,getElem?_eq_none->IF,replicate->IX,take_of_length_le->Jf,lookup->Ji,range->Jl,length_singleton->Jm,map_map->JA,takeWhile_cons->JI,lookup_cons->JK,mem_reverse->JL,drop_of_length_le->JY,length_nil->J5,take_add_one->J9,take_length->Ko,mem_of_find?_eq_some->Kq,filterMap_cons->Kz,mem_map_of_mem->KA,of_mem_zip->KS,getElem?_replicate->K0,nodup_append->Ld,mem_map->Lg,all_eq_true->LJ,length_drop->LK,any_eq_true->LL,mem_append_left->LX,mem_of_getLast?->LY,getElem?_range->Ml,nodup_nil->MK,find?_isSome->Na,all_cons->Ny,any_cons->Nz,length_eq_zero_iff->NJ,length_take->NK,getElem?_set_self->NS,length_replicate->Oc,length_filter_le->Od,getElem?_set_ne->Oq,drop_drop->Ot,length->Ou,find?_eq_none->Pk,length_filter_eq_length_iff->PN,length_range->PQ,map_nil->PY,filter_cons->Qq,take_append->Qr,drop_length->Qs,eq_nil_of_length_eq_zero->Qw,find?_some->QQ,forIn_nil->Q7,take_zero->Q8,getElem?_append_left->Rk,getLastD_eq_getLast?->Rl,getLast?_cons_cons->R9,drop_eq_nil_of_le->SJ,append_eq_nil_iff->SK,all_map->SX,any_map->S7,take_append_drop->Td,eq_nil_or_concat->Te,concat_eq_append->Tf,filterMap_append->Tg,getElem?_reverse->Th,length_take_le'->T1,mem_of_mem_take->T3,dropLast_concat->T4,mem_of_mem_drop->T5,toList_toArray->UA,take_succ_cons->UD,reverse_append->UE,mem_filterMap->U5,map_inj_right->U7,any_eq_false->Vt,find?_append->Vw,mem_of_head?->Vx,drop_sublist->VA,flatMap_cons->VB,cons_append->Wc,perm_middle->Wd,mem_filter->WA,forIn_cons->WB,length_zip->WC,map_const'->WD,sum_cons->YW
open PySem.Heap renaming get?_push_of_some->Fl,lt_size->FJ,get?_push_size->GK,get?_update_other->GV,size_push->HC,get?_update_self->Jn,SameBut->My,get?_update_ne->UC
open Nat renaming le_refl->Fq,le_trans->FA,zero_le->FI,lt_of_lt_of_le->FQ,lt_of_le_of_lt->F9,ne_of_lt->GQ,lt_succ_self->Ht,succ_le_succ->Hu,add_sub_cancel_left->HI,lt_irrefl->HL,lt_succ_of_lt->Jb,le_add_right->JN,le_of_eq->J1,le_of_lt->Kt,add_comm->Ku,zero_add->Kv,le_succ->K8,le_of_succ_le->Lj,ne_of_gt->Lk,add_le_add_left->Mu,add_sub_cancel->MW,add_right_comm->MX,le_succ_of_le->Nu,sub_self->Qj,succ->Rv,add_assoc->Sb,lt_of_le_of_ne->Vr,min_eq_right->Wz,min_eq_left->Xp
open Option.some renaming inj->Fs
open StateT renaming bind->FF
open PySem.Value renaming ref->FL,none->HK,int->J6,builtin->LM,bool->MG,type->MH,str->Ov,isStrOf->OR,float->Tr
open Option renaming map_eq_some_iff->F4,isSome_map->HR,bind_eq_some_iff->Ii,isSome_iff_exists->Ky,map_some->L0,none->S8,some_ne_none->Tn,isSome_some->T7,getD_none->Va,map_map->Wg
open Or renaming inl->GO
open True renaming intro->G7
open Vbemac.Tok renaming word->Hj,sign->IU
open Sum renaming inr->HQ,inl->JC
open PySem.Obj renaming mapFields->Ia,isFreed_of_fields->LI,data_mapFields->Pu
open PySem.F renaming plainAttrs_list->Ie,store_Exception->Ig,slot_list_append->Kr,type_list_append->Ks,slot_zip_getattribute->Lz,slot_dict_getitem->QO,excBase_Exception->QP,slot_dict_pop->RO,slot_list_pop->RP,type_list_pop->RQ
open Ne renaming symm->Iu
open False renaming elim->Iz
open PySem.PassesOwn renaming leaving->IS,never->Kp
open List.cons renaming inj->Js
open Sum.inr renaming inj->Jt
open PyProof.Rows renaming envOfC->Jz,callWith_type1->JM,boot_tuple->Mx,callWith_builtin1->Oo,AllBare->PX,boot_isinstance->Sa,subscriptTail->UG,subscriptTail_builtinR->Vp,Subscript_->YT
open Array renaming getElem?_eq_some_iff->Ke,toList->Sd,getElem?_toList->SM,mem_toList_iff->Ti,length_toList->T6,find?_toList->UH,toList_map->VC
open PyVbemac renaming expand->Kw
open PySem.Calls renaming spliced_cons->KR,callWith_builtin->La,spliced_nil->Lb,evalArgs_plain->Of,Name_function_global->QT
open PySem.NameKind renaming free->Lm,cell->QS
open PySem.Builtin.List renaming listTooLong->Mg
open Int renaming toNat_of_nonneg->Mv
open PySem.Builtin.SmallTypes renaming ownedTupleIsFree->MU,nextOf->Ol
open UInt8 renaming toNat->M7,ofNat->Om,toNat_inj->Qy,ofNat_toNat->U8,toNat_lt->WE
open ForInStep renaming yield->NA
open Vbemac.Known renaming taken->NU
open PySem.Heap.Ns1 renaming of_empty->OQ
open PySem.Builtin.Dict renaming updateFrom->Qi
open PySem.Paired renaming length->Q9,snoc->YY
open Nat.succ renaming inj->Ra
open PySem.EntryCells renaming newEntry->Rr
open PySem.SeqAt.EqAt renaming int_str->RT,str_int->RU
open PySem.Around renaming under->RV,under_plainId->SN
open PySem.Code renaming isFrame->SU,quiet_builtin->U6
open PySem.Heap.DictOf renaming new->S9
open Vbemac.Exp renaming call->Ts
open PySem.Data renaming seq->Ub
open PySem.Value.type renaming inj->Uc
open PySem.Txt renaming join->UM
open Int.ofNat renaming inj->Vj
open PySem.Bind renaming checkArgs->Xq
open Sum.inl renaming inj->Xy
open PySem.Str renaming join->YZ
open PySem.Within renaming cons->Y0
open PySem.Heap.IsSliceOf renaming new->abz
set_option Elab.async false
set_option linter.all false
set_option maxRecDepth 100000
set_option cleanup.letToHave false
set_option maxHeartbeats 4000000
set_option maxRecDepth 100000 in
set_option maxHeartbeats 0 in
theorem OS.abA:PySem.Challenge.rw_ordersheets_s03_expand.wellSaid=FM:=by decide+kernel
namespace OS
open PySem PySem.W
def live (o:IG):Fd IG:=match o with
 |⟨_,_, .freed,_⟩=>FB
 |o=>Fa o
noncomputable def pick (l:EV IG):Fm->EV Fm->EV (Fd IG):=
 @EV.rec IG (λ_=>Fm->EV Fm->EV (Fd IG)) (λ_ _=>[])
  (λo _ f i as=> @EV.rec Fm (λ_=>EV (Fd IG)) [] (λa t _=> @Gg.rec (λ_=>EV (Fd IG)) (f (Rv i) as) (live o::f (Rv i) t) (Fm.beq a i)) as) l
theorem yX (o:IG) (l:EV IG) (i a:Fm) (t:EV Fm):pick (o::l) i (a::t)=if a=i then live o::pick l (i+1) t else pick l (i+1) (a::t):=by
 show @Gg.rec (λ_=>EV (Fd IG)) _ _ (Fm.beq a i)=_
 cases h:Fm.beq a i
 ·rw[E5 (Fm.ne_of_beq_eq_false h)];rfl
 ·rw[E7 (Fm.eq_of_beq_eq_true h)];rfl
theorem EU {K:EV (Fm×IG)}(l:EV IG): ∀(i:Fm),pick l i (K.map (·.1))=K.map (λp=>Fa p.2)-> ∀p∈K,i<=p.1/\l[p.1-i]?.bind live=Fa p.2:=by
 induction l generalizing K with
 |nil=>
  intro i h p hp;cases K with
  |nil=>cases hp
  |cons q r=>cases h
 |cons o l ih=>
  intro i h p hp;cases K with
  |nil=>cases hp
  |cons q r=>
   rw[FC,yX] at h;split at h
   ·rename_i e
    obtain⟨h1,h2⟩:=Js h;rcases Fi.mp hp with z|z
    ·rw[z,e,Qj];exact#[Fq _,h1]
    ·have⟨a,b⟩:=ih (i+1) h2 p z
     refine#[by lia,?_];rw[show p.1-i=p.1-(i+1)+1 by lia];exact b
   ·have⟨a,b⟩:=ih (K:=q::r) (i+1) h p hp
    refine#[by lia,?_];rw[show p.1-i=p.1-(i+1)+1 by lia];exact b
theorem va {K:Frag}{a:Fm}{o:IG}(e:K.lookup a=Fa o):(a,o)∈K:=by
 induction K with
 |nil=>cases e
 |cons p r ih=>
  obtain⟨b,x⟩:=p;simp only[Ji] at e;split at e
  ·rename_i q;cases e;rw[beq_iff_eq.mp q];exact .head _
  ·exact .tail _ (ih e)
noncomputable def hook (K:Params->Frag) (as:EV Fm) (e: ∀P,as=(K P).map (·.1)):Hook:=
 #[EV (Fd IG),λs=>pick s.heap.objs.toList 0 as,λw=>(K w.params).map λp=>Fa p.2,InK K,λw s h a o x=>by
  rw[e w.params] at h;have:=(EU _ 0 h _ (va x)).2;rw[SM] at this;unfold GI.get?;cases z:s.heap.objs[a]? with
  |none=>rw[show(a,o).1-0=a from rfl,z] at this;cases this
  |some y=>rw[show(a,o).1-0=a from rfl,z] at this;rcases y with⟨_,_,x,_⟩;cases x<;>exact this,InK.keeps]
theorem Vk {K:Params->Frag}{as:EV Fm}{e: ∀P,as=(K P).map (·.1)} {w:Gx}{h:GI}(Y:(hook K as e).says w h):(K w.params).In h:=Y
end OS
namespace L2
open PySem PySem.Spec PyProof.Rows
abbrev a8:=Sum Int FD
def jn:a8->E3->Gg
 | .inl k,v=>E3.isInt k v
 | .inr x,v=>OR x v
def aiG (w:Gx):a8->Int
 | .inl k=>hashInt k
 | .inr x=>hashStr w x
theorem cF: ∀ {k:a8}{v:E3},jn k v=FM->(∃i t,k=JC i/\v=J6 i t)\/(∃x t,k=HQ x/\v=Ov x t)
 | .inl i,v,h=>by
  obtain⟨t,e⟩:=E3.isInt_shape (k:=i) (v:=v) h;exact .inl #[i,t,Gc,e]
 | .inr x,v,h=>by
  obtain⟨t,e⟩:=E3.isStrOf_shape (x:=x) (v:=v) h;exact .inr #[x,t,Gc,e]
theorem Y2 (a b:Int):decide ((JC a:a8)=JC b)=(a == b):=by
 by_cases e:a=b
 ·subst e;simp
 ·have h: ¬(JC a:a8)=JC b:=λq=>e (Xy q)
  rw[FU h];exact(beq_eq_false_iff_ne.mpr e).symm
theorem Y3 (a b:FD):decide ((HQ a:a8)=HQ b)=decide (a=b):=by
 by_cases e:a=b
 ·subst e;simp
 ·have h: ¬(HQ a:a8)=HQ b:=λq=>e (Jt q)
  rw[FU h,FU e]
theorem Y4 (a:Int) (b:FD):decide ((JC a:a8)=HQ b)=FS:=FU (λq=>nomatch q)
theorem Y5 (a:FD) (b:Int):decide ((HQ a:a8)=JC b)=FS:=FU (λq=>nomatch q)
def aT (prog:FW) (w:Gx):PySem.KeyKind prog w a8 where
 is:=jn
 hash:=aiG w
 inj:=λv a b ha hb=>by
  rcases cF ha with⟨i,t,rfl,rfl⟩|⟨x,t,rfl,rfl⟩
  ·rcases cF hb with⟨j,u,rfl,e⟩|⟨y,u,rfl,e⟩
   ·injection e with e1 _;rw[e1]
   ·exact nomatch e
  ·rcases cF hb with⟨j,u,rfl,e⟩|⟨y,u,rfl,e⟩
   ·exact nomatch e
   ·injection e with e1 _;rw[e1]
 byValue:=λk v h=>by
  rcases cF h with⟨i,t,rfl,rfl⟩|⟨x,t,rfl,rfl⟩<;>rfl
 pyHash:=λhv h=>by
  rcases cF hv with⟨i,t,rfl,rfl⟩|⟨x,t,rfl,rfl⟩
  ·exact wpAny_pyHash_int h
  ·exact wpAny_pyHash_str h
 eqBool:=λhu hv h=>by
  rcases cF hu with⟨i,t,rfl,rfl⟩|⟨x,t,rfl,rfl⟩
  ·rcases cF hv with⟨j,u,rfl,rfl⟩|⟨y,u,rfl,rfl⟩
   ·rw[Y2] at h;exact wpAny_eqBool_int h
   ·rw[Y4] at h;exact RT i t y u _ _ _ _ h
  ·rcases cF hv with⟨j,u,rfl,rfl⟩|⟨y,u,rfl,rfl⟩
   ·rw[Y5] at h;exact RU x t j u _ _ _ _ h
   ·rw[Y3] at h;exact wpAny_eqBool_str h
 «strs»:=λk x t v h=>by
  rcases cF h with⟨i,u,rfl,e⟩|⟨y,u,rfl,e⟩
  ·exact nomatch e
  ·injection e with e1 _
   subst e1;cases v<;>rfl
inductive V where
 |Iw|bl (b:Gg)|int (i:Int)|str (x:FD)|Se (b:Jk IP)|Xz (b:UInt64)|ref (a:E4)|ty (n:String)
 deriving DecidableEq
def bo:V->E3->Prop
 | .Iw,u=>u=HK
 | .bl b,u=>u=MG b
 | .int i,u=> ∃t,u=J6 i t
 | .str x,u=> ∃t,u=Ov x t
 | .Se b,u=> ∃t,u=E3.bytes b t
 | .Xz b,u=> ∃t,u=Tr b t
 | .ref a,u=>u=FL a
 | .ty n,u=>u=MH n
abbrev aY:EV V->EV E3->Prop:=Paired bo
def fU:Fd V->Fd E3->Prop
 |some v,some u=>bo v u
 |none,none=>True
 |_,_=>False
def KV {κ:Type} :EV (κ×V)->EV (κ×E3)->Prop:=Paired λ(p:κ×V) (q:κ×E3)=>p.1=q.1/\bo p.2 q.2
def kV:a8->V
 | .inl i=> .int i
 | .inr x=> .str x
inductive HO where
  |lst (xs:EV V)
  |tup (xs:EV V)
  |dK (aD:EV (a8×V))|dT (aD:EV (EV a8×V))
  |set (S:Int->Gg) (n:Fm)
  |ins (C dx:E4) (fs:EV (FD×V))
  |own (x:E4)
  |xd (fs:EV (FD×V))
  |met (f x:E4)
  |rng (lo hi:Int)
  |Qz (o:IG) (u:HO)
  |Y6 (ps:Jk E3)
  |ext (φ:GI->Prop)
abbrev Hp:=E4->Fd HO
section
variable (P:FW) (w:Gx)
def cu (H:Hp) (h:GI) (a:E4):HO->Prop
 | .lst xs=>xs.length<=FP/\ ∃(Ho:EV E3) (n:Fm),aY xs Ho/\h.get? a=Fa { cls:= .type "list",data:= .seq Ho.toArray n }
 | .tup xs=>xs.length<=FP/\ ∃Ho:EV E3,aY xs Ho/\IsTup h a Ho.toArray
 | .dK aD=>aD.length<=FP/\(a == Io)=FS/\ ∃vs,KV aD vs/\h.DictOf (aT P w) a vs
 | .dT aD=>aD.length<=FP/\(a == Io)=FS/\ ∃xs:EV (EV a8×E4×E3),
   Paired (λ(p:EV a8×V) (q:EV a8×E4×E3)=>p.1=q.1/\H q.2.1=Fa (.tup (p.1.map kV))/\bo p.2 q.2.2) aD xs/\
   ∃o es ep,h.get? a=Fa o/\o.ExactDict/\o.data= .dict es ep/\es.toList=xs.map (entryOfKey (Nv (aT P w)))/\(xs.map (·.1)).Nodup
 | .set S n=>h.SetOf (intKind P w) a S n
 | .ins C dx fs=>H dx=Fa (.own a)/\fs.length<=1000/\dx≠a/\h.get? a=Fa (Jo C dx)/\
   ∃mA,h.Ns1 dx mA/\(∀f,fU (fs.lookup f) (mA f))/\NQ mA (fs.map (·.1))
 | .own _=> ∃o,h.get? a=Fa o
 | .xd fs=> ∃mA,h.Ns1 a mA/\ ∀f,fU (fs.lookup f) (mA f)
 | .rng lo hi=> ∃t u v,h.get? a=Fa { cls:= .type "range",data:= .fields [.int lo t, .int hi u, .int 1 v].toArray }
 | .Qz o u=>h.get? a=Fa o/\cu H h a u
 | .Y6 ps=>h.get? a=Fa { cls:= .none,data:= .fields ps }
 | .met f x=>h.get? a=Fa (OU (.ref f) (.ref x))
 | .ext φ=>φ h/\(∃o,h.get? a=Fa o)/\ ∀h1 h2:GI,φ h1->(∀o,h1.get? a=Fa o->h2.get? a=Fa o)->φ h2
def ia (H:Hp) (h:GI):Prop:= ∀a o,H a=Fa o->cu P w H h a o
end
def Rd (H:Hp) (a:E4) (u:HO):Prop:=H a=Fa u\/ ∃o,H a=Fa (.Qz o u)
theorem Rd.ok {P:FW}{w:Gx}{H:Hp}{h:GI}{a:E4}{u:HO}(r:Rd H a u) (x:ia P w H h):cu P w H h a u:=by
 rcases r with r|⟨o,r⟩
 ·exact x a u r
 ·obtain⟨_,q⟩:=x a _ r
  exact q
structure Un (fs ex:EV E4) (H H':Hp) (h h':GI):Prop where
 keep: ∀b o,h.get? b=Fa o->H b=FB->b∉fs->b∉ex->h'.get? b=Fa o
 slot: ∀b o,h.get? b=Fa o->H b=FB->b∈fs->b∉ex-> ∃sl,h'.get? b=Fa { o with slots:=sl }
 free: ∀b o,h.get? b=Fa o->H b=FB->b∉ex->H' b=FB
 there: ∀b o,h.get? b=Fa o->b∉ex-> ∃o',h'.get? b=Fa o'
 QX: ∀b xs,H b=Fa (.tup xs)->H' b=Fa (.tup xs)
 QA: ∀b o u,H b=Fa (.Qz o u)->H' b=Fa (.Qz o u)
 QY: ∀b ps,H b=Fa (.Y6 ps)-> ∃more,H' b=Fa (.Y6 (ps++more))
def Cc (h:GI) (H:Hp):EV E4:=(Jl h.objs.size).filter λa=>(H a).isSome
def qp (h:GI) (H:Hp):GI:=PySem.W.hideAll h (Cc h H)
theorem zF (h:GI) (H:Hp):(qp h H).objs.size=h.objs.size:=PySem.W.hideAll_size _ _
theorem Au {h:GI}{H:Hp}{b:E4}{o:IG}(e:h.get? b=Fa o) (n:H b=FB):(qp h H).get? b=Fa o:=
 PySem.W.hideAll_get _ e λhm=>by
  have q:(H b).isSome=FM:=(WA.mp hm).2;rw[n] at q;simp at q
theorem DQ {h:GI}{H:Hp}{b:E4}{o:IG}(e:(qp h H).get? b=Fa o):h.get? b=Fa o/\H b=FB:=by
 have e':h.get? b=Fa o:=PySem.W.of_hideAll (Cc h H) e;refine#[e',?_];cases q:H b with
 |none=>rfl
 |some x=>
  have hm:b∈Cc h H:=WA.mpr #[EV.mem_range.mpr (FJ e'),by simp [q]]
  have z:(qp h H).get? b=FB:=PySem.W.hideAll_none (Cc h H) hm;rw[z] at e;cases e
structure Mod (K:E1) (mg:FD->Fd E3) (base:GI):Prop where
 Vk:K.In base
 glob:base.Ns Jc mg
 blt: ∃mb,base.Ns YR mb/\ ∀x:FD,x≠"__name__"->mb x=KQ x
 nolimit:base.NoLimit
def rG (l:EV Env):EV E4:=l.filterMap (·.frame)
abbrev XK:=E3->Fd E4->Hp->Prop
abbrev VK:=V->Hp->Prop
def cC (K:E1) (H:Hp) (a:E4) (xs:EV V):Prop:=
 Rd H a (.lst xs)\/
  ∃(o:IG) (Ho:Jk E3) (n:Fm),K.lookup a=Fa o/\o.cls= .type "list"/\o.dict=FB/\o.data= .seq Ho n/\Ho.size<=FP/\aY xs Ho.toList
def qG (K:E1) (H:Hp) (a:E4) (xs:EV V):Prop:=
 Rd H a (.tup xs)\/
  ∃(o:IG) (Ho:Jk E3) (n:Fm),K.lookup a=Fa o/\o.cls= .type "tuple"/\o.data= .seq Ho n/\Ho.size<=FP/\aY xs Ho.toList
section
variable {X:Cx}{pins:EV (E4×IG)}{σ:St}{H:Hp}{s:E8}{a:E4}{xs ys:EV V}
theorem cC.of {K:E1}(h:H a=Fa (.lst xs)):cC K H a xs:= .inl (.inl h)
end
structure gI (K:E1) (C:E4):Prop where
 pg:Nb K C FD.empty=FM
 hd:OV K C=FM
 po:T8 K C=FM
 sa:HF K (.ref C) "__setattr__"=Fa (Fa (.builtin "object.__setattr__"))
def ao (K:E1) (C:E4) (f:FD):Prop:=HF K (.ref C) f=Fa FB
structure Meth (K:E1) (C:E4) (m:FD) (f:E4):Prop where
 at_:HF K (.ref C) m=Fa (Fa (.ref f))
 fn:OY K (.ref f)=FM
 kp:Ir K (.ref f)=FM
structure bX (k:Fm) (A:GG):Prop where
 hd:A.handled=FB
 dp:A.depth+2*k+5<recursionLimit
 un:A.units+16*k+200<Px
abbrev Sp:=EV V->Hp->VK->XK->Prop
abbrev pw:=EV Env->Hp->E8->XK->E3->E8->Prop
structure uo (P:FW) (w:Gx) (K:E1) (mg:FD->Fd E3) (base:GI) (A:GG) (outer:EV Env) (s:E8) (H:Hp):Prop where
 frames:A.frames=Fa outer
 mod:Mod K mg base
 bs: ∀b o,base.get? b=Fa o->s.heap.get? b=Fa o/\H b=FB
 UO:base.objs.size<=s.heap.objs.size
 funs:s.heap.FunFrames base outer
 Wn: ∀b∈rG outer,H b=FB
 Ic:ia P w H s.heap
 bare:PX s.gens
def CE (outer:EV Env) (P:FW) (w:Gx) (H:Hp) (s:E8) (Q:VK) (u:E3) (s':E8):Prop:=
 ∃v H',s'.os=s.os/\PX s'.gens/\Un (rG outer) [] H H' s.heap s'.heap/\ia P w H' s'.heap/\bo v u/\Q v H'
def CR (CX:pw) (outer:EV Env) (P:FW) (w:Gx) (H:Hp) (s:E8) (Q:VK) (E:XK) (r:Result) (s':E8):Prop:=
 match r with
 | .ok (.ret u)=>CE outer P w H s Q u s'
 | .ok _=>False
 | .error e=>CX outer H s E e s'
structure bU (P:FW) (w:Gx) (K:E1) (mg:FD->Fd E3) (base:GI) (CX:pw) (k:Fm) (f:E4) (fd:Gb) (ps:EV FD) (sp:Sp):Prop where
 len: ∀vs H Q E,sp vs H Q E->vs.length=ps.length
 run: ∀(A:GG) (outer:EV Env) (s:E8) (H:Hp) (args:Args) (us:EV E3) (vs:EV V) (Q:VK) (E:XK),bX k A->uo P w K mg base A outer s H->SO s fd args (ps.zip us)->aY vs us->sp vs H Q E->
  Lf (model P w) A (.call (.ref f) args) (CR CX outer P w H s Q E) s
def f7 (K:E1) (fd:Gb) (ps:EV FD) (ds:EV E3):Prop:=
 ∀(s:E8) (us:EV E3),K.In s.heap->(us++ds).length=ps.length->SO s fd #[us,[]] (ps.zip (us++ds))
theorem f7.all {K:E1}{fd:Gb}{ps:EV FD}(h: ∀us:EV E3,us.length=ps.length->Hf fd #[us,[]]=pure (ps.zip us)):f7 K fd ps []:=λs us _ hl=>by
 rw[GL] at hl ⊢;exact .of_eq (h us hl)
section
variable {X:Cx}{CX:pw}{k:Fm}{f C:E4}{fd:Gb}{ps:EV FD}{sp:Sp}{Rc:EV V}{ds:EV E3}{E:XK}{x m:FD}{p pos KZ:Pos}{e o:Hv}{es:EV Hv}{ta:TE}{t:TA}
structure CD (K:E1) (mg:FD->Fd E3) (x:FD) (f:E4) (fd:Gb) (ps:EV FD):Prop where
 m:mg x=Fa (.ref f)
 k:Ir K (.ref f)=FM
 b:f7 K fd ps []
structure MD (K:E1) (C:E4) (m:FD) (f:E4) (fd:Gb) (ps:EV FD):Prop where
 m:Meth K C m f
 b:f7 K fd ps []
structure Mk (K:E1) (C f:E4):Prop where
 makes:Ve K C=FM
 init:HF K (.ref C) "__init__"=Fa (Fa (.ref f))
 fn:OY K (.ref f)=FM
 kp:Ir K (.ref C)=FM
end
def aB (s:Stmt) (j:Fm):Stmt:=match s with
 | .ClassDef _ _ _ body _ _ _ _ _ _ _=>body.getD j (.Pass #[0,0,0,0])
 |_=> .Pass #[0,0,0,0]
def dN (s:Stmt):Arguments:=match s with
 | .FunctionDef _ a _ _ _ _ _ _ _ _=>a
 |_=> { posonlyargs:=[],args:=[],vararg:=FB,kwonlyargs:=[],kw_defaults:=[],kwarg:=FB,defaults:=[] }
def be (s:Stmt):EV Stmt:=match s with
 | .FunctionDef _ _ b _ _ _ _ _ _ _=>b
 |_=>[]
def af (s:Stmt):Scope:=match s with
 | .FunctionDef _ _ _ _ _ _ sc _ _ _=>sc
 |_=> { kind:= .function,names:=[],isGenerator:=FS,isCoroutine:=FS }
abbrev wH:pw:=λ_ _ _ _ _ _=>False
structure oU (K:E1) (x GU:FD) (st:Stmt) (f:E4) (fd:Gb):Prop where
 ex: ∃(oc:E3) (od:Fd E4) (kV doc pm:E3) (an:Fd E4) (GF ct:E3) (Wo:Jk (Fd E3)),
  fd=HX x GU (dN st) (be st) (af st) .none kV doc pm an GF ct/\K.lookup f=Fa #[oc,od, .func fd,Wo]/\K3 K GF GU=FM
 kp:Ir K (.ref f)=FM
section
variable {P:FW}{w:Gx}{K:E1}{mg:FD->Fd E3}{base:GI}
theorem oU.binds {x GU:FD}{st:Stmt}{f:E4}{fd:Gb}{ps:EV FD}(F:oU K x GU st f fd)
  (h: ∀(kV doc pm:E3) (an:Fd E4) (GF ct:E3) (us:EV E3),us.length=ps.length->Hf (HX x GU (dN st) (be st) (af st) .none kV doc pm an GF ct) #[us,[]]=pure (ps.zip us)):f7 K fd ps []:=by
 obtain⟨oc,od,kV,doc,pm,an,GF,ct,Wo,rfl,lk,Sf⟩:=F.ex;exact .all (h kV doc pm an GF ct)
theorem lg {x GU:FD}{st:Stmt}{f:E4}{oc:E3}{od an:Fd E4}{Wo:Jk (Fd E3)}{kV doc pm GF ct:E3}(l:K.lookup f=Fa #[oc,od, .func (HX x GU (dN st) (be st) (af st) .none kV doc pm an GF ct),Wo])
  (c:K3 K GF GU=FM) (k:Ir K (.ref f)=FM):oU K x GU st f (HX x GU (dN st) (be st) (af st) .none kV doc pm an GF ct):=#[#[oc,od,kV,doc,pm,an,GF,ct,Wo,Gc,l,c],k]
end
end L2
section
set_option maxHeartbeats 2000000
namespace L2
open PySem PySem.Spec PyProof.Rows
open PySem.W (WData Codec OpenSpec Well WellAll ReadsW ReadsAllW)
mutual
inductive Dw (K:E1) (H:Hp):V->WData->Prop
 |Iw:Dw K H .Iw .none
 |bl (b:Gg):Dw K H (.bl b) (.bool b)
 |int (i:Int):Dw K H (.int i) (.int i)
 |str (x:FD):Dw K H (.str x) (.str x)
 |Se (b:Jk IP):Dw K H (.Se b) (.bytes b.toList)
 |lst {a:E4}{xs:EV V}{ds:EV WData} :cC K H a xs->ie K H xs ds->Dw K H (.ref a) (.list ds)
 |tup {a:E4}{xs:EV V}{ds:EV WData} :qG K H a xs->ie K H xs ds->Dw K H (.ref a) (.tuple ds)
inductive ie (K:E1) (H:Hp):EV V->EV WData->Prop
 |nil:ie K H [] []
 |cons {v:V}{vs:EV V}{d:WData}{ds:EV WData} :Dw K H v d->ie K H vs ds->ie K H (v::vs) (d::ds)
end
theorem xw {K:E1}{H:Hp} : ∀ns:EV Int,ie K H (ns.map V.int) (ns.map WData.int)
 |[]=> .nil
 |n::r=> .cons (.int n) (xw r)
theorem wN {K:E1}{H:Hp} : ∀(ns:EV Int) (xs:EV V),ie K H xs (ns.map WData.int)->xs=ns.map V.int
 |[],xs,h=>by
  cases h
  rfl
 |n::r,xs,h=>by
  cases h with
  |cons h1 h2=>
   cases h1;rw[wN r _ h2]<;>rfl
section
variable {P:FW}{w:Gx}{K:E1}{H:Hp}{h:GI}{R:UK}{cl:FD->Fd E4}
theorem Y7 {a:E4}(Ic:ia P w H h) (KX:K.In h) (q:cC K H a xs): ∃(Ho:EV E3) (o:IG) (n:Fm),aY xs Ho/\h.get? a=Fa o/\o.cls= .type "list"/\o.data= .seq Ho.toArray n:=by
 rcases q with q|⟨o,Ho,n,e,hc,_,hd,_,hv⟩
 ·obtain⟨_,Ho,n,hv,e⟩:=(show cu P w H h a (.lst xs) from q.ok Ic)
  exact#[Ho,_,n,hv,e,Gc,Gc]
 ·exact#[Ho.toList,o,n,hv,KX _ _ e,hc,by simp [hd]]
theorem Y8 {a:E4}(Ic:ia P w H h) (KX:K.In h) (q:qG K H a xs): ∃(Ho:EV E3) (o:IG) (n:Fm),aY xs Ho/\h.get? a=Fa o/\o.cls= .type "tuple"/\o.data= .seq Ho.toArray n:=by
 rcases q with q|⟨o,Ho,n,e,hc,hd,_,hv⟩
 ·obtain⟨_,Ho,hv,o,e,hc,n,hd⟩:=(show cu P w H h a (.tup xs) from q.ok Ic)
  exact#[Ho,o,n,hv,e,hc,hd]
 ·exact#[Ho.toList,o,n,hv,KX _ _ e,hc,by simp [hd]]
mutual
theorem Dw.reads (Ic:ia P w H h) (KX:K.In h): ∀(d:WData) (v:V) (u:E3),Dw K H v d->bo v u-> ∃as,ReadsW R cl h u d as
 | .none,_,_,x,r=>by
  cases x;cases r;exact#[_,ReadsW.none]
 | .bool b,_,_,x,r=>by
  cases x;cases r;exact#[_,ReadsW.bool b]
 | .int i,_,_,x,r=>by
  cases x;obtain⟨t,rfl⟩:=r;exact#[_,ReadsW.int i t]
 | .str s,_,_,x,r=>by
  cases x;obtain⟨t,rfl⟩:=r;exact#[_,ReadsW.str s t]
 | .bytes b,_,_,x,r=>by
  cases x;obtain⟨t,rfl⟩:=r;exact#[_,ReadsW.bytes _ t]
 | .list ds,_,_,x,r=>by
  cases x with
  |lst hs ha=>
   cases r;obtain⟨Ho,o,n,rv,ho,hc,hd⟩:=Y7 Ic KX hs;obtain⟨as,hr⟩:=Dw.readsAll Ic KX ds _ Ho ha rv;exact#[_,ReadsW.list ho hc hd hr]
 | .tuple ds,_,_,x,r=>by
  cases x with
  |tup hs ha=>
   cases r;obtain⟨Ho,o,n,rv,ho,hc,hd⟩:=Y8 Ic KX hs;obtain⟨as,hr⟩:=Dw.readsAll Ic KX ds _ Ho ha rv;exact#[_,ReadsW.tuple ho hc hd hr]
 | .float _,_,_,x,_=>by cases x
 | .dict _,_,_,x,_=>by cases x
 | .bytearray _,_,_,x,_=>by cases x
 | .set _,_,_,x,_=>by cases x
 | .frozenset _,_,_,x,_=>by cases x
 | .obj _ _,_,_,x,_=>by cases x
theorem Dw.readsAll (Ic:ia P w H h) (KX:K.In h): ∀(ds:EV WData) (vs:EV V) (us:EV E3),ie K H vs ds->aY vs us-> ∃as,ReadsAllW R cl h us ds as
 |[],_,_,x,r=>by
  cases x;cases r;exact#[_,ReadsAllW.nil]
 |d::ds,_,_,x,r=>by
  cases x with
  |cons h1 h2=>
   cases r with
   |cons r1 r2=>
    obtain⟨as,q1⟩:=Dw.reads Ic KX d _ _ h1 r1;obtain⟨bs,q2⟩:=Dw.readsAll Ic KX ds _ _ h2 r2;exact#[_,ReadsAllW.cons q1 q2]
end
end
mutual
def vW:WData->Gg
 | .none=>FM
 | .bool _=>FM
 | .int _=>FM
 | .str _=>FM
 | .bytes _=>FM
 | .list xs=>l8 xs
 | .tuple xs=>l8 xs
 |_=>FS
def l8:EV WData->Gg
 |[]=>FM
 |x::r=>vW x&&l8 r
end
theorem ub {α:Type}{f:α->WData}(h: ∀a,vW (f a)=FM): ∀l:EV α,l8 (l.map f)=FM
 |[]=>rfl
 |x::r=>by
  show(vW (f x)&&l8 (r.map f))=FM
  rw[h x,ub h r]<;>rfl
theorem iS: ∀(c:Codec) (a:c.denote),vW (c.enc a)=FM
 | .unit,_=>rfl
 | .bool,_=>rfl
 | .int _ _,_=>rfl
 | .nat _ _,_=>rfl
 | .u8,_=>rfl
 | .bytes _ _,_=>rfl
 | .text _ _ _ _,_=>rfl
 | .list _ _ c,a=>ub (λx=>iS c x) a
 | .pair c d,a=>by
  show(vW (c.enc a.1)&&(vW (d.enc a.2)&&FM))=FM
  rw[iS c a.1,iS d a.2]<;>rfl
 | .triple c d e,a=>by
  show(vW (c.enc a.1)&&(vW (d.enc a.2.1)&&(vW (e.enc a.2.2)&&FM)))=FM
  rw[iS c a.1,iS d a.2.1,iS e a.2.2]<;>rfl
 | .option c,none=>rfl
 | .option c,some x=>iS c x
theorem pF: ∀(cs:EV Codec) (a:Codec.denoteAll cs),l8 (Codec.encAll cs a)=FM
 |[],_=>rfl
 |c::cs,a=>by
  show(vW (c.enc a.1)&&l8 (Codec.encAll cs a.2))=FM
  rw[iS c a.1,pF cs a.2]<;>rfl
theorem jA: ∀ {xs:EV WData}{d:WData},d∈xs->d.weight<=WData.weightAll xs
 |[],d,h=>Fv h (by simp)
 |x::r,d,h=>by
  show d.weight<=x.weight+1+WData.weightAll r
  rcases Fi.mp h with e|m
  ·rw[e]
   omega
  ·have z:=jA m
   omega
def sN:E3->V
 | .none=> .Iw
 | .bool b=> .bl b
 | .int i _=> .int i
 | .str x _=> .str x
 | .bytes b _=> .Se b
 | .ref a=> .ref a
 |_=> .Iw
def yG (A:EV E4):E3->Prop
 | .none=>True
 | .bool _=>True
 | .int _ _=>True
 | .str _ _=>True
 | .bytes _ _=>True
 | .ref a=>a∈A
 |_=>False
theorem yG.mono {A B:EV E4}(h: ∀a∈A,a∈B): ∀ {u:E3},yG A u->yG B u:=λ{u} x=>by
 cases u with
 |ref a=>exact h a x
 |none=>trivial
 |bool b=>trivial
 |int i t=>trivial
 |str s t=>trivial
 |bytes b t=>trivial
 |_=>exact Iz x
theorem Bc {A:EV E4}(x:yG A u):bo (sN u) u:=by
 cases u with
 |ref a=>rfl
 |none=>rfl
 |bool b=>rfl
 |int i t=>exact#[t,Gc]
 |str s t=>exact#[t,Gc]
 |bytes b t=>exact#[t,Gc]
 |_=>exact Iz x
theorem gS {A:EV E4} : ∀ {vs:EV E3},(∀u∈vs,yG A u)->aY (vs.map sN) vs
 |[],_=> .nil
 |u::r,h=> .cons (Bc (h u (Fb ..))) (gS λx hx=>h x (E9 _ hx))
def ib (h:GI) (A:EV E4) (a:E4):Prop:= ∃vs:EV E3,vs.length<=FP/\(∀u∈vs,yG A u)/\
 (h.get? a=Fa { cls:= .type "list",data:= .seq vs.toArray } \/h.get? a=Fa { cls:= .type "tuple",data:= .seq vs.toArray })
theorem ib.mono {h:GI}{A B:EV E4}{a:E4}(k: ∀a∈A,a∈B) (x:ib h A a):ib h B a:=by
 obtain⟨vs,h1,h2,h3⟩:=x;exact#[vs,h1,λu hu=>(h2 u hu).mono k,h3]
theorem gj {P:Params}{h:GI} : ∀ {vs:EV E3}{ds:EV WData},WellAll P h vs ds->vs.length=ds.length
 |_,_, .nil=>rfl
 |_,_, .cons _ b=>by
  show _+1=_+1
  rw[gj b]
theorem pO {P:Params}{h:GI}(x:Well P h v (.list ds)): ∃(a:E4) (vs:EV E3),v= .ref a/\h.get? a=Fa { cls:= .type "list",data:= .seq vs.toArray } /\WellAll P h vs ds:=by
 cases x with
 |list ho Py=>exact#[_,_,Gc,ho,Py]
theorem oN {P:Params}{h:GI}(x:Well P h v (.tuple ds)): ∃(a:E4) (vs:EV E3),v= .ref a/\h.get? a=Fa { cls:= .type "tuple",data:= .seq vs.toArray } /\WellAll P h vs ds:=by
 cases x with
 |tuple ho Py=>exact#[_,_,Gc,ho,Py]
theorem qi {P:Params}{h:GI}(x:WellAll P h us (d::ds)): ∃(v:E3) (vs:EV E3),us=v::vs/\Well P h v d/\WellAll P h vs ds:=by
 cases x with
 |cons a b=>exact#[_,_,Gc,a,b]
theorem wA (h:n<=1048576):n<=FP:=FA h [01]
section
variable {P:Params}{h:GI}
mutual
theorem AL: ∀(d:WData) (v:E3),Well P h v d->vW d=FM->d.weight<=1048576-> ∃A:EV E4,yG A v/\ ∀a∈A,ib h A a
 | .none,_,x,_,_=>by
  cases x;exact#[[],trivial,λa m=>Fv m (by simp)]
 | .bool b,_,x,_,_=>by
  cases x;exact#[[],trivial,λa m=>Fv m (by simp)]
 | .int i,_,x,_,_=>by
  cases x;exact#[[],trivial,λa m=>Fv m (by simp)]
 | .str s,_,x,_,_=>by
  cases x;exact#[[],trivial,λa m=>Fv m (by simp)]
 | .bytes b,_,x,_,_=>by
  cases x;exact#[[],trivial,λa m=>Fv m (by simp)]
 | .list ds,_,x,p,z=>by
  obtain⟨a,vs,rfl,ho,Py⟩:=pO x;have z2:WData.weightAll ds<=1048576:=z;obtain⟨A,h1,h2⟩:=jY ds _ Py p λd hd=>FA (jA hd) z2;have k: ∀b∈A,b∈a::A:=λb hb=>E9 _ hb
  refine#[a::A,Fb ..,λb hb=>?_];rcases Fi.mp hb with e|m
  ·rw[e]
   exact#[vs,wA (by rw[gj Py];exact FA (Qh ds) z2),λu hu=>(h1 u hu).mono k, .inl ho]
  ·exact(h2 b m).mono k
 | .tuple ds,_,x,p,z=>by
  obtain⟨a,vs,rfl,ho,Py⟩:=oN x;have z2:WData.weightAll ds<=1048576:=z;obtain⟨A,h1,h2⟩:=jY ds _ Py p λd hd=>FA (jA hd) z2;have k: ∀b∈A,b∈a::A:=λb hb=>E9 _ hb
  refine#[a::A,Fb ..,λb hb=>?_];rcases Fi.mp hb with e|m
  ·rw[e]
   exact#[vs,wA (by rw[gj Py];exact FA (Qh ds) z2),λu hu=>(h1 u hu).mono k, .inr ho]
  ·exact(h2 b m).mono k
 | .float _,_,_,p,_=>He (show FS=FM from p)
 | .dict _,_,_,p,_=>He (show FS=FM from p)
 | .bytearray _,_,_,p,_=>He (show FS=FM from p)
 | .set _,_,_,p,_=>He (show FS=FM from p)
 | .frozenset _,_,_,p,_=>He (show FS=FM from p)
 | .obj _ _,_,_,p,_=>He (show FS=FM from p)
theorem jY: ∀(ds:EV WData) (vs:EV E3),WellAll P h vs ds->l8 ds=FM->(∀d∈ds,d.weight<=1048576)-> ∃A:EV E4,(∀u∈vs,yG A u)/\ ∀a∈A,ib h A a
 |[],_,x,_,_=>by
  cases x;exact#[[],λu m=>Fv m (by simp),λa m=>Fv m (by simp)]
 |d::ds,_,x,p,z=>by
  obtain⟨v,vs,rfl,x1,x2⟩:=qi x;have q:vW d=FM/\l8 ds=FM:=TZ.mp p;obtain⟨A,a1,a2⟩:=AL d v x1 q.1 (z d (Fb ..));obtain⟨B,b1,b2⟩:=jY ds vs x2 q.2 λe he=>z e (E9 _ he);have kA: ∀b∈A,b∈A++B:=λb hb=>FK.mpr (.inl hb)
  have kB: ∀b∈B,b∈A++B:=λb hb=>FK.mpr (.inr hb)
  refine#[A++B,λu hu=>?_,λb hb=>?_]
  ·rcases Fi.mp hu with e|m
   ·rw[e]
    exact a1.mono kA
   ·exact(b1 u m).mono kB
  ·rcases FK.mp hb with m|m
   ·exact(a2 b m).mono kA
   ·exact(b2 b m).mono kB
end
end
def El (o:IG):Fd HO:=match o.data with
 | .seq vs _=>if(o.cls == MH "list")=FM then Fa (.Qz o (.lst (vs.toList.map sN))) else Fa (.Qz o (.tup (vs.toList.map sN)))
 |_=>FB
def gY (K:E1) (h:GI) (A:EV E4):Hp:=λb=>if b∈A then(if(K.lookup b).isNone=FM then(h.get? b).bind El else FB) else FB
def rY (H:Hp):Prop:= ∀b,H b=FB\/ ∃o u,H b=Fa (.Qz o u)
theorem sZ (vs:EV E3):El { cls:= .type "list",data:= .seq vs.toArray } =Fa (.Qz { cls:= .type "list",data:= .seq vs.toArray } (.lst (vs.map sN))):=by
 show(if(MH "list" == MH "list")=FM then Fa (HO.Qz { cls:= .type "list",data:= .seq vs.toArray } (.lst (vs.toArray.toList.map sN))) else Fa (HO.Qz { cls:= .type "list",data:= .seq vs.toArray } (.tup (vs.toArray.toList.map sN))))=_
 rw[E7 (GN _)]
theorem sh (vs:EV E3):El { cls:= .type "tuple",data:= .seq vs.toArray } =Fa (.Qz { cls:= .type "tuple",data:= .seq vs.toArray } (.tup (vs.map sN))):=by
 show(if(MH "tuple" == MH "list")=FM then Fa (HO.Qz { cls:= .type "tuple",data:= .seq vs.toArray } (.lst (vs.toArray.toList.map sN))) else Fa (HO.Qz { cls:= .type "tuple",data:= .seq vs.toArray } (.tup (vs.toArray.toList.map sN))))=_
 rw[E5 [01]]
section
variable {P:FW}{w:Gx}{K:E1}{h:GI}{A:EV E4}
theorem me (hb:b∈A) (hk:K.lookup b=FB) (e:h.get? b=Fa o):gY K h A b=El o:=by
 unfold gY;rw[E7 hb,hk,E7 (show(FB:Fd IG).isNone=FM from rfl),e]<;>rfl
theorem DO (q:gY K h A b=Fa u):b∈A/\K.lookup b=FB:=by
 unfold gY at q;by_cases hb:b∈A
 ·rw[E7 hb] at q
  cases hk:K.lookup b with
  |none=>exact#[hb,Gc]
  |some o=>
   rw[hk,E5 (by simp)] at q;cases q
 ·rw[E5 hb] at q
  cases q
theorem ml (ar: ∀a∈A,ib h A a) (q:gY K h A b=Fa u):K.lookup b=FB/\ ∃vs:EV E3,vs.length<=FP/\(∀u∈vs,yG A u)/\
  ((h.get? b=Fa { cls:= .type "list",data:= .seq vs.toArray } /\u= .Qz { cls:= .type "list",data:= .seq vs.toArray } (.lst (vs.map sN)))\/
    (h.get? b=Fa { cls:= .type "tuple",data:= .seq vs.toArray } /\u= .Qz { cls:= .type "tuple",data:= .seq vs.toArray } (.tup (vs.map sN)))):=by
 obtain⟨hb,hk⟩:=DO q;obtain⟨vs,h1,h2,h3⟩:=ar b hb;refine#[hk,vs,h1,h2,?_];rcases h3 with e|e
 ·rw[me hb hk e,sZ] at q
  exact .inl #[e,(Fs q).symm]
 ·rw[me hb hk e,sh] at q
  exact .inr #[e,(Fs q).symm]
theorem yr (ar: ∀a∈A,ib h A a):rY (gY K h A):=λb=>by
 cases q:gY K h A b with
 |none=>exact .inl rfl
 |some u=>
  obtain⟨_,vs,_,_,⟨_,e⟩|⟨_,e⟩⟩:=ml ar q
  ·exact .inr #[_,_,by rw[e]]
  ·exact .inr #[_,_,by rw[e]]
theorem EK (ar: ∀a∈A,ib h A a):ia P w (gY K h A) h:=λb u q=>by
 obtain⟨_,vs,h1,h2,⟨e,rfl⟩|⟨e,rfl⟩⟩:=ml ar q
 ·exact#[e,by rw[Fh];exact h1,vs,_,gS h2,e]
 ·exact#[e,by rw[Fh];exact h1,vs,gS h2,_,e,Gc,_,Gc]
theorem mt {c c':E3}{vs us:EV E3}(e:(Fa { cls:=c,data:= .seq vs.toArray } :Fd IG)=Fa { cls:=c',data:= .seq us.toArray }):c=c'/\vs=us:=by
 have e1:=Fs e
 have e2:c=c':=Ga IG.cls e1
 have e3:Ub vs.toArray=Ub us.toArray:=Ga IG.data e1;injection e3 with e4;refine#[e2,?_]
 have e5:=Ga Sd e4
 simpa using e5
theorem aiH (KX:K.In h) (ar: ∀a∈A,ib h A a) {a:E4}{vs:EV E3}(ha:a∈A) (e:h.get? a=Fa { cls:= .type "list",data:= .seq vs.toArray }):(∀u∈vs,yG A u)/\cC K (gY K h A) a (vs.map sN):=by
 obtain⟨us,h1,h2,h3⟩:=ar a ha;have hu:us=vs:=by
  rcases h3 with q|q
  ·rw[e] at q
   exact(mt q).2.symm
  ·rw[e] at q
   exact Fv (Uc (mt q).1) [01]
 subst hu;refine#[h2,?_];cases hk:K.lookup a with
 |none=>exact .inl (.inr #[_,by rw[me ha hk e,sZ]])
 |some o=>
  have e2:=KX a o hk;rw[e] at e2;obtain rfl:=Fs e2;exact .inr #[_,us.toArray,_,hk,Gc,Gc,Gc,by rw[F3];exact h1,by simpa using gS h2]
theorem aiI (KX:K.In h) (ar: ∀a∈A,ib h A a) {a:E4}{vs:EV E3}(ha:a∈A) (e:h.get? a=Fa { cls:= .type "tuple",data:= .seq vs.toArray }):(∀u∈vs,yG A u)/\qG K (gY K h A) a (vs.map sN):=by
 obtain⟨us,h1,h2,h3⟩:=ar a ha;have hu:us=vs:=by
  rcases h3 with q|q
  ·rw[e] at q
   exact Fv (Uc (mt q).1) [01]
  ·rw[e] at q
   exact(mt q).2.symm
 subst hu;refine#[h2,?_];cases hk:K.lookup a with
 |none=>exact .inl (.inr #[_,by rw[me ha hk e,sh]])
 |some o=>
  have e2:=KX a o hk;rw[e] at e2;obtain rfl:=Fs e2;exact .inr #[_,us.toArray,_,hk,Gc,Gc,by rw[F3];exact h1,by simpa using gS h2]
mutual
theorem Y9 {Pm:Params}(KX:K.In h) (ar: ∀a∈A,ib h A a): ∀(d:WData) (v:E3),Well Pm h v d->vW d=FM->yG A v->Dw K (gY K h A) (sN v) d
 | .none,_,x,_,_=>by
  cases x;exact .Iw
 | .bool b,_,x,_,_=>by
  cases x;exact .bl b
 | .int i,_,x,_,_=>by
  cases x;exact .int i
 | .str s,_,x,_,_=>by
  cases x;exact .str s
 | .bytes b,_,x,_,_=>by
  cases x;have z:=Dw.Se (K:=K) (H:=gY K h A) b.toArray;exact z
 | .list ds,_,x,p,hu=>by
  obtain⟨a,vs,rfl,ho,Py⟩:=pO x;obtain⟨h2,hs⟩:=aiH KX ar hu ho;exact .lst hs (rn KX ar ds _ Py p h2)
 | .tuple ds,_,x,p,hu=>by
  obtain⟨a,vs,rfl,ho,Py⟩:=oN x;obtain⟨h2,hs⟩:=aiI KX ar hu ho;exact .tup hs (rn KX ar ds _ Py p h2)
 | .float _,_,_,p,_=>He (show FS=FM from p)
 | .dict _,_,_,p,_=>He (show FS=FM from p)
 | .bytearray _,_,_,p,_=>He (show FS=FM from p)
 | .set _,_,_,p,_=>He (show FS=FM from p)
 | .frozenset _,_,_,p,_=>He (show FS=FM from p)
 | .obj _ _,_,_,p,_=>He (show FS=FM from p)
theorem rn (KX:K.In h) (ar: ∀a∈A,ib h A a): ∀(ds:EV WData) (vs:EV E3),WellAll Pm h vs ds->l8 ds=FM->(∀u∈vs,yG A u)->ie K (gY K h A) (vs.map sN) ds
 |[],_,x,_,_=>by
  cases x;exact .nil
 |d::ds,_,x,p,hu=>by
  obtain⟨v,vs,rfl,x1,x2⟩:=qi x;have q:vW d=FM/\l8 ds=FM:=TZ.mp p;exact .cons (Y9 KX ar d v x1 q.1 (hu _ (Fb ..))) (rn KX ar ds vs x2 q.2 λu m=>hu u (E9 _ m))
end
end
theorem xL {P:FW}{w:Gx}{K:E1}{mg mb:FD->Fd E3}{CX:pw}{k:Fm}{fa:E4}{fd:Gb}{ps:EV FD}{sp:Sp}{s₁:E8}{vals:EV E3}{ds:EV WData}{R:UK}{cl:FD->Fd E4}{d0:WData}
  (KX:K.In s₁.heap) (hns:s₁.heap.Ns Jc mg) (hb:s₁.heap.Ns YR mb) (hbb: ∀x:FD,x≠"__name__"->mb x=KQ x) (aiJ:s₁.heap.NoLimit) (hg:s₁.gens= [].toArray)
  (hwl:WellAll w.params s₁.heap vals ds) (MJ:l8 ds=FM) (hwt: ∀d∈ds,d.weight<=1048576) (hr:bX k SQ)
  (F: ∀base:GI,K.In base->base.Ns Jc mg->bU P w K mg base CX k fa fd ps sp) (abB: ∀(s:E8) (us:EV E3),us.length=ps.length->SO s fd #[us,[]] (ps.zip us)) (Nr:ds.length=ps.length)
  (Tt: ∀(H:Hp) (xs:EV V),rY H->ie K H xs ds->sp xs H (λv H'=>Dw K H' v d0) λ_ _ _=>False)
  (hCX: ∀H e s',CX [] H s₁ (λ_ _ _=>False) e s'->False):
  Lf (model P w) SQ (.call (.ref fa) #[vals,[]]) (λr s'=> ∃u as,r= .ok (.ret u)/\ReadsW R cl s'.heap u d0 as/\OldK s₁.heap s'.heap/\s'.os=s₁.os/\PX s'.gens) s₁:=by
 obtain⟨A,ho,ar⟩:=jY ds vals hwl MJ hwt;have hO:rY (gY K s₁.heap A):=yr ar;have Ic:ia P w (gY K s₁.heap A) s₁.heap:=EK ar;have hS:=rn KX ar ds vals hwl MJ ho;have hV:=gS ho;have hK: ∀b u,gY K s₁.heap A b=Fa u->K.lookup b=FB:=λb u q=>(ml ar q).1
 have noA: ∀ {b:E4}{o:IG}{es:Jk Oi}{ep:Fm},s₁.heap.get? b=Fa o->o.data= .dict es ep->gY K s₁.heap A b=FB:=λ{b o es ep} e d=>by
  cases q:gY K s₁.heap A b with
  |none=>rfl
  |some u=>
   obtain⟨_,vs,_,_,⟨e2,_⟩|⟨e2,_⟩⟩:=ml ar q
   ·rw[e2] at e
    cases e;have d':Ub vs.toArray _=Data.dict es ep:=d;cases d'
   ·rw[e2] at e
    cases e;have d':Ub vs.toArray _=Data.dict es ep:=d;cases d'
 generalize gY K s₁.heap A=H at hO Ic hS hK noA;have Ud: ∀ {b:E4}{o:IG},s₁.heap.get? b=Fa o->H b=FB->(qp s₁.heap H).get? b=Fa o:=λe n=>Au e n
 have Vl: ∀ {b:E4}{m:FD->Fd E3},s₁.heap.Ns b m->(qp s₁.heap H).Ns b m:=λ{b m} ⟨o,es,ep,e,d,r⟩=>#[o,es,ep,Ud e (noA e d),d,r]
 have nK: ∀b o,K.lookup b=Fa o->H b=FB:=λb o e=>by
  cases q:H b with
  |none=>rfl
  |some u=>
   rw[hK b u q] at e;cases e
 have hKb:K.In (qp s₁.heap H):=λb o e=>Ud (KX b o e) (nK b o e)
 have hM:Mod K mg (qp s₁.heap H):=#[hKb,Vl hns,#[mb,Vl hb,hbb],let ⟨mc,h1,h2⟩:=aiJ;#[mc,Vl h1,h2]]
 have e0:uo P w K mg (qp s₁.heap H) SQ [] s₁ H:=#[Gc,hM,λb o e=>DQ e,J1 (zF _ _),trivial,λb hb=>Fv (show b∈([]:EV E4) from hb) (by simp),Ic, .of_eq hg]
 have hl:vals.length=ps.length:=by rw[gj hwl];exact Nr
 refine M8 ((F _ hKb (Vl hns)).run SQ [] s₁ H #[vals,[]] vals (vals.map sN) _ _ hr e0 (abB s₁ vals hl) hV (Tt H _ hO hS)) λr s' x=>?_;cases r with
 |error e=>exact(hCX H e s' x).elim
 |ok fl=>
  cases fl with
  |next=>exact Iz x
  |brk=>exact Iz x
  |cont=>exact Iz x
  |ret u=>
   obtain⟨v,H',os,bare,un,abC,r',q⟩:=x;have kept: ∀b o,s₁.heap.get? b=Fa o->s'.heap.get? b=Fa o:=λb o e=>by
    cases q2:H b with
    |none=>exact un.keep b o e q2 (by intro z;exact Fv (show b∈([]:EV E4) from z) (by simp)) (by simp)
    |some u2=>
     rcases hO b with z|⟨ob,u3,z⟩
     ·rw[q2] at z
      cases z
     ·have z2:=un.QA b ob _ z
      obtain⟨e1,_⟩:=Ic b _ z;obtain⟨e2,_⟩:=abC b _ z2;rw[e] at e1;cases e1;exact e2
   have KX':K.In s'.heap:=λb o e=>kept b o (KX b o e)
   obtain⟨as,hrd⟩:=Dw.reads (R:=R) (cl:=cl) abC KX' d0 v u q r';exact#[u,as,Gc,hrd,OldK.of_keep kept,os,bare]
theorem oK (h:WData.layableAll ds=FM): ∀d∈ds,d.weight<=1048576:=λd hd=>
 (PySem.W.layableW_iff.mp (LJ.mp h d hd)).2.2
theorem n6: ∀(cs:EV Codec) (a:Codec.denoteAll cs),(Codec.encAll cs a).length=cs.length
 |[],_=>rfl
 |c::cs,a=>by
  show(Codec.encAll cs a.2).length+1=cs.length+1
  rw[n6 cs a.2]
theorem yF {XP:(FD->Fd E3)->GI->Prop}{YP:Gx->GI->Prop}{K:Params->E1}{CX:Gx->pw}{sp:Gx->Sp}
  (VL:r.wellSaid=FM) (hdf:d.params.defaults=[]) (Nr:r.args.length=ps.length) (hr:bX k SQ)
  (hY: ∀(w:Gx) (h:GI),YP w h->(K w.params).In h)
  (F: ∀(w:Gx) (mg:FD->Fd E3) (fa:E4) (h:GI),YP w h->(K w.params).In h->h.Ns Jc mg->mg d.name=Fa (.ref fa)->
   ∃fd:Gb,(∀(s:E8) (us:EV E3),us.length=ps.length->SO s fd #[us,[]] (ps.zip us))/\
    ∀base:GI,(K w.params).In base->base.Ns Jc mg->bU r.prog w (K w.params) mg base (CX w) k fa fd ps (sp w))
  (Tt: ∀(w:Gx) (H:Hp) (xs:EV V) (a:Codec.denoteAll r.args),rY H->Codec.withinAll r.args a=FM->Codec.app r.args r.asked a=FM->ie (K w.params) H xs (Codec.encAll r.args a)->
   sp w xs H (λv H'=>Dw (K w.params) H' v (r.ret.enc (Codec.app r.args r.f a))) λ_ _ _=>False)
  (hCX: ∀(w:Gx) (H:Hp) (s:E8) (e:E3) (s':E8),CX w [] H s (λ_ _ _=>False) e s'->False):
  VE q loose XP YP r d [] (λf vs=>PySem.call f vs):=by
 intro w Pz s₁ mg mb G Y fa o pm cd doc dV kV ho hd Sf hD hmg hg args vals as aiK aiL hrd hwl hlo;obtain⟨a,e1,e2⟩:=PySem.W.os_pre_some aiK;obtain⟨e3,hwi⟩:=Codec.encAll_of_decAll r.args args a e1;subst e3;have KX:=hY w _ Y;obtain⟨fd,hb,hF⟩:=F w mg fa _ Y KX G.T.g hmg;refine PySem.W.enter_call (M8 (xL (R:=[]) (cl:=classAt Pz.heap) (d0:=r.ret.enc (Codec.app r.args r.f a)) KX G.T.g G.T.b G.T.builtins G.T.nolimit hg hwl (pF _ _) (oK aiL) hr hF hb (by rw[n6];exact Nr)
  (λH xs hO hS=>Tt w H xs a hO hwi e2 hS) λH e s'=>hCX w H s₁ e s') λr' s' hq=>?_)
 obtain⟨u,as',rfl,h1,h2,h3,h4⟩:=hq;exact#[.inl #[u,_,as',Gc,λ_=>rfl,h1,(OpenSpec.post_iff VL hwi _ _).mpr rfl,λz=>He (show FS=FM from z)],h2,h3,h4]
theorem vI {XP:(FD->Fd E3)->GI->Prop}{YP:Gx->GI->Prop}{K:Params->E1}{CX:pw}{sp:E1->Sp}
  (VL:r.wellSaid=FM) (hdf:d.params.defaults=[]) (Nr:r.args.length=ps.length) (hr:bX k SQ)
  (hY: ∀(w:Gx) (h:GI),YP w h->(K w.params).In h)
  (F: ∀(w:Gx) (mg:FD->Fd E3) (fa:E4) (h:GI),YP w h->(K w.params).In h->h.Ns Jc mg->mg d.name=Fa (.ref fa)->
   ∃fd:Gb,(∀(s:E8) (us:EV E3),us.length=ps.length->SO s fd #[us,[]] (ps.zip us))/\
    ∀base:GI,(K w.params).In base->base.Ns Jc mg->bU r.prog w (K w.params) mg base CX k fa fd ps (sp (K w.params)))
  (Tt: ∀(K:E1) (H:Hp) (xs:EV V) (a:Codec.denoteAll r.args),rY H->Codec.withinAll r.args a=FM->Codec.app r.args r.asked a=FM->ie K H xs (Codec.encAll r.args a)->
   sp K xs H (λv H'=>Dw K H' v (r.ret.enc (Codec.app r.args r.f a))) λ_ _ _=>False)
  (hCX: ∀(H:Hp) (s:E8) (e:E3) (s':E8),CX [] H s (λ_ _ _=>False) e s'->False):
  VE q loose XP YP r d [] (λf vs=>PySem.call f vs):=
 yF (K:=K) (CX:=λ_=>CX) (sp:=λw=>sp (K w.params)) VL hdf Nr hr hY F (λw H xs a h1 h2 h3 h4=>Tt (K w.params) H xs a h1 h2 h3 h4) λ_ H s e s'=>hCX H s e s'
end L2
end
namespace OS
open PySem
abbrev c7:EV E3:=[.type "Exception", .type "BaseException", .type "object"]
end OS
namespace OS
open PySem PySem.Spec L2
open PyProof.Rows hiding St
def cW:EV FD:=["__getattribute__","__getattr__","__setattr__","number","kind","line","column"]
def XO (h:GI) (C N:E4) (bm:EV E3):Prop:= ∃(nm q:FD) (bs:EV E3) (sn:EV FD) (sub:EV E3) (ab:Gg) (col:Fd Gg) (dd:Fd E4) (k0 k1 k2 k3 k5:Fd E3),h.get? C=Fa (Ib nm q C N bs bm FM sn sub ab col dd k0 k1 k2 k3 k5 "Exception.__new__")
def XAt (h:GI) (R C fI:E4):Prop:= ∃(N:E4) (mN:FD->Fd E3) (oI:IG) (NR:E4) (mR:FD->Fd E3),XO h C N (.ref R::c7)/\h.Ns N mN/\mN "__init__"=Fa (.ref fI)/\(∀n∈cW,mN n=FB)/\h.get? fI=Fa oI/\oI.cls= .type "function"/\
 XO h R NR c7/\h.Ns NR mR/\ ∀n∈cW,mR n=FB
structure dz (K:E1) (R C fI:E4):Prop where
 at_: ∀h:GI,K.In h->XAt h R C fI
 kp:Ir K (.ref C)=FM
end OS
namespace OS
open Vbemac
open PySem (Str)
def sb (w:F7):FD:=#[(w.map M7).toArray]
def Za:FD:=#[[47,114,101,115,116].toArray]
def dI (s:F7):FD:=if s=[37] then Za else sb s
end OS
namespace OS
open PySem PySem.Spec L2
open PyProof.Rows hiding St
def o5 (K:E1) (a:E4) (xs:EV V):Prop:= ∃(o:IG) (Ho:Jk E3) (n:Fm),K.lookup a=Fa o/\o.cls= .type "tuple"/\o.data= .seq Ho n/\Ho.size<=FP/\aY xs Ho.toList
structure zH (P:FW) (w:Gx) (K:E1) (a:E4) (aD:EV (EV a8×V)):Prop where
 at_: ∃xs:EV (EV a8×E4×E3),(∀h:GI,K.In h->h.DictOfH (Nv (aT P w)) a xs)/\Paired (λ(p:EV a8×V) (q:EV a8×E4×E3)=>p.1=q.1/\bo p.2 q.2.2) aD xs
 no:(a == Io)=FS
structure yo (K:E1) (C:E4):Prop where
 cl:gI K C
 ha:HF K (.ref C) "__class__"=Fa (Fa (.builtin "object.__class__"))
 hn:OW K (.builtin "object.__class__") "__get__"=Fa (Fa (.builtin "getset_descriptor.__get__"))
 htk:Vf K (.builtin "object.__class__")=Fa FM
 hm:Wm K C (.type "object")=Fa FM
def tp (i:Fm):Stmt:=PySem.Challenge.pw_ordersheets_s03_expand.main.body.getD i (.Pass #[0,0,0,0])
abbrev abD:Stmt:=aB (tp 4) 0
abbrev abE:Stmt:=aB (tp 5) 0
abbrev abF:Stmt:=aB (tp 6) 0
abbrev abG:Stmt:=aB (tp 7) 0
abbrev abH:Stmt:=aB (tp 8) 0
abbrev abI:Stmt:=aB (tp 9) 0
abbrev abJ:Stmt:=aB (tp 10) 0
abbrev abK:Stmt:=aB (tp 11) 0
abbrev abL:Stmt:=aB (tp 12) 0
abbrev abM:Stmt:=aB (tp 13) 0
abbrev abN:Stmt:=aB (tp 14) 0
abbrev abO:Stmt:=aB (tp 15) 0
abbrev abP:Stmt:=aB (tp 16) 0
abbrev abQ:Stmt:=aB (tp 17) 0
abbrev abR:Stmt:=aB (tp 18) 0
abbrev abS:Stmt:=aB (tp 19) 0
abbrev abT:Stmt:=aB (tp 23) 0
abbrev abU:Stmt:=aB (tp 24) 0
abbrev s_M:Stmt:=tp 25
abbrev s_N:Stmt:=tp 26
abbrev s_o:Stmt:=aB (tp 28) 0
abbrev abV:Stmt:=aB (tp 29) 0
abbrev s_4:Stmt:=aB (tp 30) 0
abbrev s_O:Stmt:=aB (tp 31) 0
abbrev s_P:Stmt:=aB (tp 32) 0
abbrev abW:Stmt:=aB (tp 33) 0
abbrev abX:Stmt:=aB (tp 34) 0
abbrev abY:Stmt:=aB (tp 35) 0
abbrev abZ:Stmt:=aB (tp 36) 0
abbrev s_Q:Stmt:=tp 39
abbrev s_R:Stmt:=tp 40
abbrev s_S:Stmt:=tp 41
abbrev ab0:Stmt:=tp 42
abbrev ab1:Stmt:=tp 43
abbrev ab2:Stmt:=tp 44
abbrev s_T:Stmt:=tp 45
abbrev ab3:Stmt:=aB (tp 48) 0
abbrev ab4:Stmt:=aB (tp 49) 0
abbrev ab5:Stmt:=aB (tp 49) 1
abbrev ab6:Stmt:=aB (tp 49) 2
abbrev ab7:Stmt:=aB (tp 49) 3
abbrev ab8:Stmt:=aB (tp 49) 4
abbrev ab9:Stmt:=aB (tp 49) 5
abbrev aca:Stmt:=aB (tp 49) 6
abbrev s_5:Stmt:=tp 50
abbrev s_6:Stmt:=tp 51
abbrev s_7:Stmt:=tp 52
abbrev s_8:Stmt:=tp 53
abbrev s_9:Stmt:=tp 54
abbrev acb:Stmt:=tp 55
abbrev acd:Stmt:=tp 56
abbrev s_w:Stmt:=tp 57
abbrev ace:Stmt:=tp 58
abbrev acf:Stmt:=tp 59
abbrev acg:Stmt:=tp 60
abbrev ach:Stmt:=aB (tp 66) 0
abbrev aci:Stmt:=aB (tp 67) 0
abbrev s_U:Stmt:=tp 68
abbrev acj:Stmt:=tp 69
abbrev s_x:Stmt:=tp 70
abbrev s_k:Stmt:=tp 71
abbrev s_V:Stmt:=tp 72
abbrev s_y:Stmt:=tp 73
abbrev s_C:Stmt:=tp 74
abbrev ack:Stmt:=tp 75
abbrev acm:Stmt:=tp 76
abbrev s_W:Stmt:=tp 77
abbrev acn:Stmt:=tp 78
abbrev s_D:Stmt:=tp 79
abbrev aco:Stmt:=tp 80
abbrev acp:Stmt:=tp 81
abbrev s_E:Stmt:=aB (tp 95) 0
abbrev s_e:Stmt:=tp 96
abbrev s_h:Stmt:=tp 97
abbrev s_F:Stmt:=tp 98
abbrev s_G:Stmt:=tp 99
abbrev s_H:Stmt:=tp 100
abbrev s_I:Stmt:=tp 101
abbrev s_J:Stmt:=tp 102
abbrev s_r:Stmt:=tp 103
abbrev s_s:Stmt:=tp 104
abbrev s_i:Stmt:=tp 105
abbrev acq:Stmt:=aB (tp 116) 0
abbrev s_a:Stmt:=aB (tp 116) 1
abbrev s_b:Stmt:=aB (tp 116) 2
abbrev s_p:Stmt:=aB (tp 116) 3
abbrev acr:Stmt:=aB (tp 116) 4
abbrev acs:Stmt:=aB (tp 116) 5
abbrev s_X:Stmt:=aB (tp 116) 6
abbrev acu:Stmt:=aB (tp 116) 7
abbrev s_t:Stmt:=aB (tp 116) 8
abbrev acv:Stmt:=aB (tp 116) 9
abbrev acw:Stmt:=aB (tp 116) 10
abbrev s_z:Stmt:=aB (tp 116) 11
abbrev acx:Stmt:=aB (tp 116) 12
abbrev acy:Stmt:=aB (tp 116) 13
abbrev acz:Stmt:=aB (tp 116) 14
abbrev acA:Stmt:=aB (tp 116) 15
abbrev s_f:Stmt:=tp 120
abbrev s_d:Stmt:=tp 121
abbrev acB:Stmt:=tp 122
abbrev s_u:Stmt:=tp 123
abbrev s_l:Stmt:=tp 124
abbrev acC:Stmt:=tp 125
abbrev acD:Stmt:=tp 126
abbrev acE:Stmt:=tp 127
abbrev s_Y:Stmt:=tp 128
abbrev acF:Stmt:=tp 129
abbrev s_j:Stmt:=tp 134
abbrev acG:Stmt:=tp 135
abbrev acH:Stmt:=tp 136
abbrev s_q:Stmt:=tp 137
abbrev acI:Stmt:=tp 138
abbrev acJ:Stmt:=tp 139
abbrev acK:Stmt:=tp 140
abbrev acL:Stmt:=tp 141
abbrev s_m:Stmt:=tp 142
abbrev acM:Stmt:=tp 143
abbrev s_Z:Stmt:=tp 144
abbrev acN:Stmt:=tp 145
abbrev acO:Stmt:=tp 146
abbrev acP:Stmt:=tp 147
abbrev acQ:Stmt:=tp 148
abbrev s_n:Stmt:=tp 149
abbrev s_A:Stmt:=tp 150
abbrev s_1:Stmt:=tp 151
abbrev s_2:Stmt:=tp 152
abbrev acR:Stmt:=tp 153
abbrev acS:Stmt:=tp 154
abbrev s_K:Stmt:=tp 160
abbrev s_3:Stmt:=tp 161
abbrev acT:Stmt:=tp 162
abbrev s_g:Stmt:=tp 163
abbrev acU:Stmt:=tp 164
abbrev s_L:Stmt:=tp 165
abbrev s_B:Stmt:=tp 166
abbrev s_c:Stmt:=tp 167
set_option genInjectivity false in
structure bf where
 (acV acW acX acY acZ ac0 ac1 ac2 ac3 ac4 ac5 ac6 ac7 ac8 ac9 ada adb ade f_M f_N f_o Zb f_4 f_O f_P Zc Zd Ze Zg f_Q f_R f_S aiM aiN aiO f_T adf adg aiP aiQ aiR aiS aiT aiU f_5 f_6 f_7 f_8 f_9 adh aiV f_w adi adj adk adl adm f_U aiW f_x f_k f_V f_y f_C aiX aiY f_W aiZ f_D ai0 ai1 f_E f_e f_h f_F f_G f_H f_I f_J f_r f_s f_i adn f_a f_b f_p ai2 ai3 f_X ai4 f_t ai5 ai6 f_z ai7 ai8 ai9 aja f_f f_d ajb f_u f_l ajc ajd aje f_Y ajf f_j ajg ajh f_q aji ajj ajk ajl f_m ajm f_Z ajn ajo ajp ajq f_n f_A f_1 f_2 ajr ajs f_K f_3 ajt f_g aju f_L f_B f_c LC NZ ND KD JD Ka N0 LD Nc Qm KL KP Ju Me Ox NF Hk Hm GW LF HA Jp KN Kj Kk Jq Ln Mn Hq JU Ge IY Gm Sg JR P1 GY HV:E4)
 (ado adp adq ads adt adu adv adw adx ady adz adA adB adC adD adE adF adG ajv ajw ajx adH ajy ajz ajA adI adJ adK adL ajB ajC ajD adM adN adO ajE adP adQ adR adS adT adU adV adW adX adY adZ ad0 ad1 XB ad2 ajF XD XE XF ad3 ad4 ajG ad5 ajH ajI ajJ ajK ajL ad6 ad7 ajM ad8 ajN ad9 aea ajO ajP ajQ ajR ajS ajT ajU ajV ajW ajX ajY aeb ajZ aj0 aj1 aec aed aj2 aee aj3 aef aeg aj4 aeh aei aej aek aj5 ael aem aj6 aj7 aen aeo aep aj8 aeq aj9 aer aes aka aet aeu aev aew akb aex aey aez aeA aeB aeC akc akd aeD aeE aeF aeG ake akf aeH akg aeI akh aki VM:Gb)
structure cG (K:E1) (mg:FD->Fd E3) (n:FD) (st:Stmt) (ps:EV FD) (f:E4) (fd:Gb):Prop where
 F:oU K n n st f fd
 c:CD K mg n f fd ps
structure eJ (K:E1) (C:E4) (n q:FD) (st:Stmt) (ps:EV FD) (f:E4) (fd:Gb):Prop where
 F:oU K n q st f fd
 c:MD K C n f fd ps
structure aU (K:E1) (mg:FD->Fd E3) (a:bf):Prop where
 Rf:mg "Number"=Fa (.ref a.LC)
 Ue:mg "Name"=Fa (.ref a.NZ)
 Ug:mg "Call"=Fa (.ref a.ND)
 Sh:mg "Unary"=Fa (.ref a.KD)
 Si:mg "Chain"=Fa (.ref a.JD)
 Rg:mg "Choice"=Fa (.ref a.Ka)
 Zh:mg "Sum"=Fa (.ref a.N0)
 Tu:mg "Let"=Fa (.ref a.LD)
 VN:mg "For"=Fa (.ref a.Nc)
 XG:mg "If"=Fa (.ref a.Qm)
 Uh:mg "Step"=Fa (.ref a.KL)
 Tv:mg "Amounts"=Fa (.ref a.KP)
 VO:mg "Block"=Fa (.ref a.Ju)
 Sj:mg "Const"=Fa (.ref a.Me)
 VP:mg "Fun"=Fa (.ref a.Ox)
 Ui:mg "Desk"=Fa (.ref a.NF)
 OZ:mg "StepOrder"=Fa (.ref a.Hk)
 QZ:mg "BlockOrder"=Fa (.ref a.Hm)
 HG:mg "Refusal"=Fa (.ref a.GW)
 O0:mg "NotAsTold"=Fa (.ref a.LF)
 QB:mg "Fault"=Fa (.ref a.HA)
 Nf:mg "DivisorIsZero"=Fa (.ref a.Jp)
 P2:mg "TooGreat"=Fa (.ref a.KN)
 Oy:mg "NoStepLeft"=Fa (.ref a.Kj)
 Oz:mg "OutOfRange"=Fa (.ref a.Kk)
 Ng:mg "TooManyOrders"=Fa (.ref a.Jq)
 P4:mg "NoParent"=Fa (.ref a.Ln)
 WK:mg "Task"=Fa (.ref a.Mn)
 UP:mg "Worker"=Fa (.ref a.Hq)
 UQ:mg "Market"=Fa (.ref a.JU)
 Rw:mg "Expansion"=Fa (.ref a.Ge)
 Sk:mg "Token"=Fa (.ref a.IY)
 UR:mg "Reader"=Fa (.ref a.Gm)
 aeJ:eJ K a.LC "__init__" "Number.__init__" abD ["self","worth"] a.acV a.ado
 aeK:eJ K a.NZ "__init__" "Name.__init__" abE ["self","name"] a.acW a.adp
 aeL:eJ K a.ND "__init__" "Call.__init__" abF ["self","name","arguments"] a.acX a.adq
 aeM:eJ K a.KD "__init__" "Unary.__init__" abG ["self","sign","operand"] a.acY a.ads
 aeN:eJ K a.JD "__init__" "Chain.__init__" abH ["self","strength","operands","signs"] a.acZ a.adt
 aeO:eJ K a.Ka "__init__" "Choice.__init__" abI ["self","condition","chosen","otherwise"] a.ac0 a.adu
 aeP:eJ K a.N0 "__init__" "Sum.__init__" abJ ["self","name","first","last","body"] a.ac1 a.adv
 aeQ:eJ K a.LD "__init__" "Let.__init__" abK ["self","name","exp"] a.ac2 a.adw
 aeR:eJ K a.Nc "__init__" "For.__init__" abL ["self","name","first","last","statements"] a.ac3 a.adx
 aeS:eJ K a.Qm "__init__" "If.__init__" abM ["self","condition","statements","else_statements"] a.ac4 a.ady
 aeT:eJ K a.KL "__init__" "Step.__init__" abN ["self","side","zone","quarter","price","to_price","amount"] a.ac5 a.adz
 aeU:eJ K a.KP "__init__" "Amounts.__init__" abO ["self","name","exp"] a.ac6 a.adA
 aeV:eJ K a.Ju "__init__" "Block.__init__" abP ["self","name","side","zone","price","amounts","under","group"] a.ac7 a.adB
 aeW:eJ K a.Me "__init__" "Const.__init__" abQ ["self","name","exp"] a.ac8 a.adC
 aeX:eJ K a.Ox "__init__" "Fun.__init__" abR ["self","name","parameters","exp"] a.ac9 a.adD
 aeY:eJ K a.NF "__init__" "Desk.__init__" abS ["self","name","statements"] a.ada a.adE
 aeZ:eJ K a.Hk "__init__" "StepOrder.__init__" abT ["self","desk","zone","quarter","side","low","high","amount"] a.adb a.adF
 ae0:eJ K a.Hm "__init__" "BlockOrder.__init__" abU ["self","desk","zone","side","price","group","parent","amounts"] a.ade a.adG
 d_M:cG K mg "side_number" s_M ["word"] a.f_M a.ajv
 d_N:cG K mg "order_numbers" s_N ["order"] a.f_N a.ajw
 Wq:eJ K a.GW "__init__" "Refusal.__init__" s_o ["self","number"] a.f_o a.ajx
 Zi:eJ K a.LF "__init__" "NotAsTold.__init__" abV ["self"] a.Zb a.adH
 d_4:eJ K a.HA "__init__" "Fault.__init__" s_4 ["self","kind","line","column"] a.f_4 a.ajy
 d_O:eJ K a.Jp "__init__" "DivisorIsZero.__init__" s_O ["self"] a.f_O a.ajz
 d_P:eJ K a.KN "__init__" "TooGreat.__init__" s_P ["self"] a.f_P a.ajA
 Zj:eJ K a.Kj "__init__" "NoStepLeft.__init__" abW ["self"] a.Zc a.adI
 Zk:eJ K a.Kk "__init__" "OutOfRange.__init__" abX ["self"] a.Zd a.adJ
 Zl:eJ K a.Jq "__init__" "TooManyOrders.__init__" abY ["self"] a.Ze a.adK
 Zm:eJ K a.Ln "__init__" "NoParent.__init__" abZ ["self"] a.Zg a.adL
 d_Q:cG K mg "has_result" s_Q ["sign","right"] a.f_Q a.ajB
 d_R:cG K mg "sign_result" s_R ["sign","left","right"] a.f_R a.ajC
 d_S:cG K mg "is_so" s_S ["sign","left","right"] a.f_S a.ajD
 Zn:cG K mg "unary_result" ab0 ["sign","number"] a.aiM a.adM
 Zo:cG K mg "function_result" ab1 ["name","numbers"] a.aiN a.adN
 Zp:cG K mg "decides" ab2 ["strength","number"] a.aiO a.adO
 d_T:cG K mg "decided_value" s_T ["strength"] a.f_T a.ajE
 Zq:eJ K a.Mn "__init__" "Task.__init__" ab3 ["self","exp"] a.adf a.adP
 Zr:eJ K a.Hq "__init__" "Worker.__init__" ab4 ["self"] a.adg a.adQ
 VQ:eJ K a.Hq "take_step" "Worker.take_step" ab5 ["self"] a.aiP a.adR
 WL:eJ K a.Hq "set_value" "Worker.set_value" ab6 ["self","name","value"] a.aiQ a.adS
 Zs:eJ K a.Hq "value_of" "Worker.value_of" ab7 ["self","name"] a.aiR a.adT
 WM:eJ K a.Hq "begin" "Worker.begin" ab8 ["self","exp"] a.aiS a.adU
 Zu:eJ K a.Hq "finish" "Worker.finish" ab9 ["self","value"] a.aiT a.adV
 Zv:eJ K a.Hq "work_out" "Worker.work_out" aca ["self","exp"] a.aiU a.adW
 d_5:cG K mg "go_on" s_5 ["worker","exp","parts"] a.f_5 a.adX
 d_6:cG K mg "go_on_call" s_6 ["worker","call","parts"] a.f_6 a.adY
 d_7:cG K mg "go_on_unary" s_7 ["worker","unary","parts"] a.f_7 a.adZ
 d_8:cG K mg "go_on_chain" s_8 ["worker","chain","parts"] a.f_8 a.ad0
 d_9:cG K mg "go_on_deciding" s_9 ["worker","chain","parts"] a.f_9 a.ad1
 ae1:cG K mg "go_on_reckoning" acb ["worker","chain","parts"] a.adh a.XB
 Zw:cG K mg "checked_result" acd ["sign","left","right"] a.aiV a.ad2
 d_w:cG K mg "not_too_great" s_w ["value"] a.f_w a.ajF
 ae2:cG K mg "go_on_choice" ace ["worker","choice","parts"] a.adi a.XD
 ae3:cG K mg "go_on_sum" acf ["worker","summed","parts"] a.adj a.XE
 ae4:cG K mg "go_on_turns" acg ["worker","summed","parts"] a.adk a.XF
 ae5:eJ K a.JU "__init__" "Market.__init__" ach ["self","zones","quarters","low","high"] a.adl a.ad3
 Zy:eJ K a.Ge "__init__" "Expansion.__init__" aci ["self","market"] a.adm a.ad4
 d_U:cG K mg "expand_tops" s_U ["market","tops"] a.f_U a.ajG
 Zz:cG K mg "do_top" acj ["expansion","top"] a.aiW a.ad5
 d_x:cG K mg "give_value" s_x ["worker","given"] a.f_x a.ajH
 WN:cG K mg "do_statements" s_k ["expansion","statements"] a.f_k a.ajI
 d_V:cG K mg "do_statement" s_V ["expansion","statement"] a.f_V a.ajJ
 d_y:cG K mg "do_for" s_y ["expansion","loop"] a.f_y a.ajK
 d_C:cG K mg "do_if" s_C ["expansion","condition"] a.f_C a.ajL
 ZA:cG K mg "need_range" ack ["number","least","most"] a.aiX a.ad6
 ZC:cG K mg "do_step" acm ["expansion","step"] a.aiY a.ad7
 d_W:cG K mg "add_order" s_W ["expansion","order"] a.f_W a.ajM
 ZD:cG K mg "do_block" acn ["expansion","block"] a.aiZ a.ad8
 d_D:cG K mg "work_out_amounts" s_D ["expansion","amounts"] a.f_D a.ajN
 ZE:cG K mg "parent_of" aco ["expansion","block"] a.ai0 a.ad9
 ZF:cG K mg "add_block" acp ["expansion","name","order"] a.ai1 a.aea
 d_E:eJ K a.IY "__init__" "Token.__init__" s_E ["self","kind","value","line","column"] a.f_E a.ajO
 d_e:cG K mg "is_digit" s_e ["byte"] a.f_e a.ajP
 d_h:cG K mg "is_letter" s_h ["byte"] a.f_h a.ajQ
 d_F:cG K mg "comment_end" s_F ["text","at"] a.f_F a.ajR
 d_G:cG K mg "word_end" s_G ["text","at"] a.f_G a.ajS
 d_H:cG K mg "digits_end" s_H ["text","at"] a.f_H a.ajT
 d_I:cG K mg "token_end" s_I ["text","at"] a.f_I a.ajU
 d_J:cG K mg "token_kind" s_J ["text","at","end"] a.f_J a.ajV
 d_r:cG K mg "decimal_worth" s_r ["part"] a.f_r a.ajW
 d_s:cG K mg "token_value" s_s ["kind","part"] a.f_s a.ajX
 d_i:cG K mg "scan_text" s_i ["text"] a.f_i a.ajY
 ZG:eJ K a.Gm "__init__" "Reader.__init__" acq ["self","tokens"] a.adn a.aeb
 VR:eJ K a.Gm "current" "Reader.current" s_a ["self"] a.f_a a.ajZ
 VS:eJ K a.Gm "fail" "Reader.fail" s_b ["self","kind"] a.f_b a.aj0
 d_p:eJ K a.Gm "sees" "Reader.sees" s_p ["self","value"] a.f_p a.aj1
 ZH:eJ K a.Gm "at_end" "Reader.at_end" acr ["self"] a.ai2 a.aec
 ZI:eJ K a.Gm "at_number" "Reader.at_number" acs ["self"] a.ai3 a.aed
 d_X:eJ K a.Gm "at_name" "Reader.at_name" s_X ["self"] a.f_X a.aj2
 ZJ:eJ K a.Gm "number_follows" "Reader.number_follows" acu ["self"] a.ai4 a.aee
 d_t:eJ K a.Gm "take" "Reader.take" s_t ["self"] a.f_t a.aj3
 ZK:eJ K a.Gm "expect" "Reader.expect" acv ["self","value"] a.ai5 a.aef
 ZL:eJ K a.Gm "skips" "Reader.skips" acw ["self","value"] a.ai6 a.aeg
 d_z:eJ K a.Gm "need_name" "Reader.need_name" s_z ["self"] a.f_z a.aj4
 ZM:eJ K a.Gm "take_free_name" "Reader.take_free_name" acx ["self"] a.ai7 a.aeh
 ZN:eJ K a.Gm "take_name_not_in" "Reader.take_name_not_in" acy ["self","given"] a.ai8 a.aei
 ZO:eJ K a.Gm "learn" "Reader.learn" acz ["self","name"] a.ai9 a.aej
 WO:eJ K a.Gm "forget" "Reader.forget" acA ["self","name"] a.aja a.aek
 d_f:cG K mg "deeper" s_f ["reader","depth"] a.f_f a.aj5
 Sn:cG K mg "read_exp" s_d ["reader","depth"] a.f_d a.ael
 WQ:cG K mg "read_choice" acB ["reader","depth"] a.ajb a.aem
 XH:cG K mg "read_chain" s_u ["reader","depth","strength"] a.f_u a.aj6
 Wr:cG K mg "read_unary" s_l ["reader","depth"] a.f_l a.aj7
 WR:cG K mg "read_primary" acC ["reader","depth"] a.ajc a.aen
 WU:cG K mg "read_brackets" acD ["reader","depth"] a.ajd a.aeo
 WV:cG K mg "read_sum" acE ["reader","depth"] a.aje a.aep
 d_Y:cG K mg "read_call" s_Y ["reader","depth"] a.f_Y a.aj8
 ZP:cG K mg "refuse_here" acF ["reader","sign"] a.ajf a.aeq
 d_j:cG K mg "read_sheet" s_j ["text"] a.f_j a.aj9
 WW:cG K mg "read_top" acG ["reader"] a.ajg a.aer
 WX:cG K mg "read_const" acH ["reader"] a.ajh a.aes
 XI:cG K mg "read_given" s_q ["reader"] a.f_q a.aka
 WY:cG K mg "read_fun" acI ["reader"] a.aji a.aet
 ZQ:cG K mg "read_parameters" acJ ["reader","function"] a.ajj a.aeu
 ZR:cG K mg "read_parameter" acK ["reader","function"] a.ajk a.aev
 WZ:cG K mg "read_desk" acL ["reader"] a.ajl a.aew
 Ws:cG K mg "read_braces" s_m ["reader","depth"] a.f_m a.akb
 W0:cG K mg "read_statement" acM ["reader","depth"] a.ajm a.aex
 d_Z:cG K mg "read_let" s_Z ["reader"] a.f_Z a.aey
 ZT:cG K mg "deeper_braces" acN ["reader","depth"] a.ajn a.aez
 W3:cG K mg "read_for" acO ["reader","depth"] a.ajo a.aeA
 W4:cG K mg "read_if" acP ["reader","depth"] a.ajp a.aeB
 ZU:cG K mg "read_side" acQ ["reader"] a.ajq a.aeC
 W5:cG K mg "read_part" s_n ["reader","word"] a.f_n a.akc
 d_A:cG K mg "read_part_if_there" s_A ["reader","word"] a.f_A a.akd
 d_1:cG K mg "read_step" s_1 ["reader"] a.f_1 a.aeD
 d_2:cG K mg "read_block" s_2 ["reader"] a.f_2 a.aeE
 W6:cG K mg "read_amounts" acR ["reader"] a.ajr a.aeF
 ZV:cG K mg "read_under_name" acS ["reader"] a.ajs a.aeG
 d_K:cG K mg "is_text" s_K ["text"] a.f_K a.ake
 d_3:cG K mg "is_price" s_3 ["price"] a.f_3 a.akf
 ZW:cG K mg "is_market" acT ["zones","quarters","low","high"] a.ajt a.aeH
 d_g:cG K mg "need" s_g ["as_told"] a.f_g a.akg
 ZX:cG K mg "expanded" acU ["zones","quarters","low","high","text"] a.aju a.aeI
 d_L:cG K mg "order_rows" s_L ["expansion"] a.f_L a.akh
 d_B:cG K mg "row" s_B ["numbers"] a.f_B a.aki
 d_c:cG K mg "expand" s_c ["zones","quarters","low","high","text"] a.f_c a.VM
 PB:gI K a.LC
 US:Mk K a.LC a.acV
 NM:ao K a.LC "worth"
 Rx:gI K a.NZ
 W7:Mk K a.NZ a.acW
 O2:ao K a.NZ "name"
 Qt:gI K a.ND
 W8:Mk K a.ND a.acX
 O3:ao K a.ND "name"
 ML:ao K a.ND "arguments"
 O4:gI K a.KD
 VT:Mk K a.KD a.acY
 OA:ao K a.KD "sign"
 Nh:ao K a.KD "operand"
 Ni:gI K a.JD
 VU:Mk K a.JD a.acZ
 K4:ao K a.JD "strength"
 MM:ao K a.JD "operands"
 N3:ao K a.JD "signs"
 PD:gI K a.Ka
 UT:Mk K a.Ka a.ac0
 L4:ao K a.Ka "condition"
 Nj:ao K a.Ka "chosen"
 L5:ao K a.Ka "otherwise"
 PF:gI K a.N0
 ZY:Mk K a.N0 a.ac1
 P5:ao K a.N0 "name"
 O5:ao K a.N0 "first"
 P6:ao K a.N0 "last"
 P7:ao K a.N0 "body"
 Ry:gI K a.LD
 ZZ:Mk K a.LD a.ac2
 N4:ao K a.LD "name"
 QC:ao K a.LD "exp"
 PH:gI K a.Nc
 Z0:Mk K a.Nc a.ac3
 P8:ao K a.Nc "name"
 O6:ao K a.Nc "first"
 P9:ao K a.Nc "last"
 MN:ao K a.Nc "statements"
 So:gI K a.Qm
 ae6:Mk K a.Qm a.ac4
 NN:ao K a.Qm "condition"
 Nk:ao K a.Qm "statements"
 Lh:ao K a.Qm "else_statements"
 Mf:gI K a.KL
 W9:Mk K a.KL a.ac5
 O7:ao K a.KL "side"
 O8:ao K a.KL "zone"
 NO:ao K a.KL "quarter"
 OB:ao K a.KL "price"
 Lo:ao K a.KL "to_price"
 N5:ao K a.KL "amount"
 OJ:gI K a.KP
 Tw:Mk K a.KP a.ac6
 NP:ao K a.KP "name"
 N6:ao K a.KP "exp"
 Kx:gI K a.Ju
 VV:Mk K a.Ju a.ac7
 OC:ao K a.Ju "name"
 OD:ao K a.Ju "side"
 OE:ao K a.Ju "zone"
 N7:ao K a.Ju "price"
 Nl:ao K a.Ju "amounts"
 N8:ao K a.Ju "under"
 Mo:ao K a.Ju "group"
 QD:gI K a.Me
 VW:Mk K a.Me a.ac8
 OF:ao K a.Me "name"
 O9:ao K a.Me "exp"
 QF:gI K a.Ox
 Z1:Mk K a.Ox a.ac9
 Qa:ao K a.Ox "name"
 MO:ao K a.Ox "parameters"
 QG:ao K a.Ox "exp"
 RA:gI K a.NF
 Xa:Mk K a.NF a.ada
 RB:ao K a.NF "name"
 Mp:ao K a.NF "statements"
 NG:gI K a.Hk
 RC:Mk K a.Hk a.adb
 MP:ao K a.Hk "desk"
 MQ:ao K a.Hk "zone"
 LG:ao K a.Hk "quarter"
 MR:ao K a.Hk "side"
 Nm:ao K a.Hk "low"
 MS:ao K a.Hk "high"
 L6:ao K a.Hk "amount"
 M3:gI K a.Hm
 Q0:Mk K a.Hm a.ade
 Mq:ao K a.Hm "desk"
 Mr:ao K a.Hm "zone"
 Ms:ao K a.Hm "side"
 L7:ao K a.Hm "price"
 L8:ao K a.Hm "group"
 LH:ao K a.Hm "parent"
 Li:ao K a.Hm "amounts"
 Pb:gI K a.Mn
 Xb:Mk K a.Mn a.adf
 Qb:ao K a.Mn "exp"
 M4:ao K a.Mn "parts"
 HS:gI K a.Hq
 UU:Mk K a.Hq a.adg
 LQ:ao K a.Hq "taken"
 Km:ao K a.Hq "functions"
 JE:ao K a.Hq "scopes"
 IB:ao K a.Hq "tasks"
 Lq:ao K a.Hq "result"
 Rh:gI K a.JU
 UW:Mk K a.JU a.adl
 LR:ao K a.JU "zones"
 KO:ao K a.JU "quarters"
 M5:ao K a.JU "low"
 K5:ao K a.JU "high"
 Hn:gI K a.Ge
 RD:Mk K a.Ge a.adm
 L9:ao K a.Ge "market"
 Ma:ao K a.Ge "worker"
 Ja:ao K a.Ge "orders"
 K6:ao K a.Ge "desk"
 JS:ao K a.Ge "named"
 Iv:gI K a.IY
 Sq:Mk K a.IY a.f_E
 JZ:ao K a.IY "kind"
 Jj:ao K a.IY "value"
 M6:ao K a.IY "line"
 LS:ao K a.IY "column"
 FV:gI K a.Gm
 UX:Mk K a.Gm a.adn
 Lr:ao K a.Gm "tokens"
 Kl:ao K a.Gm "at"
 JV:ao K a.Gm "known"
 Iy:ao K a.Gm "functions"
 LU:ao K a.Gm "desks"
 JF:ao K a.Gm "blocks"
 VX: ∃t,mg "EITHER"=Fa (.int 0 t)
 Tx: ∃t,mg "BOTH"=Fa (.int 1 t)
 RE: ∃t,mg "COMPARISON"=Fa (.int 2 t)
 Xc: ∃t,mg "SELLS"=Fa (.int 0 t)
 Z2: ∃t,mg "BUYS"=Fa (.int 1 t)
 Tz: ∃t,mg "GREATEST"=Fa (.int 1000000000000000000 t)
 RF: ∃t,mg "MOST_STEPS"=Fa (.int 10000 t)
 Q1: ∃t,mg "MOST_ORDERS"=Fa (.int 48 t)
 OG: ∃t,mg "MOST_AMOUNT"=Fa (.int 1000000000 t)
 Q2: ∃t,mg "MOST_SPREAD"=Fa (.int 10000 t)
 RG: ∃t,mg "MOST_GROUP"=Fa (.int 9 t)
 TB: ∃t,mg "WORD"=Fa (.int 0 t)
 Pc: ∃t,mg "NUMBER"=Fa (.int 1 t)
 VY: ∃t,mg "SIGN"=Fa (.int 2 t)
 XJ: ∃t,mg "END"=Fa (.int 3 t)
 Pd: ∃t,mg "WRONG"=Fa (.int 4 t)
 QH: ∃t,mg "LONGEST_WORD"=Fa (.int 24 t)
 PJ: ∃t,mg "LONGEST_NUMBER"=Fa (.int 18 t)
 Qc: ∃t,mg "LINE_FEED"=Fa (.int 10 t)
 UY: ∃t,mg "COMMENT"=Fa (.int 35 t)
 VZ:mg "BLANKS"=Fa (.ref a.Sg)
 RH:mg "SIGNS"=Fa (.ref a.JR)
 TC: ∃t,mg "SPELLING"=Fa (.str "0123456789:;<=>?@ABCDEFGHIJKLMNOPQRSTUVWXYZ[\\]^_`abcdefghijklmnopqrstuvwxyz" t)
 Q3: ∃t,mg "WRONG_TOKEN"=Fa (.int 1 t)
 OK: ∃t,mg "NOT_HERE"=Fa (.int 2 t)
 Qg: ∃t,mg "NOT_KNOWN"=Fa (.int 3 t)
 OL: ∃t,mg "NOT_FREE"=Fa (.int 4 t)
 Sr: ∃t,mg "ARGUMENTS"=Fa (.int 5 t)
 QI: ∃t,mg "TOO_DEEP"=Fa (.int 6 t)
 QJ: ∃t,mg "TOO_MANY"=Fa (.int 7 t)
 Ss:mg "KEY_WORDS"=Fa (.ref a.P1)
 MT:mg "FIRST_FUNCTIONS"=Fa (.ref a.GY)
 Q4: ∃t,mg "MOST_LEVELS"=Fa (.int 12 t)
 OH:mg "CHAIN_SIGNS"=Fa (.ref a.HV)
 Q5: ∃t,mg "MOST_BRACES"=Fa (.int 6 t)
 PK: ∃t,mg "MOST_FUNCTIONS"=Fa (.int 6 t)
 Pf: ∃t,mg "MOST_PARAMETERS"=Fa (.int 6 t)
 QK: ∃t,mg "LONGEST_TEXT"=Fa (.int 3000 t)
 RI: ∃t,mg "MOST_ZONES"=Fa (.int 6 t)
 Qn: ∃t,mg "MOST_QUARTERS"=Fa (.int 4 t)
 Pg: ∃t,mg "MOST_PRICE"=Fa (.int 1000000 t)
 V1:o5 K a.Sg [.int 9, .int 10, .int 13, .int 32]
 Sv:o5 K a.P1 [.str "const", .str "fun", .str "desk", .str "let", .str "for", .str "in", .str "if", .str "then", .str "else", .str "sell", .str "buy", .str "zone", .str "quarter", .str "price", .str "to", .str "amount", .str "block", .str "under", .str "group", .str "sum"]
 Sw:mg "Exception"=FB
 XM:mg "abs"=FB
 ae7:mg "all"=FB
 V2:mg "dict"=FB
 K7:mg "isinstance"=FB
 JW:mg "len"=FB
 ae8:mg "max"=FB
 ae9:mg "min"=FB
 Xd:mg "range"=FB
 afa:mg "sum"=FB
 RJ:mg "tuple"=FB
 afb:mg "zip"=FB
variable {P:FW}{w:Gx}{K:E1}{mg:FD->Fd E3}{base:GI}{a:bf}
abbrev nb (c:IP):Int:=(c.toNat:Int)
def kb (c:IP):a8:=JC (nb c)
def dW:EV (EV a8×V):=Gu.map λs=>(s.map kb,V.str (dI s))
structure Af (K:E1) (R:E4) (m:FD) (f:E4):Prop where
 sp:OW K (.ref R) "__getattribute__"=Fa (Fa (.builtin "type.__getattribute__"))
 ty:VF K (.ref R)=Fa (.type "type")
 rd:PySem.W.readsIn K R (.type "type")=FM
 fc:Vg K (.ref R) (.type "type") m=Fa (.val (.ref f))
 kp:Ir K (.ref f)=FM
structure XT (K:E1) (a:bf):Prop where
 fc:dz K a.GW a.HA a.f_4
 rm:Af K a.GW "__init__" a.f_o
structure Di (P:FW) (w:Gx) (K:E1) (a:E4) (aD:EV (a8×V)):Prop where
 at_: ∃vs:EV (a8×E3),(∀h:GI,K.In h->h.DictOf (aT P w) a vs)/\KV aD vs
 len:aD.length<=FP
 no:(a == Io)=FS
def dj:EV (a8×V):=[(.inr "min", .int 2),(.inr "max", .int 2),(.inr "abs", .int 1)]
end OS
namespace OS
open PySem PySem.Spec L2
open PyProof.Rows hiding St
variable {P:FW}{w:Gx}{K:E1}{mg:FD->Fd E3}{base:GI}{a:bf}
structure XW (K:E1) (a:bf):Prop extends XT K a where
 LV:dz K a.GW a.Jp a.f_O
 OM:dz K a.GW a.KN a.f_P
 NH:dz K a.GW a.Kj a.Zc
 NI:dz K a.GW a.Kk a.Zd
 LW:dz K a.GW a.Jq a.Ze
 ON:dz K a.GW a.Ln a.Zg
def yO (a:bf):EV E4:=[a.LC,a.NZ,a.ND,a.KD,a.JD,a.Ka,a.N0,a.LD,a.Nc,a.Qm,a.KL,a.Ju,a.Me,a.Ox,a.NF]
structure mw (K:E1) (a:bf):Prop where
 ty: ∀C∈yO a,yo K C
 kit:((yO a).map λC=>(yO a).map λD=>Hy K (.ref C) (.ref D))=(Jl 15).map λi=>(Jl 15).map λj=>Fa (decide (i=j))
end OS
namespace OS
open PySem PySem.Spec L2
open PyProof.Rows hiding St
variable {P:FW}{w:Gx}{K:E1}{mg:FD->Fd E3}{base:GI}{a:bf}
def zK (K:E1) (ad:E4) (rows:EV (EV V)):Prop:= ∃qs:EV E4,o5 K ad (qs.map V.ref)/\Paired (λq xs=>o5 K q xs) qs rows
def di:EV (EV V):=[[.str "||"],[.str "&&"],[.str "==", .str "!=", .str "<=", .str ">=", .str "<", .str ">"],[.str "+", .str "-"],[.str "*", .str "/", .str "/rest"]]
end OS
namespace OS
open PySem PySem.Spec L2
open PyProof.Rows hiding St
variable {P:FW}{w:Gx}{K:E1}{mg:FD->Fd E3}{base:GI}{a:bf}


def fi (zs:EV Int):EV V:=zs.map V.int
structure XN (K:E1) (a:bf):Prop extends XW K a where
 N9:dz K a.GW a.LF a.Zb
structure OdK (K:E1) (a:bf):Prop where
 s:yo K a.Hk
 b:yo K a.Hm
 ss:Hy K (.ref a.Hk) (.ref a.Hk)=Fa FM
 bs:Hy K (.ref a.Hm) (.ref a.Hk)=Fa FS
inductive iL (K:E1) (vs:EV V) (H:Hp) (Q:VK) (_E:XK):Prop
 |mk (z t lo hi:Int) (l:E4) (zs:EV Int) (_:vs=[.int z, .int t, .int lo, .int hi, .ref l]) (_:cC K H l (fi zs)) (_:zs.length<=4000) (_: ∀(H':Hp) (p:E4),H' p=Fa (.lst (fi (Kw z t lo hi zs)))->Q (.ref p) H'):iL K vs H Q _E
def dOf:Data->EV Oi
 | .dict es _=>es.toList
 |_=>[]
theorem Z3 (h:dOf d=e::r): ∃es ep,d= .dict es ep/\es.toList=e::r:=by
 cases d with
 |dict es n=>exact#[es,n,Gc,h]
 |_=>cases h
noncomputable def Sx (K:E1) (a:E4):EV Oi:=((K.lookup a).map λo=>if o.cls= .type "dict"/\o.dict=FB/\o.slots.size=0 then dOf o.data else []).getD []
theorem vU {K:E1}{a:E4}(h:Sx K a=e::r): ∃o es ep,K.lookup a=Fa o/\o.ExactDict/\o.data= .dict es ep/\es.toList=e::r:=by
 unfold Sx at h;cases q:K.lookup a with
 |none=>rw[q] at h;cases h
 |some o=>
  rw[q] at h;have h:(if o.cls= .type "dict"/\o.dict=FB/\o.slots.size=0 then dOf o.data else [])=e::r:=h
  by_cases c:o.cls= .type "dict"/\o.dict=FB/\o.slots.size=0
  ·rw[E7 c] at h
   obtain⟨es,n,h1,h2⟩:=Z3 h;exact#[o,es,n,Gc,#[c.1,c.2.1,Jk.eq_empty_of_size_eq_zero c.2.2],h1,h2]
  ·rw[E5 c] at h
   cases h
section
variable {a:E4}
theorem Ep {mg:FD->Fd E3}(X:K.In h) (G:h.Ns N mg) (e:JO K N n=Fa (Fa v)):mg n=Fa v:=by
 obtain⟨o,es,ep,ho,hd,_,hf⟩:=G;unfold JO at e;split at e
 ·rename_i c d es' n' sl q
  have:=X _ _ q;rw[ho] at this;cases this;cases hd;split at e
  ·rename_i en he
   cases e;rw[<-hf];unfold nsFind findBy;rw[<-UH,he]
   rfl
  ·split at e<;>cases e
 ·cases e
def iOf:E3->Fd Int
 | .int i _=>Fa i
 |_=>FB
def xOf:E3->Fd FD
 | .str i _=>Fa i
 |_=>FB
def rOf:E3->Fd E4
 | .ref i=>Fa i
 |_=>FB
theorem uv (h:iOf v=Fa i): ∃t,v= .int i t:=by
 cases v with
 |int j t=>cases h;exact#[t,Gc]
 |_=>cases h
theorem uJ (h:xOf v=Fa i): ∃t,v= .str i t:=by
 cases v with
 |str j t=>cases h;exact#[t,Gc]
 |_=>cases h
theorem BB (h:rOf v=Fa i):v= .ref i:=by
 cases v with
 |ref j=>cases h;rfl
 |_=>cases h
abbrev sD {A:Type}(f:E3->Fd A) (l:EV E3):Fd (EV A):=l.mapM f
abbrev nz:=sD iOf
abbrev nN:=sD xOf
abbrev vi:=sD rOf
theorem iF {A B:Type}{f:E3->Fd A}{g:A->B}{R:B->E3->Prop}(hf: ∀v x,f v=Fa x->R (g x) v): ∀ {vs:EV E3}{l:EV A},sD f vs=Fa l->Paired R (l.map g) vs
 |[],l,h=>by cases h;exact .nil
 |v::r,l,h=>by
  rw[sD,EV.mapM_cons] at h;cases e:f v with
  |none=>rw[e] at h;cases h
  |some x=>
   cases q:r.mapM f with
   |none=>rw[e,q] at h;cases h
   |some l'=>rw[e,q] at h;cases h;exact .cons (hf v x e) (iF hf q)
def qOf:Data->Fd (Jk E3)
 | .seq Ho _=>Fa Ho
 |_=>FB
theorem Z4 (h:qOf d=Fa Ho): ∃n,d= .seq Ho n:=by
 cases d with
 |seq es n=>cases h;exact#[n,Gc]
 |_=>cases h
noncomputable def Mt (K:E1) (a:E4):Fd (EV E3):=(K.lookup a).bind λo=>(qOf o.data).bind λHo=>if o.cls= .type "tuple"/\Ho.size<=1000 then Fa Ho.toList else FB
theorem r9 (h:Mt K a=Fa l): ∃o Ho n,K.lookup a=Fa o/\o.cls= .type "tuple"/\o.data= .seq Ho n/\Ho.size<=FP/\Ho.toList=l:=by
 obtain⟨o,h1,h⟩:=Ii.mp h;obtain⟨Ho,h2,h⟩:=Ii.mp h;obtain⟨n,h2⟩:=Z4 h2;by_cases c:o.cls= .type "tuple"/\Ho.size<=1000
 ·rw[E7 c] at h
  exact#[o,Ho,n,h1,c.1,h2,FA c.2 [01],Fs h]
 ·rw[E5 c] at h
  cases h
theorem tL (h:nz vs=Fa l):aY (l.map V.int) vs:=iF (λ_ _ e=>uv e) h
theorem tu (h:nN vs=Fa l):aY (l.map V.str) vs:=iF (λ_ _ e=>uJ e) h
theorem tX (h:vi vs=Fa l):aY (l.map V.ref) vs:=iF (λ_ _ e=>BB e) h
theorem qC (h:Mt K a=Fa vs) (v:aY xs vs):o5 K a xs:=by
 obtain⟨o,Ho,n,h1,h2,h3,h4,h5⟩:=r9 h;exact#[o,Ho,n,h1,h2,h3,h4,by rw[h5];exact v]
theorem zU (h:(Mt K a).bind nz=Fa l):o5 K a (l.map V.int):=by
 cases e:Mt K a with
 |none=>rw[e] at h;cases h
 |some vs=>rw[e] at h;exact qC e (tL h)
theorem tM (h:(Mt K a).bind nN=Fa l):o5 K a (l.map V.str):=by
 cases e:Mt K a with
 |none=>rw[e] at h;cases h
 |some vs=>rw[e] at h;exact qC e (tu h)
noncomputable def Uj (K:E1) (e:Oi):Fd (Int×EV Int×FD):=(rOf e.key).bind λp=>(xOf e.val).bind λx=>((Mt K p).bind nz).map λl=>(e.hash,l,x)
theorem AS (z:Uj K e=Fa (h,l,x)): ∃p t,e.key= .ref p/\e.val= .str x t/\e.hash=h/\(Mt K p).bind nz=Fa l:=by
 obtain⟨p,h1,z⟩:=Ii.mp z;obtain⟨x',h2,z⟩:=Ii.mp z;obtain⟨l',h3,z⟩:=F4.mp z;cases z;obtain⟨t,h2⟩:=uJ h2;exact#[p,t,BB h1,h2,Gc,h3]
theorem Bx (h:Paired (λk v=>(aT P w).is k v=FM) ks vs):ItemsAre (aT P w) ks vs:=by
 induction h with
 |nil=>exact .nil
 |cons h _ i=>exact .cons h i
theorem yN (h:nz vs=Fa l):ItemsAre (aT P w) (l.map λi=>(JC i:a8)) vs:=
 Bx (iF (f:=iOf) (g:=λi=>(JC i:a8)) (λv i e=>by
  obtain⟨t,rfl⟩:=uv e;exact GN i) h)
theorem v9: ∀ {es:EV Oi}{L:EV (EV Int×FD)},es.map (Uj K)=(L.map λp=>Fa (Vs (aT P w) (p.1.map λi=>(JC i:a8)),p.1,p.2))->
  ∃xs:EV (EV a8×E4×E3),Paired (λ(p:EV a8×V) (q:EV a8×E4×E3)=>p.1=q.1/\bo p.2 q.2.2) (L.map λp=>(p.1.map λi=>(JC i:a8),V.str p.2)) xs/\es=xs.map (entryOfKey (Nv (aT P w)))/\(xs.map (·.1))=(L.map λp=>p.1.map λi=>(JC i:a8))/\ ∀h:GI,K.In h-> ∀x∈xs,(Nv (aT P w)).is h x.1 x.2.1
 |[],[],_=>#[[], .nil,Gc,Gc,λ_ _ _ z=>nomatch z]
 |[],_::_,h=>by cases h
 |_::_,[],h=>by cases h
 |e::es,p::L,h=>by
  rw[FC,FC] at h;obtain⟨h1,h2⟩:=Js h;obtain⟨xs,k1,k2,k3,k4⟩:=v9 h2;obtain⟨q,t,e1,e2,e3,e4⟩:=AS h1;refine#[(p.1.map λi=>JC i,q, .str p.2 t)::xs, .cons #[Gc,#[t,Gc]] k1,?_,by rw[FC,FC,k3],λhp hK y hy=>?_]
  ·rw[FC,<-k2]
   congr 1
   obtain⟨eh,ek,ev⟩:=e;cases e1;cases e2;cases e3
   rfl
  ·rcases Fi.mp hy with rfl|hy
   ·cases z:Mt K q with
    |none=>rw[z] at e4;cases e4
    |some vs=>
     rw[z] at e4;obtain⟨o,Ho,n,g1,g2,g3,g4,g5⟩:=r9 z;exact#[o,Ho,n,hK _ _ g1,g2,g3,by rw[g5];exact yN e4]
   ·exact k4 hp hK y hy
theorem Z5 {L:EV (EV Int×FD)}(ne:L≠[]) (h:(Sx K a).map (Uj K)=(L.map λp=>Fa (Vs (aT P w) (p.1.map λi=>(JC i:a8)),p.1,p.2))) (nd:(L.map λp=>p.1.map λi=>(JC i:a8)).Nodup) (no:(a == Io)=FS):
  zH P w K a (L.map λp=>(p.1.map λi=>(JC i:a8),V.str p.2)):=by
 obtain⟨xs,k1,k2,k3,k4⟩:=v9 (P:=P) (w:=w) h;cases he:Sx K a with
 |nil=>rw[he] at h;exact Fv (EV.map_eq_nil_iff.mp h.symm) ne
 |cons e r=>
  obtain⟨o,es,ep,lk,ex,od,el⟩:=vU he;refine#[#[xs,λhp hK=>#[o,es,ep,hK a o lk,ex,od,by rw[el,<-he];exact k2,k4 hp hK,by rw[k3];exact nd],k1],no]
def XQ:EV (EV Int×FD):=Gu.map λs=>(s.map nb,dI s)
theorem AG:dW=XQ.map λp=>(p.1.map λi=>(JC i:a8),V.str p.2):=by decide+kernel
theorem Ev {mg:FD->Fd E3}{a:bf}(_:aU K mg a) (e:(Sx K a.JR).map (Uj K)=(XQ.map λp=>Fa (Vs (aT P w) (p.1.map λi=>(JC i:a8)),p.1,p.2))) (no:(a.JR == Io)=FS):zH P w K a.JR dW:=by
 rw[AG];exact Z5 [00] e [00] no
theorem iN {A:Type}{C:EV A->Prop}{us:EV A}(h:us.length=n+1) (k: ∀a r,r.length=n->C (a::r)):C us:=by
 cases us with
 |nil=>cases h
 |cons a r=>exact k a r (Ra h)
theorem v0 {A:Type}{C:EV A->Prop}{us:EV A}(h:us.length=0) (k:C []):C us:=by
 cases us with
 |nil=>exact k
 |cons a r=>cases h
theorem v1 {A:Type}{C:EV A->Prop}{us:EV A}(h:us.length=1) (k: ∀a,C [a]):C us:=iN h λa r h=>v0 (C:=λr=>C (a::r)) h (k a)
theorem v2 {A:Type}{C:EV A->Prop}{us:EV A}(h:us.length=2) (k: ∀a b,C [a,b]):C us:=iN h λa r h=>v1 (C:=λr=>C (a::r)) h (k a)
theorem v3 {A:Type}{C:EV A->Prop}{us:EV A}(h:us.length=3) (k: ∀a b c,C [a,b,c]):C us:=iN h λa r h=>v2 (C:=λr=>C (a::r)) h (k a)
theorem v4 {A:Type}{C:EV A->Prop}{us:EV A}(h:us.length=4) (k: ∀a b c d,C [a,b,c,d]):C us:=iN h λa r h=>v3 (C:=λr=>C (a::r)) h (k a)
theorem v5 {A:Type}{C:EV A->Prop}{us:EV A}(h:us.length=5) (k: ∀a b c d e,C [a,b,c,d,e]):C us:=iN h λa r h=>v4 (C:=λr=>C (a::r)) h (k a)
theorem v6 {A:Type}{C:EV A->Prop}{us:EV A}(h:us.length=6) (k: ∀a b c d e f,C [a,b,c,d,e,f]):C us:=iN h λa r h=>v5 (C:=λr=>C (a::r)) h (k a)
theorem v7 {A:Type}{C:EV A->Prop}{us:EV A}(h:us.length=7) (k: ∀a b c d e f g,C [a,b,c,d,e,f,g]):C us:=iN h λa r h=>v6 (C:=λr=>C (a::r)) h (k a)
theorem v8 {A:Type}{C:EV A->Prop}{us:EV A}(h:us.length=8) (k: ∀a b c d e f g h,C [a,b,c,d,e,f,g,h]):C us:=iN h λa r h=>v7 (C:=λr=>C (a::r)) h (k a)
theorem u0 {fd:Gb}{ps:EV FD}{us:EV E3}(h:us.length=0) (k:Hf fd #[[],[]]=pure (ps.zip [])):Hf fd #[us,[]]=pure (ps.zip us):=v0 (C:=λus=>Hf fd #[us,[]]=pure (ps.zip us)) h k
theorem u1 {fd:Gb}{ps:EV FD}{us:EV E3}(h:us.length=1) (k: ∀a,Hf fd #[[a],[]]=pure (ps.zip [a])):Hf fd #[us,[]]=pure (ps.zip us):=v1 (C:=λus=>Hf fd #[us,[]]=pure (ps.zip us)) h k
theorem u2 {fd:Gb}{ps:EV FD}{us:EV E3}(h:us.length=2) (k: ∀a b,Hf fd #[[a,b],[]]=pure (ps.zip [a,b])):Hf fd #[us,[]]=pure (ps.zip us):=v2 (C:=λus=>Hf fd #[us,[]]=pure (ps.zip us)) h k
theorem u3 {fd:Gb}{ps:EV FD}{us:EV E3}(h:us.length=3) (k: ∀a b c,Hf fd #[[a,b,c],[]]=pure (ps.zip [a,b,c])):Hf fd #[us,[]]=pure (ps.zip us):=v3 (C:=λus=>Hf fd #[us,[]]=pure (ps.zip us)) h k
theorem u4 {fd:Gb}{ps:EV FD}{us:EV E3}(h:us.length=4) (k: ∀a b c d,Hf fd #[[a,b,c,d],[]]=pure (ps.zip [a,b,c,d])):Hf fd #[us,[]]=pure (ps.zip us):=v4 (C:=λus=>Hf fd #[us,[]]=pure (ps.zip us)) h k
theorem u5 {fd:Gb}{ps:EV FD}{us:EV E3}(h:us.length=5) (k: ∀a b c d e,Hf fd #[[a,b,c,d,e],[]]=pure (ps.zip [a,b,c,d,e])):Hf fd #[us,[]]=pure (ps.zip us):=v5 (C:=λus=>Hf fd #[us,[]]=pure (ps.zip us)) h k
theorem u6 {fd:Gb}{ps:EV FD}{us:EV E3}(h:us.length=6) (k: ∀a b c d e f,Hf fd #[[a,b,c,d,e,f],[]]=pure (ps.zip [a,b,c,d,e,f])):Hf fd #[us,[]]=pure (ps.zip us):=v6 (C:=λus=>Hf fd #[us,[]]=pure (ps.zip us)) h k
theorem u7 {fd:Gb}{ps:EV FD}{us:EV E3}(h:us.length=7) (k: ∀a b c d e f g,Hf fd #[[a,b,c,d,e,f,g],[]]=pure (ps.zip [a,b,c,d,e,f,g])):Hf fd #[us,[]]=pure (ps.zip us):=v7 (C:=λus=>Hf fd #[us,[]]=pure (ps.zip us)) h k
theorem u8 {fd:Gb}{ps:EV FD}{us:EV E3}(h:us.length=8) (k: ∀a b c d e f g h,Hf fd #[[a,b,c,d,e,f,g,h],[]]=pure (ps.zip [a,b,c,d,e,f,g,h])):Hf fd #[us,[]]=pure (ps.zip us):=v8 (C:=λus=>Hf fd #[us,[]]=pure (ps.zip us)) h k
theorem Eu {h:GI}{mg:FD->Fd E3}(X:K.In h) (G:h.Ns Jc mg) {x:FD}{st:Stmt}{ps:EV FD}{f:E4}{oc:E3}{od an:Fd E4}{sl:Jk (Fd E3)}{kV doc pm cd ct:E3}
  (a:JO K Jc x=Fa (Fa (.ref f))) (l:K.lookup f=Fa #[oc,od, .func (HX x x (dN st) (be st) (af st) .none kV doc pm an cd ct),sl]) (c:K3 K cd x=FM) (k:Ir K (.ref f)=FM)
  (hb: ∀(kV doc pm:E3) (an:Fd E4) (GF ct:E3) (us:EV E3),us.length=ps.length->Hf (HX x x (dN st) (be st) (af st) .none kV doc pm an GF ct) #[us,[]]=pure (ps.zip us)):
  ∃fd,cG K mg x st ps f fd/\ ∀(s:E8) (us:EV E3),us.length=ps.length->SO s fd #[us,[]] (ps.zip us):=#[_,#[lg (st:=st) l c k,FH X G a,k,(lg (st:=st) l c k).binds hb],λs us hu=> .of_eq (hb _ _ _ _ _ _ us hu)]
theorem aC {h:GI}{mg:FD->Fd E3}(X:K.In h) (G:h.Ns Jc mg) {x:FD}{st:Stmt}{ps:EV FD}{f:E4}{oc:E3}{od an:Fd E4}{sl:Jk (Fd E3)}{kV doc pm cd ct:E3}
  (z:JO K Jc x=Fa (Fa (.ref f))/\K.lookup f=Fa #[oc,od, .func (HX x x (dN st) (be st) (af st) .none kV doc pm an cd ct),sl]/\K3 K cd x=FM/\Ir K (.ref f)=FM)
  (hb: ∀(kV doc pm:E3) (an:Fd E4) (GF ct:E3) (us:EV E3),us.length=ps.length->Hf (HX x x (dN st) (be st) (af st) .none kV doc pm an GF ct) #[us,[]]=pure (ps.zip us)):
  cG K mg x st ps f (HX x x (dN st) (be st) (af st) .none kV doc pm an cd ct):=#[lg (st:=st) z.2.1 z.2.2.1 z.2.2.2,FH X G z.1,z.2.2.2,(lg (st:=st) z.2.1 z.2.2.1 z.2.2.2).binds hb]
theorem aH {x q:FD}{st:Stmt}{ps:EV FD}{C f:E4}{oc:E3}{od an:Fd E4}{sl:Jk (Fd E3)}{kV doc pm cd ct:E3}
  (z:HF K (.ref C) x=Fa (Fa (.ref f))/\OY K (.ref f)=FM/\K.lookup f=Fa #[oc,od, .func (HX x q (dN st) (be st) (af st) .none kV doc pm an cd ct),sl]/\K3 K cd q=FM/\Ir K (.ref f)=FM)
  (hb: ∀(kV doc pm:E3) (an:Fd E4) (GF ct:E3) (us:EV E3),us.length=ps.length->Hf (HX x q (dN st) (be st) (af st) .none kV doc pm an GF ct) #[us,[]]=pure (ps.zip us)):
  eJ K C x q st ps f (HX x q (dN st) (be st) (af st) .none kV doc pm an cd ct):=#[lg (st:=st) z.2.2.1 z.2.2.2.1 z.2.2.2.2,#[z.1,z.2.1,z.2.2.2.2],(lg (st:=st) z.2.2.1 z.2.2.2.1 z.2.2.2.2).binds hb]
end
section
variable {a:E4}
def cOf:Data->Fd ClassData
 | .cls c=>Fa c
 |_=>FB
theorem Z6 (h:cOf d=Fa c):d= .cls c:=by
 cases d with
 |cls c=>cases h;rfl
 |_=>cases h
theorem six {A:Type}{l:Jk A}{x:A}(h:l.toList.length=6):l.toList[4]?=Fa x-> ∃a b c d f,l= [a,b,c,d,x,f].toArray:=by
 obtain⟨l⟩:=l;exact v6 (C:=λl=>l[4]?=Fa x-> ∃a b c d f,(#[l]:Jk A)= [a,b,c,d,x,f].toArray) h λa b c d e f z=>by cases z;exact#[a,b,c,d,f,Gc]
noncomputable def Z7 (K:E1) (C:E4) (u:EV E4):Fd E4:=(K.lookup C).bind λo=>(cOf o.data).bind λcd=>
 if o.cls= .type "type"/\cd.mro= .ref C::(u.map FL++c7)/\cd.hasDict=FM/\cd.hasDel=FS/\o.slots.toList.length=6/\o.slots.toList[4]?=Fa (Fa (.builtin "Exception.__new__")) then Fa cd.ns else FB
theorem wZ (q:Z7 K C u=Fa N) (X:K.In h):XO h C N (u.map FL++c7):=by
 obtain⟨o,h1,q⟩:=Ii.mp q;obtain⟨cd,h2,q⟩:=Ii.mp q;split at q
 ·rename_i g
  obtain⟨g1,g2,g3,g4,g5,g6⟩:=g;cases q;obtain⟨k0,k1,k2,k3,k5,g5⟩:=six g5 g6;have h2:=Z6 h2;obtain⟨nm,bs,mro,ns,qn,hd,sn,sub,ab,col,Dn⟩:=cd;obtain⟨cl,dd,da,sl⟩:=o;cases g1;cases g2;cases g3;cases g4;cases h2;cases g5;exact#[nm,qn,bs,sn,sub,ab,col,dd,k0,k1,k2,k3,k5,X _ _ h1]
 ·cases q
theorem gh {mg:FD->Fd E3}(_:K.In h0) (_:mg x=Fa (.ref C)) (_:mg "Refusal"=Fa (.ref R)) (l:Z7 K C [R]=Fa N)
  (Ic:VG K N=FM) (hi:JO K N "__init__"=Fa (Fa (.ref fI))) (hq:(cW.map λn=>JO K N n)=cW.map λ_=>Fa FB) (lI:((K.lookup fI).map λo=>o.cls)=Fa (.type "function")) (kp:Ir K (.ref C)=FM)
  (lR:Z7 K R []=Fa NR) (afc:VG K NR=FM) (hqR:(cW.map λn=>JO K NR n)=cW.map λ_=>Fa FB):dz K R C fI:=by
 obtain⟨oI,lI,cI⟩:=F4.mp lI;refine#[λh X=>?_,kp];have ns:h.Ns N (h.nsMap N):= .of_isNs (Tp X Ic);have nR:h.Ns NR (h.nsMap NR):= .of_isNs (Tp X afc);have all: ∀ {M:E4},(cW.map λn=>JO K M n)=(cW.map λ_=>Fa FB)-> ∀n∈cW,JO K M n=Fa FB:=λe=>EV.map_inj_left.mp e
 exact#[N,h.nsMap N,oI,NR,h.nsMap NR,wZ l X,ns,Ep X ns hi,λn hn=>QU X Ic (all hq n hn),X _ _ lI,cI,wZ lR X,nR,λn hn=>QU X afc (all hqR n hn)]
end
def vV (e:Oi):Fd (Int×FD×Int):=(xOf e.key).bind λx=>(iOf e.val).map λi=>(e.hash,x,i)
theorem Ae (z:vV e=Fa (h,x,i)): ∃t u,e.key= .str x t/\e.val= .int i u/\e.hash=h:=by
 obtain⟨x',h1,z⟩:=Ii.mp z;obtain⟨i',h2,z⟩:=F4.mp z;cases z;obtain⟨t,h1⟩:=uJ h1;obtain⟨u,h2⟩:=uv h2;exact#[t,u,h1,h2,Gc]
section
variable {a:E4}
theorem xA: ∀ {es:EV Oi}{L:EV (FD×Int)},es.map vV=(L.map λp=>Fa (hashStr w p.1,p.1,p.2))->
  ∃vs:EV (a8×E3),KV (L.map λp=>((HQ p.1:a8),V.int p.2)) vs/\PySem.Pairs (aT P w) es vs/\(vs.map (·.1))=(L.map λp=>(HQ p.1:a8))/\ ∀e∈es,∃k,(aT P w).is k e.key=FM/\e.hash=(aT P w).hash k
 |[],[],_=>#[[], .nil, .nil,Gc,λ_ z=>nomatch z]
 |[],_::_,h=>by cases h
 |_::_,[],h=>by cases h
 |e::es,p::L,h=>by
  rw[FC,FC] at h;obtain⟨h1,h2⟩:=Js h;obtain⟨vs,k1,k2,k3,k4⟩:=xA h2;obtain⟨t,u,e1,e2,e3⟩:=Ae h1;have is:(aT P w).is (HQ p.1) e.key=FM:=by rw[e1];show OR p.1 (.str p.1 t)=FM;simp [OR]
  refine#[(HQ p.1, .int p.2 u)::vs, .cons #[Gc,#[u,Gc]] k1, .cons is e2 k2,by rw[FC,FC,k3],λy hy=>?_];rcases Fi.mp hy with rfl|hy
  ·exact#[HQ p.1,is,e3]
  ·exact k4 y hy
theorem Z8 {p:FD×Int}{L:EV (FD×Int)}(h:(Sx K a).map vV=((p::L).map λp=>Fa (hashStr w p.1,p.1,p.2))) (nd:((p::L).map (·.1)).Nodup) (len:(p::L).length<=FP) (no:(a == Io)=FS):
  Di P w K a ((p::L).map λp=>((HQ p.1:a8),V.int p.2)):=by
 obtain⟨vs,k1,k2,k3,k4⟩:=xA (P:=P) h;cases he:Sx K a with
 |nil=>rw[he] at h;cases h
 |cons e r=>
  obtain⟨o,es,ep,lk,ex,od,el⟩:=vU he;rw[he,<-el] at k2;rw[he] at k4;refine#[#[vs,λhp hK=>#[o,es,ep,hK a o lk,ex,od,λy hy=>k4 y (by rw[<-el];exact Ti.mpr hy),k2,?_],k1],by rw[Fh];exact len,no];rw[k3,FC];rw[show(λp:FD×Int=>(HQ p.1:a8))=(λx=>HQ x) ∘ (λp:FD×Int=>p.1) from rfl];rw[show(HQ p.1:a8)::L.map ((λx=>(HQ x:a8)) ∘ λp=>p.1)=((p::L).map (·.1)).map (λx=>(HQ x:a8)) by rw[FC,FC,JA]];exact EV.Pairwise.map (λx=>(HQ x:a8)) (λ_ _ h z=>h (Jt z)) nd
theorem xa: ∀ {qs:EV E4}{rows:EV (EV FD)},(qs.map λq=>(Mt K q).bind nN)=rows.map Fa->Paired (λq xs=>o5 K q xs) qs (rows.map λr=>r.map V.str)
 |[],[],_=> .nil
 |[],_::_,h=>by cases h
 |_::_,[],h=>by cases h
 |q::qs,r::rows,h=>by
  rw[FC,FC] at h;obtain⟨h1,h2⟩:=Js h;exact .cons (tM h1) (xa h2)
theorem Z9 {qs:EV E4}{rows:EV (EV FD)}(h:(Mt K a).bind vi=Fa qs) (h2:(qs.map λq=>(Mt K q).bind nN)=rows.map Fa):zK K a (rows.map λr=>r.map V.str):=by
 cases e:Mt K a with
 |none=>rw[e] at h;cases h
 |some vs=>rw[e] at h;exact#[qs,qC e (tX h),xa h2]
theorem DE {mg:FD->Fd E3}{a:bf}(_:aU K mg a) (e:(Sx K a.GY).map vV=(([("min",2),("max",2),("abs",1)]:EV (FD×Int)).map λp=>Fa (hashStr w p.1,p.1,p.2))) (no:(a.GY == Io)=FS):Di P w K a.GY dj:=Z8 (p:=("min",2)) (L:=[("max",2),("abs",1)]) e [00] [01] no
theorem Dq {mg:FD->Fd E3}{a:bf}(_:aU K mg a) (e:(((Mt K a.HV).bind vi).map λqs=>qs.map λq=>(Mt K q).bind nN)=Fa (([["||"],["&&"],["==","!=","<=",">=","<",">"],["+","-"],["*","/","/rest"]]:EV (EV FD)).map Fa)):zK K a.HV di:=by
 obtain⟨qs,e1,e2⟩:=F4.mp e;exact Z9 e1 e2
end
theorem afd (_:aU K mg a) (c:Af K a.GW "__init__" a.f_o) (x0:dz K a.GW a.HA a.f_4) (x1:dz K a.GW a.Jp a.f_O) (x2:dz K a.GW a.KN a.f_P) (x3:dz K a.GW a.Kj a.Zc) (x4:dz K a.GW a.Kk a.Zd) (x5:dz K a.GW a.Jq a.Ze) (x6:dz K a.GW a.Ln a.Zg) (x7:dz K a.GW a.LF a.Zb):XN K a:=#[#[#[x0,c],x1,x2,x3,x4,x5,x6],x7]
def yb (K:E1):EV E4->Prop
 |[]=>True
 |C::l=>yo K C/\yb K l
theorem sX {C:E4} : ∀ {l:EV E4},yb K l->C∈l->yo K C
 |D::l,h,m=>by
  rcases Fi.mp m with z|z
  ·rw[z];exact h.1
  ·exact sX h.2 z
theorem AD:yb K []:=trivial
theorem bV (h:yo K C) (t:yb K l):yb K (C::l):=#[h,t]
theorem aaa {a:bf}(t:yb K (yO a)) (kit:((yO a).map λC=>(yO a).map λD=>Hy K (.ref C) (.ref D))=(Jl 15).map λi=>(Jl 15).map λj=>Fa (decide (i=j))):mw K a:=#[λC h=>sX t h,kit]
end OS
set_option hygiene false in
local macro_rules
|`(command|#synth [$n,*])=>do
 let t:=λc:Lean.Name=>do
  let i:=Lean.mkIdent (.str `PySem.W.Fast s!"tw{c.hash}")
  `(theorem $i:ident:True:=trivial)
 let f:=λ(k:String) (i:Nat)=>t (.str `OS.hd s!"{k}_{i}")
 let a<-(Array.range 1625).mapM (f "o")
 let b<-n.getElems.mapM λx=>match x with|`($k:ident*$i:num)=>f k.getId.toString i.getNat|x=>t x.getId
 return Lean.mkNullNode ((a++b).map (·.raw))
#synth [heap*1625,tree*1624,tree*1582,tree*1505,tree*1419,tree*1253,tree*1338,heap*1,tree*1123,tree*1086,tree*1025,tree*999,tree*933,tree*875,tree*852,tree*773,tree*708,view*1,tree*664,PySem.Challenge.pw_ordersheets_s03_expand,tree*614,tree*592,tree*570,tree*548,tree*526,tree*504,tree*482,tree*460,tree*437,tree*400,tree*377,tree*354,tree*331,tree*308,tree*285,tree*262,tree*239,tree*216,tree*193,sts*1342,sts*774,tree*170,sts*934,sts*1506,sts*1420,sts*1087,tree*147,sts*1126,tree*124,tree*101,sts*876,sts*1583,sts*709,tree*78,sts*615,sts*401,sts*1029,sts*1000,tree*55,sts*665,sts*378,sts*286,sts*240,tree*32,sts*483,sts*355,sts*853,sts*148,sts*194,sts*10,sts*217,sts*332,sts*102,sts*125,sts*438,sts*263,sts*56,sts*309,sts*79,sts*171,sts*593,sts*505,sts*461,sts*549,sts*527,sts*571,sts*33,heap*7,tree*8,env*2]
section
open PySem PySem.W PyProof.Rows
set_option hygiene false
local macro_rules
|`(tactic|o_headS ($_ $k $a $e))=>`(tactic|o_headS ((OS.hook $k $a $e):PySem.W.Hook))
local macro_rules
|`(?hc)=>`(OS.ap Z ?hcc)
|`([0x0])=>`((by kernel_rfl))
|`([0x1])=>`(#[_,FH KX G (by exact rfl)])
|`([0x3])=>`(OS.noAttr (by kernel_rfl))
|`([0x4])=>`(#[by kernel_rfl,by kernel_rfl,by kernel_rfl,by kernel_rfl])
|`([0x5])=>`(#[by exact rfl,by exact rfl,by kernel_rfl,by kernel_rfl])
|`([0x6])=>`(#[by exact rfl,by kernel_rfl,by exact rfl,by kernel_rfl,by kernel_rfl])
|`([0x2])=>`(#[by kernel_rfl,by kernel_rfl,by kernel_rfl,by kernel_rfl,by kernel_rfl])
def OS.Zt:Prop:= ∀ {P:FW}{w:Gx}{K:E1}{mg:FD->Fd E3}{base:GI}{a:OS.bf}(_:OS.aU K mg a) (_:OS.XN K a) (_:OS.zH P w K a.JR OS.dW) (_:OS.Di P w K a.GY OS.dj) (_:OS.zK K a.HV OS.di) (_:OS.mw K a) (_:OS.OdK K a),L2.bU P w K mg base L2.wH 180 a.f_c a.VM ["zones","quarters","low","high","text"] (OS.iL K)
theorem OS.noAttr {K:E1}{C:E4}{f:FD}(h:HF K (.ref C) f=Fa FB):L2.ao K C f:=h
theorem OS.ap {P:Prop}(z:OS.Zt) (h:OS.Zt->P):P:=h z
set_option maxRecDepth 100000 in
set_option maxHeartbeats 0 in
theorem OS.hd (Z:OS.Zt):PySem.Challenge.rw_ordersheets_s03_expand.Holds:=by
 have W:=OS.abA
 w_on;k_headS;(case hw=>exact#[[.int 0, .int 0, .int 0, .int 0, .list []],by decide+kernel,by decide+kernel])
 k_fillS
 intro Z;refine L2.vI (r:=PySem.Challenge.rw_ordersheets_s03_expand) (k:=180) (CX:=L2.wH) (ps:=["zones","quarters","low","high","text"]) (sp:=OS.iL) [00] rfl rfl #[Gc,by decide,by decide] (λw h Y=>OS.Vk Y) ?F ?S (λ_ _ _ _ z=>z)
 case F=>
  intro w mg fa h Y KX G hmg;obtain⟨VM,d_c,akj⟩:=OS.Eu (x:="expand") (st:=OS.s_c) (ps:=["zones","quarters","low","high","text"]) KX G [09] [09] [09] [09] (λ_ _ _ _ _ _ us hl=>OS.u5 hl λ_ _ _ _ _=>[0x0]);have T:OS.aU _ mg ⟨_,_,_,_,_,_,_,_,_,_,_,_,_,_,_,_,_,_,_,_,_,_,_,_,_,_,_,_,_,_,_,_,_,_,_,_,_,_,_,_,_,_,_,_,_,_,_,_,_,_,_,_,_,_,_,_,_,_,_,_,_,_,_,_,_,_,_,_,_,_,_,_,_,_,_,_,_,_,_,_,_,_,_,_,_,_,_,_,_,_,_,_,_,_,_,_,_,_,_,_,_,_,_,_,_,_,_,_,_,_,_,_,_,_,_,_,_,_,_,_,_,_,_,_,_,_,_,_,_,_,_,_,_,_,_,_,_,_,_,_,_,_,_,_,_,_,_,_,_,_,_,_,_,_,_,_,_,_,_,_,_,_,_,_,_,_,_,_,_,_,_,_,_,_,_,_,_,_,_,_,_,_,_,_,_,_,_,_,_,_,_,_,_,_,_,_,_,_,_,_,_,_,_,_,_,_,_,_,_,_,_,_,_,_,_,_,_,_,_,_,_,_,_,_,_,_,_,_,_,_,_,_,_,_,_,_,_,_,_,_,_,_,_,_,_,_,_,_,_,_,_,_,_,_,_,_,_,_,_,_,_,_,_,_,_,_,_,_,_,_,_,_,_,_,_,_,_,_,_,_,_,_,_,_,_,_,_,_,_,_,_,_,_,_,_,_,_,_,_,_,_,_,_,_,_,_,_,_,_,_,_,VM⟩:=#[[006],[006],[006],[006],[006],[006],[006],[006],[006],[006],[006],[006],[006],[006],[006],[006],[006],[006],[006],[006],[006],[006],[006],[006],[006],[006],[006],[006],[006],[006],[006],[006],[006],(OS.aH [0x6] [04]),(OS.aH [0x6] [04]),(OS.aH [0x6] [004]),(OS.aH [0x6] [004]),(OS.aH [0x6] (λ_ _ _ _ _ _ us hl=>OS.u4 hl λ_ _ _ _=>[0x0])),(OS.aH [0x6] (λ_ _ _ _ _ _ us hl=>OS.u4 hl λ_ _ _ _=>[0x0])),(OS.aH [0x6] (λ_ _ _ _ _ _ us hl=>OS.u5 hl λ_ _ _ _ _=>[0x0])),(OS.aH [0x6] [004]),(OS.aH [0x6] (λ_ _ _ _ _ _ us hl=>OS.u5 hl λ_ _ _ _ _=>[0x0])),(OS.aH [0x6] (λ_ _ _ _ _ _ us hl=>OS.u4 hl λ_ _ _ _=>[0x0])),(OS.aH [0x6] (λ_ _ _ _ _ _ us hl=>OS.u7 hl λ_ _ _ _ _ _ _=>[0x0])),(OS.aH [0x6] [004]),(OS.aH [0x6] (λ_ _ _ _ _ _ us hl=>OS.u8 hl λ_ _ _ _ _ _ _ _=>[0x0])),(OS.aH [0x6] [004]),(OS.aH [0x6] (λ_ _ _ _ _ _ us hl=>OS.u4 hl λ_ _ _ _=>[0x0])),(OS.aH [0x6] [004]),(OS.aH [0x6] (λ_ _ _ _ _ _ us hl=>OS.u8 hl λ_ _ _ _ _ _ _ _=>[0x0])),(OS.aH [0x6] (λ_ _ _ _ _ _ us hl=>OS.u8 hl λ_ _ _ _ _ _ _ _=>[0x0])),[009],[009],(OS.aH [0x6] [04]),(OS.aH [0x6] [06]),(OS.aH [0x6] (λ_ _ _ _ _ _ us hl=>OS.u4 hl λ_ _ _ _=>[0x0])),(OS.aH [0x6] [06]),(OS.aH [0x6] [06]),(OS.aH [0x6] [06]),(OS.aH [0x6] [06]),(OS.aH [0x6] [06]),(OS.aH [0x6] [06]),[000],(OS.aC KX G [0x5] [004]),(OS.aC KX G [0x5] [004]),[000],[000],[000],[009],(OS.aH [0x6] [04]),(OS.aH [0x6] [06]),(OS.aH [0x6] [06]),(OS.aH [0x6] [004]),(OS.aH [0x6] [04]),(OS.aH [0x6] [04]),(OS.aH [0x6] [04]),(OS.aH [0x6] [04]),(OS.aC KX G [0x5] [004]),(OS.aC KX G [0x5] [004]),(OS.aC KX G [0x5] [004]),(OS.aC KX G [0x5] [004]),(OS.aC KX G [0x5] [004]),(OS.aC KX G [0x5] [004]),(OS.aC KX G [0x5] [004]),[009],(OS.aC KX G [0x5] [004]),(OS.aC KX G [0x5] [004]),(OS.aC KX G [0x5] [004]),(OS.aH [0x6] (λ_ _ _ _ _ _ us hl=>OS.u5 hl λ_ _ _ _ _=>[0x0])),(OS.aH [0x6] [04]),[000],[000],[000],[000],[000],[000],[000],(OS.aC KX G [0x5] [004]),[000],[000],[000],[000],[000],(OS.aC KX G [0x5] [004]),(OS.aH [0x6] (λ_ _ _ _ _ _ us hl=>OS.u5 hl λ_ _ _ _ _=>[0x0])),[009],[009],[000],[000],[000],[000],(OS.aC KX G [0x5] [004]),[009],[000],[009],(OS.aH [0x6] [04]),(OS.aH [0x6] [06]),(OS.aH [0x6] [04]),(OS.aH [0x6] [04]),(OS.aH [0x6] [06]),(OS.aH [0x6] [06]),(OS.aH [0x6] [06]),(OS.aH [0x6] [06]),(OS.aH [0x6] [06]),(OS.aH [0x6] [04]),(OS.aH [0x6] [04]),(OS.aH [0x6] [06]),(OS.aH [0x6] [06]),(OS.aH [0x6] [04]),(OS.aH [0x6] [04]),(OS.aH [0x6] [04]),[000],[000],[000],(OS.aC KX G [0x5] [004]),[000],[000],[000],[000],[000],[000],[009],[009],[009],[009],[009],[000],[000],[009],[000],[000],[009],[000],[000],[000],[009],[000],[000],[009],[009],[009],[009],[009],[009],(OS.aC KX G [0x5] (λ_ _ _ _ _ _ us hl=>OS.u4 hl λ_ _ _ _=>[0x0])),[009],(OS.aC KX G [0x5] (λ_ _ _ _ _ _ us hl=>OS.u5 hl λ_ _ _ _ _=>[0x0])),[009],[009],d_c,[0x4],[0x4],[0x3],[0x4],[0x4],[0x3],[0x4],[0x4],[0x3],[0x3],[0x4],[0x4],[0x3],[0x3],[0x4],[0x4],[0x3],[0x3],[0x3],[0x4],[0x4],[0x3],[0x3],[0x3],[0x4],[0x4],[0x3],[0x3],[0x3],[0x3],[0x4],[0x4],[0x3],[0x3],[0x4],[0x4],[0x3],[0x3],[0x3],[0x3],[0x4],[0x4],[0x3],[0x3],[0x3],[0x4],[0x4],[0x3],[0x3],[0x3],[0x3],[0x3],[0x3],[0x4],[0x4],[0x3],[0x3],[0x4],[0x4],[0x3],[0x3],[0x3],[0x3],[0x3],[0x3],[0x3],[0x4],[0x4],[0x3],[0x3],[0x4],[0x4],[0x3],[0x3],[0x3],[0x4],[0x4],[0x3],[0x3],[0x4],[0x4],[0x3],[0x3],[0x3],[0x3],[0x3],[0x3],[0x3],[0x4],[0x4],[0x3],[0x3],[0x3],[0x3],[0x3],[0x3],[0x3],[0x4],[0x4],[0x3],[0x3],[0x4],[0x4],[0x3],[0x3],[0x3],[0x3],[0x3],[0x4],[0x4],[0x3],[0x3],[0x3],[0x3],[0x4],[0x4],[0x3],[0x3],[0x3],[0x3],[0x3],[0x4],[0x4],[0x3],[0x3],[0x3],[0x3],[0x4],[0x4],[0x3],[0x3],[0x3],[0x3],[0x3],[0x3],[0x1],[0x1],[0x1],[0x1],[0x1],[0x1],[0x1],[0x1],[0x1],[0x1],[0x1],[0x1],[0x1],[0x1],[0x1],[0x1],[0x1],[0x1],[0x1],[0x1],[006],[006],[0x1],[0x1],[0x1],[0x1],[0x1],[0x1],[0x1],[0x1],[006],[006],[0x1],[006],[0x1],[0x1],[0x1],[0x1],[0x1],[0x1],[0x1],(OS.zU (l:=[9,10,13,32]) [0x0]),(OS.tM (l:=["const","fun","desk","let","for","in","if","then","else","sell","buy","zone","quarter","price","to","amount","block","under","group","sum"]) [0x0]),(Hg KX G [0x0]),(Hg KX G [0x0]),(Hg KX G [0x0]),(Hg KX G [0x0]),(Hg KX G [0x0]),(Hg KX G [0x0]),(Hg KX G [0x0]),(Hg KX G [0x0]),(Hg KX G [0x0]),(Hg KX G [0x0]),(Hg KX G [0x0]),(Hg KX G [0x0])]
  have kS:=OS.Ev T (P:=PySem.Challenge.rw_ordersheets_s03_expand.prog) (w:=w) [0x0] rfl
  have kF:=OS.DE T (P:=PySem.Challenge.rw_ordersheets_s03_expand.prog) (w:=w) [0x0] rfl
  have KT:=OS.Dq T [0x0]
  have XC:=OS.afd T [0x2] (OS.gh KX T.QB T.HG [09] [0x0] [0x0] [0x0] [0x0] [0x0] [09] [0x0] [0x0]) (OS.gh KX T.Nf T.HG [09] [0x0] [0x0] [0x0] [0x0] [0x0] [09] [0x0] [0x0]) (OS.gh KX T.P2 T.HG [09] [0x0] [0x0] [0x0] [0x0] [0x0] [09] [0x0] [0x0]) (OS.gh KX T.Oy T.HG [09] [0x0] [0x0] [0x0] [0x0] [0x0] [09] [0x0] [0x0]) (OS.gh KX T.Oz T.HG [09] [0x0] [0x0] [0x0] [0x0] [0x0] [09] [0x0] [0x0]) (OS.gh KX T.Ng T.HG [09] [0x0] [0x0] [0x0] [0x0] [0x0] [09] [0x0] [0x0]) (OS.gh KX T.P4 T.HG [09] [0x0] [0x0] [0x0] [0x0] [0x0] [09] [0x0] [0x0]) (OS.gh KX T.O0 T.HG [09] [0x0] [0x0] [0x0] [0x0] [0x0] [09] [0x0] [0x0]);cases hmg.symm.trans d_c.c.m;exact#[VM,akj,λbase _ _=>Z T XC kS kF KT (OS.aaa (OS.bV #[T.PB,[0x0],[0x0],[0x0],[0x0]] (OS.bV #[T.Rx,[0x0],[0x0],[0x0],[0x0]] (OS.bV #[T.Qt,[0x0],[0x0],[0x0],[0x0]] (OS.bV #[T.O4,[0x0],[0x0],[0x0],[0x0]] (OS.bV #[T.Ni,[0x0],[0x0],[0x0],[0x0]] (OS.bV #[T.PD,[0x0],[0x0],[0x0],[0x0]] (OS.bV #[T.PF,[0x0],[0x0],[0x0],[0x0]] (OS.bV #[T.Ry,[0x0],[0x0],[0x0],[0x0]] (OS.bV #[T.PH,[0x0],[0x0],[0x0],[0x0]] (OS.bV #[T.So,[0x0],[0x0],[0x0],[0x0]] (OS.bV #[T.Mf,[0x0],[0x0],[0x0],[0x0]] (OS.bV #[T.Kx,[0x0],[0x0],[0x0],[0x0]] (OS.bV #[T.QD,[0x0],[0x0],[0x0],[0x0]] (OS.bV #[T.QF,[0x0],[0x0],[0x0],[0x0]] (OS.bV #[T.RA,[0x0],[0x0],[0x0],[0x0]] OS.AD))))))))))))))) [0x0]) #[#[T.NG,[0x0],[0x0],[0x0],[0x0]],#[T.M3,[0x0],[0x0],[0x0],[0x0]],[0x0],[0x0]]]
 case S=>
  intro K H xs a hO hwi amq hx;cases hx with
  |cons h1 hx=>
  cases hx with
  |cons h2 hx=>
  cases hx with
  |cons h3 hx=>
  cases hx with
  |cons h4 hx=>
  cases hx with
  |cons h5 hx=>
  cases hx;cases h1;cases h2;cases h3;cases h4;cases h5 with
  |lst hs ha=>
   have e:=L2.wN a.2.2.2.2.1 _ ha;subst e
   let I:=Codec.inInt (-1000000000000000000) 1000000000000000000
   have q:(I a.1&&(I a.2.1&&(I a.2.2.1&&(I a.2.2.2.1&&((Codec.inLen 0 4000 a.2.2.2.2.1&&a.2.2.2.2.1.all I)&&FM)))))=FM:=hwi;simp only[GC] at q;exact#[_,_,_,_,_,a.2.2.2.2.1,Gc,hs,(Codec.inNat_iff.mp q.2.2.2.2.1.1).2,λH' p hp=> .lst (L2.cC.of hp) (L2.xw _)]
end

namespace L2
open PySem PySem.Spec PyProof.Rows
theorem zq (i:Int) (t:Tok):jn (.inl i) (.int i t)=FM:=by simp [jn,E3.isInt]
theorem yx (x:FD) (t:Tok):jn (.inr x) (.str x t)=FM:=by simp [jn,OR]
theorem ui (prog:FW) (w:Gx) (i:Int) (t:Tok):(aT prog w).is (.inl i) (.int i t)=FM:=zq i t
theorem su (prog:FW) (w:Gx) (x:FD) (t:Tok):(aT prog w).is (.inr x) (.str x t)=FM:=yx x t
theorem aY.length {xs:EV V}(r:aY xs us):xs.length=us.length:=Q9 r
theorem aY.get: ∀ {xs:EV V}{us:EV E3}{i:Fm}{x:V},aY xs us->xs[i]?=Fa x-> ∃u,us[i]?=Fa u/\bo x u
 |_,_,_,_, .nil,e=>by simp at e
 |_,_,0,_, .cons r _,e=>by simp at e;subst e;exact#[_,Gc,r]
 |_,_,i+1,x, .cons _ t,e=>by
  obtain⟨u,h1,h2⟩:=aY.get (i:=i) (x:=x) t (by simpa using e);exact#[u,by simpa using h1,h2]
theorem aY.append: ∀ {xs ys:EV V}{us ws:EV E3},aY xs us->aY ys ws->aY (xs++ys) (us++ws)
 |_,_,_,_, .nil,s=>s
 |_,_,_,_, .cons r t,s=> .cons r (aY.append t s)
theorem aY.take: ∀ {xs:EV V}{us:EV E3}(n:Fm),aY xs us->aY (xs.take n) (us.take n)
 |_,_,0,_=> .nil
 |_,_,_+1, .nil=> .nil
 |_,_,n+1, .cons r t=> .cons r (aY.take n t)
theorem aY.drop: ∀ {xs:EV V}{us:EV E3}(n:Fm),aY xs us->aY (xs.drop n) (us.drop n)
 |_,_,0,r=>r
 |_,_,_+1, .nil=> .nil
 |_,_,n+1, .cons _ t=>aY.drop n t
def aF (H:Hp) (a:E4) (o:HO):Hp:=λb=>if b=a then Fa o else H b
theorem ae {H:Hp}{a:E4}{o:HO} :aF H a o a=Fa o:=by unfold aF;rw[E7 rfl]
theorem ac {H:Hp}{a b:E4}{o:HO}(h:b≠a):aF H a o b=H b:=by unfold aF;rw[E5 h]
theorem D9 {H:Hp}{a:E4}{o u:HO} :aF (aF H a o) a u=aF H a u:=by
 funext b;unfold aF;split<;>rfl
theorem qa {H:Hp}{a b:E4}{o u:HO}(h:H a=Fa o) (h':H b=Fa u) (d:o≠u):a≠b:=by
 intro e;subst e;rw[h] at h';exact d (Fs h')
theorem aj {H:Hp}{a b:E4}{o:HO}(h:H a=Fa o) (h':H b=FB):a≠b:=by
 intro e;subst e;rw[h] at h';cases h'
section
variable {P:FW}{w:Gx}{H H':Hp}{h h':GI}{a:E4}{o:HO}
theorem cu.lt (x:cu P w H h a o):a<h.objs.size:=by
 cases o with
 |lst xs=>obtain⟨_,_,_,_,e⟩:=x;exact FJ e
 |tup xs=>obtain⟨_,_,_,p⟩:=x;exact p.lt
 |dK aD=>obtain⟨_,_,_,_,o,_,_,e,_⟩:=x;exact FJ e
 |dT aD=>obtain⟨_,_,_,_,o,_,_,e,_⟩:=x;exact FJ e
 |set S n=>obtain⟨o,_,_,_,e,_⟩:=x;exact FJ e
 |ins C dx fs=>obtain⟨_,_,_,e,_⟩:=x;exact FJ e
 |own y=>obtain⟨_,e⟩:=x;exact FJ e
 |xd fs=>obtain⟨_,⟨_,_,_,e,_⟩,_⟩:=x;exact FJ e
 |rng lo hi=>obtain⟨_,_,_,e⟩:=x;exact FJ e
 |Qz ob u=>obtain⟨e,_⟩:=x;exact FJ e
 |Y6 ps=>exact FJ (show h.get? a=Fa _ from x)
 |met f y=>exact FJ (show h.get? a=Fa _ from x)
 |ext φ=>obtain⟨_,⟨_,e⟩,_⟩:=x;exact FJ e
theorem Paired.Np {α β:Type}{F G:α->β->Prop} : ∀ {l₁:EV α}{l₂:EV β},Paired F l₁ l₂->(∀a b,F a b->G a b)->Paired G l₁ l₂
 |_,_, .nil,_=> .nil
 |_,_, .cons r t,f=> .cons (f _ _ r) (Paired.Np t f)
theorem cu.RK (x:cu P w H h a o) (k: ∀b u,(b=a\/H b=Fa (.own a))->h.get? b=Fa u->h'.get? b=Fa u)
  (ho: ∀b,H b=Fa (.own a)->H' b=Fa (.own a)) (ht: ∀b xs,H b=Fa (.tup xs)->H' b=Fa (.tup xs)):cu P w H' h' a o:=by
 induction o with
 |lst xs=>obtain⟨z,Ho,n,r,e⟩:=x;exact#[z,Ho,n,r,k _ _ (.inl rfl) e]
 |tup xs=>obtain⟨z,Ho,r,ob,e,c⟩:=x;exact#[z,Ho,r,ob,k _ _ (.inl rfl) e,c]
 |dK aD=>obtain⟨z,y,vs,r,ob,es,ep,e,c⟩:=x;exact#[z,y,vs,r,ob,es,ep,k _ _ (.inl rfl) e,c]
 |dT aD=>
  obtain⟨z,y,xs,r,ob,es,ep,e,c⟩:=x;exact#[z,y,xs,Paired.Np r λp q z=>#[z.1,ht _ _ z.2.1,z.2.2],ob,es,ep,k _ _ (.inl rfl) e,c]
 |set S n=>obtain⟨ob,es,ep,t,e,c⟩:=x;exact#[ob,es,ep,t,k _ _ (.inl rfl) e,c]
 |ins C dx fs=>
  obtain⟨d,z,ne,e,mA,⟨od,es,ep,e2,c⟩,r⟩:=x;exact#[ho _ d,z,ne,k _ _ (.inl rfl) e,mA,#[od,es,ep,k _ _ (.inr d) e2,c],r]
 |own y=>obtain⟨ob,e⟩:=x;exact#[ob,k _ _ (.inl rfl) e]
 |xd fs=>obtain⟨mA,⟨od,es,ep,e,c⟩,r⟩:=x;exact#[mA,#[od,es,ep,k _ _ (.inl rfl) e,c],r]
 |rng lo hi=>obtain⟨t,u,v,e⟩:=x;exact#[t,u,v,k _ _ (.inl rfl) e]
 |Qz ob u ih=>obtain⟨e,q⟩:=x;exact#[k _ _ (.inl rfl) e,ih q]
 |Y6 ps=>
  have e:h.get? a=Fa { cls:= .none,data:= .fields ps } :=x
  show h'.get? a=Fa { cls:= .none,data:= .fields ps }
  exact k a _ (.inl rfl) e
 |met f y=>
  have e:h.get? a=Fa (OU (.ref f) (.ref y)):=x
  show h'.get? a=Fa (OU (.ref f) (.ref y))
  exact k a _ (.inl rfl) e
 |ext φ=>obtain⟨p,⟨o,e⟩,st⟩:=x;exact#[st _ _ p λo q=>k _ _ (.inl rfl) q,#[o,k _ _ (.inl rfl) e],st]
theorem ia.lt (x:ia P w H h) (e:H a=Fa o):a<h.objs.size:=(x a o e).lt
theorem ia.fresh (x:ia P w H h) (e:h.objs.size<=a):H a=FB:=by
 cases q:H a with
 |none=>rfl
 |some u=>exact Fv (FQ (x.lt q) e) (HL _)
theorem ia.kept (x:ia P w H h) (k: ∀b u,h.get? b=Fa u->h'.get? b=Fa u):ia P w H h':=λa o e=>
 (x a o e).RK (λb u _ q=>k b u q) [05] λ_ _ q=>q
theorem ia.laid (x:ia P w H h) (k: ∀b u,h.get? b=Fa u->h'.get? b=Fa u) (hp:h.objs.size<=a) (new:cu P w (aF H a o) h' a o):ia P w (aF H a o) h':=λb u e=>by
 have hn:=x.fresh hp;by_cases hb:b=a
 ·subst hb;rw[ae] at e;cases e;exact new
 ·rw[ac hb] at e
  exact(x b u e).RK (λc v _ q=>k c v q) (λc q=>by rw[ac (aj q hn)];exact q) λc xs q=>by rw[ac (aj q hn)];exact q
end
def eU:Fd HO->Prop
 |some (.lst _)=>True
 |some (.dK _)=>True
 |some (.dT _)=>True
 |some (.set _ _)=>True
 |some (.ins _ _ _)=>True
 |some (.ext _)=>True
 |_=>False
section
variable {P:FW}{w:Gx}{H:Hp}{h h':GI}{x e:E4}{o':HO}
theorem ia.write (ok:ia P w H h) (mu:eU (H x)) (he:e=x\/H e=Fa (.own x)) (k: ∀b u,b≠e->h.get? b=Fa u->h'.get? b=Fa u) (heo: ∃u,h'.get? e=Fa u)
  (new:cu P w (aF H x o') h' x o'):ia P w (aF H x o') h':=λb u q=>by
 have afe: ∀c y,H c=Fa (.own y)->c≠x:=λc y r z=>by subst z;rw[r] at mu;exact mu
 have akk: ∀c xs,H c=Fa (.tup xs)->c≠x:=λc xs r z=>by subst z;rw[r] at mu;exact mu
 by_cases hb:b=x
 ·subst hb;rw[ae] at q;cases q;exact new
 ·rw[ac hb] at q
  by_cases hbe:b=e
  ·have q':H b=Fa (.own x):=by
    rcases he with z|z
    ·exact Fv (hbe.trans z) hb
    ·rw[hbe];exact z
   rw[q] at q';cases q';obtain⟨v,hv⟩:=heo;exact#[v,by rw[hbe];exact hv]
  ·refine(ok b u q).RK (λc v hc r=>k c v ?_ r) (λc r=>by rw[ac (afe c b r)];exact r) λc xs r=>by rw[ac (akk c xs r)];exact r
   rcases hc with rfl|hc
   ·exact hbe
   ·rintro rfl
    rcases he with z|z
    ·exact afe c b hc z
    ·rw[hc] at z;cases z;exact hb rfl
end
section
variable {fs fs' ex ex':EV E4}{H H1 H2:Hp}{h h1 h2 h':GI}{a x e:E4}{o:HO}
theorem Un.any (u:Un fs ex H H1 h h1) {b:E4}(q:h.get? b=Fa ob) (n:H b=FB) (hx:b∉ex): ∃sl,h1.get? b=Fa { ob with slots:=sl } :=by
 by_cases hb:b∈fs
 ·exact u.slot b ob q n hb hx
 ·exact#[ob.slots,u.keep b ob q n hb hx]
theorem Un.kept (k: ∀b u,h.get? b=Fa u->h'.get? b=Fa u):Un fs ex H H h h':=
 #[λb ob q _ _ _=>k b ob q,λb ob q _ _ _=>#[ob.slots,k b ob q],λ_ _ _ n _=>n,λb ob q _=>#[ob,k b ob q],λ_ _ q=>q,λ_ _ _ q=>q,λ_ ps q=>#[[].toArray,by rw[q];simp]]
theorem Un.refl:Un fs ex H H h h:=Un.kept λ_ _ q=>q
theorem Un.laid (k: ∀b u,h.get? b=Fa u->h'.get? b=Fa u) (hp:h.objs.size<=a) (hn:H a=FB):Un fs ex H (aF H a o) h h' where
 keep:=λb u q _ _ _=>k b u q
 slot:=λb u q _ _ _=>#[u.slots,k b u q]
 free:=λb u q n _=>by rw[ac (GQ (FQ (FJ q) hp))];exact n
 there:=λb u q _=>#[u,k b u q]
 QX:=λb xs q=>by rw[ac (aj q hn)];exact q
 QA:=λb u xs q=>by rw[ac (aj q hn)];exact q
 QY:=λb ps q=>#[[].toArray,by rw[ac (aj q hn),q];simp]
theorem Un.write (mu:eU (H x)) (he:e=x\/H e=Fa (.own x)) (k: ∀b u,b≠e->h.get? b=Fa u->h'.get? b=Fa u) (heo: ∃u,h'.get? e=Fa u):Un fs ex H (aF H x o) h h':=by
 have hx: ∀b,H b=FB->b≠x:=λb n z=>by subst z;rw[n] at mu;exact mu
 have hb: ∀b,H b=FB->b≠e:=λb n z=>by
  subst z;rcases he with r|r
  ·exact hx b n r
  ·rw[n] at r;cases r
 have hm: ∀b u,H b=Fa u-> ¬eU (Fa u)->b≠x:=λb u q nm z=>by subst z;rw[q] at mu;exact nm mu
 refine#[λb u q n _ _=>k b u (hb b n) q,λb u q n _ _=>#[u.slots,k b u (hb b n) q],λb u q n _=>by rw[ac (hx b n)];exact n,λb u q _=>?_,
  λb xs q=>by rw[ac (hm b _ q λz=>z)];exact q,λb u xs q=>by rw[ac (hm b _ q λz=>z)];exact q,λb ps q=>#[[].toArray,by rw[ac (hm b _ q λz=>z),q];simp]]
 by_cases hbe:b=e
 ·subst hbe;exact heo
 ·exact#[u,k b u hbe q]
end
structure Cx where
 prog:FW
 w:Gx
 K:E1
 mg:FD->Fd E3
 base:GI
 A:GG
 N:EV FD
 Pz:E8
 H_0:Hp
 env:Env
 outer:EV Env
 stack:EV Env
 ex:EV E4
 fn:FD->Gg
 calm:Gg
 pn:EV (E4×IG)
 xe:E3->E8->Prop
abbrev Cx.fs (X:Cx):EV E4:=rG X.outer
def oS (sc:Scope) (x:FD):Prop:=sc.names.lookup x=Fa .local\/sc.names.lookup x=Fa .cell\/sc.names.lookup x=Fa .free
def Loc (sc:Scope) (x:FD):Prop:=sc.names.lookup x=Fa .local\/sc.names.lookup x=Fa .cell
def Look (env:Env) (h:GI) (m:FD->Fd E3) (x:FD) (u:E3):Prop:=
 (env.kindOf x=Fa .local/\m x=Fa u)\/((env.kindOf x=Fa .cell\/env.kindOf x=Fa .free)/\ ∃c,env.cells.lookup x=Fa c/\h.IsCell c (Fa u))
structure Cx.Ok (X:Cx):Prop where
 mod:Mod X.K X.mg X.base
 kind:X.env.scope.kind= .function
 glob:X.env.globals=Jc
 blt:X.env.builtins=YR
 above:X.Pz.heap.objs.size<=X.env.locals
 inj: ∀x y c,X.env.cells.lookup x=Fa c->X.env.cells.lookup y=Fa c->x=y
 has: ∀x,(X.env.kindOf x=Fa .cell\/X.env.kindOf x=Fa .free)-> ∃c,X.env.cells.lookup x=Fa c
 XS: ∀x c,X.fn x=FM->X.env.cells.lookup x=Fa c->X.Pz.heap.objs.size<=c
 hd:X.calm=FM->X.A.handled=FB
 frames:X.A.frames=Fa X.stack
 XU:X.stack=X.outer\/(X.stack=X.env::X.outer/\X.env.frame=Fa X.env.locals)
 exf: ∀b∈X.ex,b≠X.env.locals/\ ∀x c,X.env.cells.lookup x=Fa c->c≠b
 bs: ∀b o,X.base.get? b=Fa o->X.Pz.heap.get? b=Fa o/\X.H_0 b=FB
 UO:X.base.objs.size<=X.Pz.heap.objs.size
 Sy: ∀b o,X.base.get? b=Fa o->b∉X.ex
 SA: ∀b∈X.ex,b∉X.fs
 funs:X.Pz.heap.FunFrames X.base X.outer
 Wn: ∀b∈X.fs,X.H_0 b=FB
structure aE (X:Cx) (pins:EV (E4×IG)) (σ:EV (Fd V)) (H:Hp) (s:E8):Prop where
 ok:X.Ok
 os:s.os=X.Pz.os
 bare:PX s.gens
 base:Un X.fs X.ex X.H_0 H X.Pz.heap s.heap
 loc: ∃m,s.heap.Ns X.env.locals m/\ ∀(i:Fm) (x:FD) (v:V),X.N[i]?=Fa x->σ[i]?=Fa (Fa v)->oS X.env.scope x-> ∃u,bo v u/\Look X.env s.heap m x u
 cell: ∀x c,X.env.cells.lookup x=Fa c-> ∃v,s.heap.IsCell c v
 free:H X.env.locals=FB
 Mb: ∀x c,X.env.cells.lookup x=Fa c->H c=FB
 pin: ∀p∈X.pn++pins,s.heap.get? p.1=Fa p.2/\H p.1=FB/\p.1≠X.env.locals/\p.1∉X.fs/\ ∀v,p.2.data≠ .cell v
 Ic:ia X.prog X.w H s.heap
 len:σ.length=X.N.length
section
variable {X:Cx}{pins:EV (E4×IG)}{σ:EV (Fd V)}{H H':Hp}{s:E8}{h':GI}
theorem Cx.Ok.akl (ok:X.Ok) {b:E4}{o:IG}(e:X.base.get? b=Fa o):b∉X.fs:=λhb=>by
 have:=(ok.funs.mem hb).1;rw[e] at this;cases this
theorem aE.bs (I:aE X pins σ H s): ∀b o,X.base.get? b=Fa o->s.heap.get? b=Fa o/\H b=FB:=λb o e=>
 #[I.base.keep b o (I.ok.bs b o e).1 (I.ok.bs b o e).2 (I.ok.akl e) (I.ok.Sy b o e),I.base.free b o (I.ok.bs b o e).1 (I.ok.bs b o e).2 (I.ok.Sy b o e)]
theorem aE.bk (I:aE X pins σ H s): ∀b o,X.base.get? b=Fa o->s.heap.get? b=Fa o:=λb o e=>(I.bs b o e).1
theorem aE.mod (I:aE X pins σ H s):Mod X.K X.mg X.base:=I.ok.mod
theorem aE.Nq (I:aE X pins σ H s):X.K.In s.heap:=I.ok.mod.Vk.keeps I.bk
theorem aE.fr (I:aE X pins σ H s): ∃m,Fr X.base X.env.locals s.heap m:=
 let ⟨m,hn,_⟩:=I.loc
 #[m,hn,I.bk,FA I.ok.UO I.ok.above]
theorem aE.lt (I:aE X pins σ H s):X.env.locals<s.heap.objs.size:=let ⟨_,hn,_⟩:=I.loc;hn.lt
theorem aE.sz (I:aE X pins σ H s):X.Pz.heap.objs.size<=s.heap.objs.size:=FA I.ok.above (Kt I.lt)
theorem aE.akm (I:aE X pins σ H s) {a:E4}(h:s.heap.objs.size<=a):a∉X.fs:=λhb=>by
 obtain⟨_,o,ho,_⟩:=I.ok.funs.mem hb;exact Fv (FQ (FJ ho) (FA I.sz h)) (HL _)
theorem aE.XX (I:aE X pins σ H s): ∀x c,X.env.cells.lookup x=Fa c->c≠X.env.locals:=λx c e z=>by
 obtain⟨v,o,ho,hd⟩:=I.cell x c e;obtain⟨m,⟨o',es,ep,Ri,Xe,_⟩,_⟩:=I.loc;rw[z,Ri] at ho;cases ho;rw[Xe] at hd;cases hd
theorem aE.funs (I:aE X pins σ H s):s.heap.FunFrames X.base X.outer:=by
 have all: ∀(l:EV Env),(∀b∈rG l,b∈X.fs)->X.Pz.heap.FunFrames X.base l->s.heap.FunFrames X.base l:=by
  intro l
  induction l with
  |nil=>intro _ _;trivial
  |cons env r ih=>
   intro hs hl;obtain⟨hk,⟨L,o,hf,hn,ho,hd⟩,hr⟩:=hl;have hL:L∈X.fs:=hs L (by unfold rG;rw[Kz,hf];exact Fb);obtain⟨sl,e⟩:=I.base.slot L o ho (I.ok.Wn L hL) hL λz=>I.ok.SA L z hL;exact#[hk,#[L,_,hf,hn,e,hd],ih (λb hb=>hs b (by unfold rG;rw[Kz,hf];exact E9 _ hb)) hr]
 exact all X.outer (λ_ hb=>hb) I.ok.funs
theorem aE.stack (I:aE X pins σ H s):s.heap.FunFrames X.base X.stack:=by
 rcases I.ok.XU with e|⟨e,hf⟩
 ·rw[e];exact I.funs
 ·rw[e]
  obtain⟨m,hn,_⟩:=I.loc;refine .cons (by rw[I.ok.kind];decide) hf hn ?_ I.funs;exact GI.get?_none_of_le (FA I.ok.UO I.ok.above)
theorem aE.RL (I:aE X pins σ H s): ∀b∈rG X.stack,b∈X.env.locals::X.fs:=λb hb=>by
 rcases I.ok.XU with e|⟨e,hf⟩
 ·rw[e] at hb;exact E9 _ hb
 ·rw[e] at hb
  unfold rG at hb;rw[Kz,hf] at hb;exact hb
theorem aE.Qu (I:aE X pins σ H s): ∀b∈rG X.stack,H b=FB:=λb hb=>by
 rcases Fi.mp (I.RL b hb) with e|hb
 ·rw[e];exact I.free
 ·obtain⟨_,o,ho,_⟩:=I.ok.funs.mem hb
  exact I.base.free b o ho (I.ok.Wn b hb) λz=>I.ok.SA b z hb
theorem aE.step {g':Jk QV}{t':Fm}{d':Drawn}{ch:EV E4}(I:aE X pins σ H s)
  (TF: ∀b∈ch,(b∈X.ex\/X.Pz.heap.objs.size<=b)/\b≠X.env.locals/\(∀x c,X.env.cells.lookup x=Fa c->c≠b)/\ ∀p∈X.pn++pins,p.1≠b)
  (keep: ∀b o,b≠X.env.locals->b∉X.fs->b∉ch->s.heap.get? b=Fa o->H b=FB->h'.get? b=Fa o)
  (slot: ∀b o,b≠X.env.locals->b∈X.fs->b∉ch->s.heap.get? b=Fa o->H b=FB-> ∃sl,h'.get? b=Fa { o with slots:=sl }) (free: ∀b o,b∉ch->s.heap.get? b=Fa o->H b=FB->H' b=FB)
  (there: ∀b o,b∉ch->s.heap.get? b=Fa o-> ∃o',h'.get? b=Fa o')
  (QX: ∀b xs,H b=Fa (.tup xs)->H' b=Fa (.tup xs)) (QA: ∀b o u,H b=Fa (.Qz o u)->H' b=Fa (.Qz o u)) (QY: ∀b ps,H b=Fa (.Y6 ps)-> ∃more,H' b=Fa (.Y6 (ps++more)))
  (ns: ∀m,s.heap.Ns X.env.locals m->h'.Ns X.env.locals m) (Ic:ia X.prog X.w H' h') (hg:PX g'):
  aE X pins σ H' { s with heap:=h',gens:=g',drawn:=d',toks:=t' } :=by
 have neL: ∀b o,X.Pz.heap.get? b=Fa o->b≠X.env.locals:=λb o e=>GQ (FQ (FJ e) I.ok.above)
 have neC: ∀b o,X.Pz.heap.get? b=Fa o->b∉X.ex->b∉ch:=λb o e hx hb=>by
  rcases(TF b hb).1 with z|z
  ·exact hx z
  ·exact Fv (FQ (FJ e) z) (HL _)
 have cellK: ∀x c,X.env.cells.lookup x=Fa c-> ∀v,s.heap.IsCell c v->h'.IsCell c v:=λx c e v ⟨o,ho,hd⟩=>by
  have nch:c∉ch:=λz=>(TF c z).2.2.1 x c e rfl
  by_cases hc:c∈X.fs
  ·obtain⟨sl,q⟩:=slot c o (I.XX x c e) hc nch ho (I.Mb x c e)
   exact#[_,q,hd]
  ·exact#[o,keep c o (I.XX x c e) hc nch ho (I.Mb x c e),hd]
 refine#[I.ok,I.os,hg,#[λb o e n hb hx=>?_,λb o e n hb hx=>?_,λb o e n hx=>?_,λb o e hx=>?_,λb xs e=>QX b xs (I.base.QX b xs e),λb o xs e=>QA b o xs (I.base.QA b o xs e),λb ps e=>?_],?_,λx c e=>?_,?_,λx c e=>?_,λp hp=>?_,Ic,I.len]
 ·exact keep b o (neL b o e) hb (neC b o e hx) (I.base.keep b o e n hb hx) (I.base.free b o e n hx)
 ·obtain⟨sl,e1⟩:=I.base.slot b o e n hb hx
  obtain⟨sl',e2⟩:=slot b _ (neL b o e) hb (neC b o e hx) e1 (I.base.free b o e n hx);exact#[sl',e2]
 ·obtain⟨o',e1⟩:=I.base.there b o e hx
  exact free b o' (neC b o e hx) e1 (I.base.free b o e n hx)
 ·obtain⟨o',e1⟩:=I.base.there b o e hx
  exact there b o' (neC b o e hx) e1
 ·obtain⟨m1,e1⟩:=I.base.QY b ps e
  obtain⟨m2,e2⟩:=QY b _ e1;exact#[m1++m2,by rw[e2,Jk.append_assoc]]
 ·obtain⟨m,hn,hl⟩:=I.loc
  refine#[m,ns m hn,λi x v e1 e2 e3=>?_];obtain⟨u,r,l⟩:=hl i x v e1 e2 e3;refine#[u,r,?_];rcases l with l|⟨k,c,e,z⟩
  ·exact .inl l
  ·exact .inr #[k,c,e,cellK x c e _ z]
 ·obtain⟨v,z⟩:=I.cell x c e
  exact#[v,cellK x c e v z]
 ·obtain⟨m,⟨o,_,_,ho,_⟩,_⟩:=I.loc
  exact free _ o (λz=>(TF _ z).2.1 rfl) ho I.free
 ·obtain⟨v,o,ho,hd⟩:=I.cell x c e
  exact free c o (λz=>(TF c z).2.2.1 x c e rfl) ho (I.Mb x c e)
 ·obtain⟨e,n,ne,nf,d⟩:=I.pin p hp
  have nch:p.1∉ch:=λz=>(TF p.1 z).2.2.2 p hp rfl
  exact#[keep p.1 p.2 ne nf nch e n,free p.1 p.2 nch e n,ne,nf,d]
theorem aE.un {t':Fm}(I:aE X pins σ H s) (u:Un X.fs [] H H' s.heap h') (Ic:ia X.prog X.w H' h'):aE X pins σ H' { s with heap:=h',toks:=t' } :=by
 obtain⟨m,⟨o,es,ep,ho,r⟩,_⟩:=id I.loc;obtain⟨sl,hL⟩:=u.any ho I.free (by simp);exact I.step (g':=s.gens) (d':=s.drawn) (ch:=[]) (λ_ z=>nomatch z) (λb o _ hb _ e n=>u.keep b o e n hb (by simp)) (λb o _ hb _ e n=>u.slot b o e n hb (by simp)) (λb o _ e n=>u.free b o e n (by simp)) (λb o _ e=>u.there b o e (by simp)) u.QX u.QA u.QY (λm' hm=>by
  obtain⟨o',es',ep',Ri,r'⟩:=hm;rw[ho] at Ri;cases Ri;exact#[_,es',ep',hL,r']) Ic I.bare
theorem aE.call {g':Jk QV}{t':Fm}{d':Drawn}{ch:EV E4}(I:aE X pins σ H s) (u:Un (rG X.stack) ch H H' s.heap h') (Ic:ia X.prog X.w H' h') (hg:PX g')
  (TF: ∀b∈ch,(b∈X.ex\/X.Pz.heap.objs.size<=b)/\b≠X.env.locals/\(∀x c,X.env.cells.lookup x=Fa c->c≠b)/\ ∀p∈X.pn++pins,p.1≠b):
  aE X pins σ H' { s with heap:=h',gens:=g',drawn:=d',toks:=t' } :=by
 obtain⟨m,⟨o,es,ep,ho,r⟩,_⟩:=id I.loc;obtain⟨sl,hL⟩:=u.any ho I.free λz=>(TF _ z).2.1 rfl;exact I.step (ch:=ch) TF (λb o hL hb hc e n=>u.keep b o e n (λz=>(Fi.mp (I.RL b z)).elim hL hb) hc) (λb o _ _ hc e n=>u.any e n hc) (λb o hc e n=>u.free b o e n hc) (λb o hc e=>u.there b o e hc) u.QX u.QA u.QY (λm' hm=>by
  obtain⟨o',es',ep',Ri,r'⟩:=hm;rw[ho] at Ri;cases Ri;exact#[_,es',ep',hL,r']) Ic hg
theorem aE.turned {t':Fm}{it:E4}(I:aE X pins σ H s) (k: ∀b o,b≠it->s.heap.get? b=Fa o->h'.get? b=Fa o) (hn:H it=FB) (hL:it≠X.env.locals)
  (h1:it∈X.ex\/X.Pz.heap.objs.size<=it) (h2: ∀x c,X.env.cells.lookup x=Fa c->c≠it) (h3: ∀p∈X.pn++pins,p.1≠it):aE X pins σ H { s with heap:=h',toks:=t' } :=by
 have nit: ∀b u,H b=Fa u->b≠it:=λb u e z=>by rw[z,hn] at e;cases e
 refine I.step (g':=s.gens) (d':=s.drawn) (ch:=[it]) (λb hb=>?_) (λb o _ _ hc e _=>k b o (λz=>hc (by simp [z])) e) (λb o _ _ hc e _=>#[o.slots,k b o (λz=>hc (by simp [z])) e]) (λ_ _ _ _ n=>n)
  (λb o hc e=>#[o,k b o (λz=>hc (by simp [z])) e]) (λ_ _ e=>e) (λ_ _ _ e=>e) (λb ps e=>#[[].toArray,by rw[e];simp]) (λm hm=>?_) (λb u e=>?_) I.bare
 ·have e:b=it:=by simpa using hb
  subst e;exact#[h1,hL,h2,h3]
 ·obtain⟨o,es,ep,ho,r⟩:=hm
  exact#[o,es,ep,k _ o (Iu hL) ho,r]
 ·refine(I.Ic b u e).RK (λc v hc q=>k c v ?_ q) [05] λ_ _ q=>q
  rcases hc with z|z
  ·rw[z];exact nit b u e
  ·exact nit c _ z
theorem aE.tok (I:aE X pins σ H s) (t:Fm):aE X pins σ H { s with toks:=t } :=I.un (h':=s.heap) (t':=t) Un.refl I.Ic
theorem aE.kept (I:aE X pins σ H s) (k: ∀b u,s.heap.get? b=Fa u->h'.get? b=Fa u):aE X pins σ H { s with heap:=h',toks:=t' } :=I.un (Un.kept k) (I.Ic.kept k)
theorem aE.laid {a:E4}{o:HO}(I:aE X pins σ H s) (k: ∀b u,s.heap.get? b=Fa u->h'.get? b=Fa u) (hp:s.heap.objs.size<=a) (new:cu X.prog X.w (aF H a o) h' a o):
  aE X pins σ (aF H a o) { s with heap:=h',toks:=t' } :=I.un (Un.laid k hp (I.Ic.fresh hp)) (I.Ic.laid k hp new)
theorem aE.write {x e:E4}{o:HO}(I:aE X pins σ H s) (mu:eU (H x)) (he:e=x\/H e=Fa (.own x)) (k: ∀b u,b≠e->s.heap.get? b=Fa u->h'.get? b=Fa u) (heo: ∃u,h'.get? e=Fa u)
  (new:cu X.prog X.w (aF H x o) h' x o):aE X pins σ (aF H x o) { s with heap:=h',toks:=t' } :=I.un (Un.write mu he k heo) (I.Ic.write mu he k heo new)
theorem aE.weak (I:aE X pins σ H s) (hl:σ'.length=σ.length) (w: ∀(i:Fm) v,σ'[i]?=Fa (Fa v)->σ[i]?=Fa (Fa v)):aE X pins σ' H s:=
 #[I.ok,I.os,I.bare,I.base,let ⟨m,hn,hl'⟩:=I.loc;#[m,hn,λi x v e1 e2 e3=>hl' i x v e1 (w i v e2) e3],I.cell,I.free,I.Mb,I.pin,I.Ic,hl.trans I.len]
theorem aE.Uk (I:aE X pins σ H s) (h: ∀p∈Ul,s.heap.get? p.1=Fa p.2/\H p.1=FB/\p.1≠X.env.locals/\p.1∉X.fs/\ ∀v,p.2.data≠ .cell v):aE X Ul σ H s:=
 #[I.ok,I.os,I.bare,I.base,I.loc,I.cell,I.free,I.Mb,λp hp=>(FK.mp hp).elim (λz=>I.pin p (LX _ z)) (h p),I.Ic,I.len]
theorem nY {N:EV FD}(hN:N.Nodup) {i j:Fm}{x:FD}(a:N[i]?=Fa x) (b:N[j]?=Fa x):i=j:=by
 obtain⟨h1,e1⟩:=FZ.mp a;obtain⟨h2,e2⟩:=FZ.mp b;exact(EV.getElem_inj hN).mp (e1.trans e2.symm)
theorem yP {M:Model}{A:GG}{E:E3->E8->Prop}{i:Fm}{x:FD}{v:V}{u:E3}{Q:MZ->E8->Prop}(I:aE X pins σ H s) (hN:X.N.Nodup) (hi:X.N[i]?=Fa x) (hx:Loc X.env.scope x) (r:bo v u)
  (h: ∀s',aE X pins (σ.set i (Fa v)) H s'->(∃a,My a s.heap s'.heap/\(a=X.env.locals\/X.env.cells.lookup x=Fa a))->Q () s') (hf:X.fn x=FM\/X.env.scope.names.lookup x=Fa .local:=by first|exact .inl rfl|exact .inr rfl|assumption):FG M A (storeName X.env x u) Q E s:=by
 obtain⟨m,hn,hl⟩:=id I.loc;have aab:(X.env.scope.kind == .class||(X.env.scope.kind == .module&&X.env.locals !=X.env.globals))=FS:=by rw[I.ok.kind];rfl
 have hiσ:i<σ.length:=by rw[I.len];exact(FZ.mp hi).1
 have XX:=I.XX
 have tracked: ∀ {a:E4}{h':GI},(∃o,s.heap.get? a=Fa o/\H a=FB)->My a s.heap h'->ia X.prog X.w H h':=λ{a h'} ha hs b ob e=>by
  obtain⟨_,_,Rj⟩:=ha;refine(I.Ic b ob e).RK (λc w' hc q=>(hs.2 c ?_).trans q) [05] λ_ _ q=>q;rintro rfl;rcases hc with rfl|hc
  ·rw[Rj] at e;cases e
  ·rw[Rj] at hc;cases hc
 rcases hx with hk|hk
 ·refine wpAny_storeName_local hk hn (λh' XY hs=>?_) aab
  obtain⟨oL,_,_,hoL,_⟩:=id hn;refine h _ #[I.ok,I.os,I.bare,#[λb o e n hb hx=>?_,λb o e n hb hx=>?_,I.base.free,λb o e hx=>?_,I.base.QX,I.base.QA,I.base.QY],#[_,XY,λj y v' e1 e2 e3=>?_],λy c e=>?_,I.free,I.Mb,λp hp=>?_,tracked #[oL,hoL,I.free] hs,by simpa using I.len] #[_,hs, .inl rfl]
  ·exact(hs.2 b (GQ (FQ (FJ e) I.ok.above))).trans (I.base.keep b o e n hb hx)
  ·obtain⟨sl,e1⟩:=I.base.slot b o e n hb hx
   exact#[sl,(hs.2 b (GQ (FQ (FJ e) I.ok.above))).trans e1]
  ·obtain⟨o',e1⟩:=I.base.there b o e hx
   exact#[o',(hs.2 b (GQ (FQ (FJ e) I.ok.above))).trans e1]
  ·by_cases hj:j=i
   ·subst hj
    rw[hi] at e1;cases e1;rw[NS hiσ] at e2;cases e2;exact#[u,r, .inl #[hk,by simp]]
   ·rw[Oq (Iu hj)] at e2
    obtain⟨u',r',q⟩:=hl j y v' e1 e2 e3;refine#[u',r',?_];rcases q with⟨k,e⟩|⟨k,c,e,z⟩
    ·refine .inl #[k,?_]
     have:y≠x:=λe=>hj (nY hN e1 (e▸hi))
     simp [this,e]
    ·exact .inr #[k,c,e,z.sameBut hs (XX y c e)]
  ·obtain⟨w',z⟩:=I.cell y c e
   exact#[w',z.sameBut hs (XX y c e)]
  ·obtain⟨e,n,ne,nf,d⟩:=I.pin p hp
   exact#[(hs.2 p.1 ne).trans e,n,ne,nf,d]
 ·have Um:X.fn x=FM:=by
   rcases hf with z|z
   ·exact z
   ·rw[z] at hk;cases hk
  obtain⟨c,hc⟩:=I.ok.has x (.inl hk);obtain⟨w',z⟩:=I.cell x c hc;refine wpAny_storeName_cell I.ok.kind hk hc z (λh' Wt hs=>?_);obtain⟨oc,hoc,akn⟩:=id z;refine h { s with heap:=h' } #[I.ok,I.os,I.bare,#[λb o e n hb hx=>?_,λb o e n hb hx=>?_,I.base.free,λb o e hx=>?_,I.base.QX,I.base.QA,I.base.QY],#[m,hn.sameBut hs (Iu (XX x c hc)),λj y v' e1 e2 e3=>?_],λy c' e=>?_,I.free,I.Mb,λp hp=>?_,tracked #[oc,hoc,I.Mb x c hc] hs,by simpa using I.len] #[c,hs, .inr hc]
  ·exact(hs.2 b (GQ (FQ (FJ e) (I.ok.XS x c Um hc)))).trans (I.base.keep b o e n hb hx)
  ·obtain⟨sl,e1⟩:=I.base.slot b o e n hb hx
   exact#[sl,(hs.2 b (GQ (FQ (FJ e) (I.ok.XS x c Um hc)))).trans e1]
  ·obtain⟨o',e1⟩:=I.base.there b o e hx
   exact#[o',(hs.2 b (GQ (FQ (FJ e) (I.ok.XS x c Um hc)))).trans e1]
  ·by_cases hj:j=i
   ·subst hj
    rw[hi] at e1;cases e1;rw[NS hiσ] at e2;cases e2;exact#[u,r, .inr #[.inl hk,c,hc,Wt]]
   ·rw[Oq (Iu hj)] at e2
    obtain⟨u',r',q⟩:=hl j y v' e1 e2 e3;refine#[u',r',?_];rcases q with q|⟨k,c',e,z'⟩
    ·exact .inl q
    ·refine .inr #[k,c',e,z'.sameBut hs ?_]
     rintro rfl;exact hj (nY hN e1 (I.ok.inj _ _ _ e hc▸hi))
  ·by_cases hcc:c'=c
   ·subst hcc;exact#[_,Wt]
   ·obtain⟨w2,z2⟩:=I.cell y c' e
    exact#[w2,z2.sameBut hs hcc]
  ·obtain⟨e,n,ne,nf,d⟩:=I.pin p hp
   refine#[(hs.2 p.1 ?_).trans e,n,ne,nf,d];intro q;rw[q,hoc] at e;have q':oc=p.2:=Fs e;exact d w' (by rw[<-q'];exact akn)
theorem jN {A:GG}{E:E3->E8->Prop}{i:Fm}{x:FD}{v:V}{u:E3}{Q:MZ->E8->Prop}(I:aE X pins σ H s) (hN:X.N.Nodup) (hi:X.N[i]?=Fa x) (hx:Loc X.env.scope x) (r:bo v u)
  (h: ∀s',aE X pins (σ.set i (Fa v)) H s'->Q () s') (hf:X.fn x=FM\/X.env.scope.names.lookup x=Fa .local:=by first|exact .inl rfl|exact .inr rfl|assumption):FG M A (storeName X.env x u) Q E s:=
 yP I hN hi hx r (λs' I' _=>h s' I') hf
theorem aE.V3 {s':E8}(I:aE X pins σ H s) (ho:s'.os=s.os) (u:Un (rG X.stack) ch H H' s.heap s'.heap) (Ic:ia X.prog X.w H' s'.heap) (hg:PX s'.gens)
  (TF: ∀b∈ch,(b∈X.ex\/X.Pz.heap.objs.size<=b)/\b≠X.env.locals/\(∀x c,X.env.cells.lookup x=Fa c->c≠b)/\ ∀p∈X.pn++pins,p.1≠b):aE X pins σ H' s':=by
 obtain⟨h',g',d',t',o'⟩:=s';have e:o'=s.os:=ho;subst e;exact I.call (g':=g') (t':=t') (d':=d') u Ic hg TF
end
abbrev St:=EV (Fd V)
abbrev TE:=St->Hp->VK->Prop
abbrev TT:=St->Hp->(Gg->Hp->Prop)->Prop
abbrev TA:=St->Hp->(EV V->Hp->Prop)->Prop
structure d8 where
 nx:St->Hp->Prop
 rt:VK
 bk:St->Hp->Prop:=λ_ _=>False
 ct:St->Hp->Prop:=λ_ _=>False
abbrev TS:=d8->St->Hp->Prop
inductive EP (X:Cx) (pins:EV (E4×IG)) (σ:St) (Q:VK) (u:E3) (s':E8):Prop
 |mk (v:V) (H':Hp) (_:aE X pins σ H' s') (_:bo v u) (_:Q v H'):EP X pins σ Q u s'
def TP (X:Cx) (pins:EV (E4×IG)) (σ:St) (Q:Gg->Hp->Prop) (b:Gg) (s':E8):Prop:= ∃H',aE X pins σ H' s'/\Q b H'
inductive AP (X:Cx) (pins:EV (E4×IG)) (σ:St) (Q:EV V->Hp->Prop) (us:EV E3) (s':E8):Prop
 |mk (vs:EV V) (H':Hp) (_:aE X pins σ H' s') (_:aY vs us) (_:Q vs H'):AP X pins σ Q us s'
def SP (X:Cx) (pins:EV (E4×IG)) (D:d8) (f:Flow) (s':E8):Prop:=
 match f with
 | .next=> ∃σ' H',aE X pins σ' H' s'/\D.nx σ' H'
 | .brk=> ∃σ' H',aE X pins σ' H' s'/\D.bk σ' H'
 | .cont=> ∃σ' H',aE X pins σ' H' s'/\D.ct σ' H'
 | .ret u=> ∃v σ' H',aE X pins σ' H' s'/\bo v u/\D.rt v H'
def PE (X:Cx) (e:Hv) (t:TE):Prop:=
 ∀(pins:EV (E4×IG)) (s:E8) (σ:St) (H:Hp) (Q:VK),aE X pins σ H s->t σ H Q->FG (model X.prog X.w) X.A (eval e X.env) (EP X pins σ Q) X.xe s
def PT (X:Cx) (e:Hv) (t:TT):Prop:=
 ∀(pins:EV (E4×IG)) (s:E8) (σ:St) (H:Hp) (Q:Gg->Hp->Prop),aE X pins σ H s->t σ H Q->FG (model X.prog X.w) X.A (isTrue e X.env (eval e X.env)) (TP X pins σ Q) X.xe s
def PW (X:Cx) (e:Hv) (t:TT):Prop:=
 ∀(whole:Sem E3) (pins:EV (E4×IG)) (s:E8) (σ:St) (H:Hp) (Q:Gg->Hp->Prop),aE X pins σ H s->t σ H Q->FG (model X.prog X.w) X.A (isTrue e X.env whole) (TP X pins σ Q) X.xe s
theorem PW.pt {X:Cx}{e:Hv}{t:TT}(h:PW X e t):PT X e t:=h _
def PA (X:Cx) (es:EV Hv) (t:TA):Prop:=
 ∀(pos:Pos) (pins:EV (E4×IG)) (s:E8) (σ:St) (H:Hp) (Q:EV V->Hp->Prop),aE X pins σ H s->t σ H Q->FG (model X.prog X.w) X.A (spliced (IE pos (Fy es X.env))) (AP X pins σ Q) X.xe s
def PS (X:Cx) (st:Stmt) (t:TS):Prop:=
 ∀(pins:EV (E4×IG)) (s:E8) (σ:St) (H:Hp) (D:d8),aE X pins σ H s->t D σ H->FG (model X.prog X.w) X.A (exec st X.env) (SP X pins D) X.xe s
def uk (X:Cx) (st:EV Stmt) (t:TS):Prop:=
 ∀(pins:EV (E4×IG)) (s:E8) (σ:St) (H:Hp) (D:d8),aE X pins σ H s->t D σ H->FG (model X.prog X.w) X.A (execs st X.env) (SP X pins D) X.xe s
inductive Bd (X:Cx) (st:EV Stmt) (D:d8) (σ:St) (H:Hp):Prop
 |mk (t:TS) (_:uk X st t) (_:t D σ H):Bd X st D σ H
theorem b9 {α:Type}{t:Sem α}{Q Q':α->E8->Prop}{A:GG}{E:E3->E8->Prop}{s:E8}(h:FG M A t Q E s) (hQ: ∀a s,Q a s->Q' a s):FG M A t Q' E s:=Ip h hQ λ_ _ x=>x
section
variable {X:Cx}
theorem bin {a b:Hv}{ta tb:TE}(ha:PE X a ta) (hb:PE X b tb) {pins:EV (E4×IG)}{s:E8}{σ:St}{H:Hp}{R:V->V->Hp->Prop}(I:aE X pins σ H s) (h:ta σ H λx H1=>tb σ H1 λy H2=>R x y H2)
  {α:Type}{Q:α->E8->Prop}{f:E3->E3->Sem α}
  (hf: ∀v u s2 x y H2,aE X pins σ H2 s2->bo x v->bo y u->R x y H2->FG (model X.prog X.w) X.A (f v u) Q X.xe s2):
  FG (model X.prog X.w) X.A (eval a X.env) (λv s₁=>FG (model X.prog X.w) X.A (eval b X.env) (λu s₂=>FG (model X.prog X.w) X.A (f v u) Q X.xe s₂) X.xe s₁) X.xe s:=by
 refine b9 (ha pins s σ H _ I h) λv s1 ⟨x,H1,I1,r1,q1⟩=>?_;refine b9 (hb pins s1 σ H1 _ I1 q1) λu s2 ⟨y,H2,I2,r2,q2⟩=>?_;exact hf v u s2 x y H2 I2 r1 r2 q2
def kQ:Fm->St->Hp->VK->Prop
 |0,some v::_,H,Q=>Q v H
 |i+1,_::σ,H,Q=>kQ i σ H Q
 |_,_,_,_=>False
theorem BR {H:Hp}{Q:VK} : ∀ {i:Fm}{σ:St},kQ i σ H Q-> ∃v,σ[i]?=Fa (Fa v)/\Q v H
 |0,some v::_,h=>#[v,Gc,h]
 |i+1,_::σ,h=>BR (i:=i) (σ:=σ) h
theorem m6 {H:Hp}{Q:VK}{v:V}(q:Q v H): ∀ {i:Fm}{σ:St},σ[i]?=Fa (Fa v)->kQ i σ H Q
 |0,some _::_,e=>Fs (Fs e)▸q
 |i+1,_::σ,e=>m6 q (i:=i) (σ:=σ) e
def tC (v:V):TE:=λ_ H Q=>Q v H
theorem dR {i:Fm}{x:FD}{pos:Pos}(hN:X.N[i]?=Fa x) (hv:oS X.env.scope x) (hd:(x == [003])=FS:=by decide) (Sf:(x == ("__classdict__":FD))=FS:=by decide):PE X (.Name x pos) (kQ i):=by
 rw[01];obtain⟨v,e,h⟩:=BR h;obtain⟨m,hn,hl⟩:=I.loc;obtain⟨u,r,l⟩:=hl i x v hN e hv;have eN:EP X pins σ Q u s:=#[v,H,I,r,h];rcases l with⟨hk,hm⟩|⟨hk,c,hc,Uo⟩
 ·exact YS (Wy I.ok.kind hk hn hm eN) hd
 ·rcases hk with hk|hk
  ·exact YS (Xo I.ok.kind hk hc Uo eN) hd
  ·exact YS (wpAny_loadName_free I.ok.kind hk hc Uo eN Sf) hd
theorem ak {i j pos} :PE X (.Constant (.int i) j pos) (tC (.int i)):=λ_ _ _ H _ I h=>wpAny_Constant_int #[.int i,H,I.tok _,#[_,Gc],h]
theorem tG {b j pos} :PE X (.Constant (.bool b) j pos) (tC (.bl b)):=λ_ _ _ H _ I h=>Constant_bool #[.bl b,H,I,Gc,h]
theorem aac {j pos} :PE X (.Constant .none j pos) (tC .Iw):=λ_ _ _ H _ I h=>Constant_none #[.Iw,H,I,Gc,h]
theorem dJ {x j pos} :PE X (.Constant (.str x) j pos) (tC (.str x)):=λ_ _ _ H _ I h=>Calls.Constant_str #[.str x,H,I.tok _,#[_,Gc],h]
def Gl (X:Cx) (x:FD):Prop:=X.env.kindOf x=Fa .globalImplicit
theorem fZ {E:E3->E8->Prop}{pins:EV (E4×IG)}{s:E8}{σ:St}{H:Hp}{x:FD}{u:E3}{pos:Pos}{Q:E3->E8->Prop}(I:aE X pins σ H s) (hg:Gl X x) (hm:X.mg x=Fa u) (h:Q u s)
  (hd:(x == [003])=FS:=by decide):FG (model X.prog X.w) X.A (eval (.Name x pos) X.env) Q E s:=
 QT I.ok.kind hg (Calls.loadGlobal_global (by rw[I.ok.glob];exact I.mod.glob.keeps I.bk) hm h) hd
theorem kT {E:E3->E8->Prop}{pins:EV (E4×IG)}{s:E8}{σ:St}{H:Hp}{x:FD}{u:E3}{pos:Pos}{Q:E3->E8->Prop}(I:aE X pins σ H s) (hg:Gl X x) (hm:X.mg x=FB) (hv:KQ x=Fa u) (h:Q u s)
  (hn:x≠"__name__":=by decide) (hd:(x == [003])=FS:=by decide):FG (model X.prog X.w) X.A (eval (.Name x pos) X.env) Q E s:=by
 obtain⟨mb,h1,h2⟩:=I.mod.blt;exact QT I.ok.kind hg (Calls.loadGlobal_builtin (by rw[I.ok.glob];exact I.mod.glob.keeps I.bk) hm (by rw[I.ok.blt];exact h1.keeps I.bk) ((h2 x hn).trans hv) h) hd
theorem qL {x:FD}{v:V}{u:E3}{pos:Pos}(hg:Gl X x) (hm:X.mg x=Fa u) (r:bo v u) (hd:(x == [003])=FS:=by decide):PE X (.Name x pos) (tC v):=
 λ_ _ _ H _ I h=>fZ I hg hm #[v,H,I,r,h] hd
variable {a b:Hv}{ta tb:TE}{pos:Pos}
def PC (X:Cx) (op:CmpOp) (a b:Hv) (t:TE):Prop:=
 ∀(pins:EV (E4×IG)) (s:E8) (σ:St) (H:Hp) (Q:VK),aE X pins σ H s->t σ H Q->
  FG (model X.prog X.w) X.A (eval a X.env) (λv s₁=>FG (model X.prog X.w) X.A (eval b X.env) (λu s₂=>FG (model X.prog X.w) X.A (Ij op v u) (EP X pins σ Q) X.xe s₂) X.xe s₁) X.xe s
theorem Cb (b:Hv) (h:op≠ .In) (h2:op≠ .NotIn):behindInMarks op b=FS:=by
 have e1:(op == CmpOp.In)=FS:=by cases op<;>first|rfl|exact Fv rfl h
 have e2:(op == CmpOp.NotIn)=FS:=by cases op<;>first|rfl|exact Fv rfl h2
 cases b<;>simp [behindInMarks,e1,e2]
def aff (ta:TE):TE:=λσ H Q=>ta σ H λx H1=>Q (.bl (!decide (x= .Iw))) H1
theorem bo.V4 {x:V}{v:E3}(r:bo x v):(v == HK)=decide (x= .Iw):=by
 cases x with
 |Iw=>cases r;rfl
 |bl _=>cases r;rfl
 |int _=>obtain⟨t,rfl⟩:=r;rfl
 |str _=>obtain⟨t,rfl⟩:=r;rfl
 |Se _=>obtain⟨t,rfl⟩:=r;rfl
 |Xz _=>obtain⟨t,rfl⟩:=r;rfl
 |ref _=>cases r;rfl
 |ty _=>cases r;rfl
theorem EG {j Nt} (ha:PE X a ta):PC X .IsNot a (.Constant .none j Nt) (aff ta):=by
 rw[01];refine b9 (ha pins s σ H _ I h) λv s1 ⟨x,H1,I1,r1,q1⟩=>?_;exact Constant_none (isnot_none_gen #[.bl _,H1,I1,by rw[r1.V4];rfl,q1])
inductive vG (R:Gg->Hp->Prop) (x:V) (H1:Hp):Prop
 |mk (c:Gg) (_:x= .bl c) (_:R c H1):vG R x H1
def tB (t:TE):TT:=λσ H Q=>t σ H (vG Q)
theorem fD {t:TE}(h:PC X op a b t) (h1:behindInMarks op b=FS:=by first|exact Cb _ [01] [01]|rfl):PT X (.Compare a [op] [b] pos) (tB t):=by
 intro pins s σ H Q I hw;refine Wb (b9 (h pins s σ H _ I hw) λv s1 h1=>b9 h1 λu s2 h2=>b9 h2 λc s3 ⟨x,H1,I1,r1,q1⟩=>?_) h1;obtain⟨d,rfl,q⟩:=q1;cases r1;exact ID #[H1,I1,q]
theorem cZ {e:Hv}{t:TE}(h:PE X e t) (he: ∀whole,isTrue e X.env whole=(do let v<-whole;standAt e.pos;holding [v] (truthy v)):=by intro _;rfl):PT X e (tB t):=by
 intro pins s σ H Q I hw;refine isTrue_plain (b9 (h pins s σ H _ I hw) λv s1 ⟨x,H1,I1,r1,q1⟩=>?_) (he _);obtain⟨d,rfl,q⟩:=q1;cases r1;exact ID #[H1,I1,q]
variable {tA tB':TT}{rest:EV Hv}
def ako (t u:TT):TT:=λσ H Q=>t σ H λc H1=>if c=FM then u σ H1 Q else Q FS H1
def tOr (t u:TT):TT:=λσ H Q=>t σ H λc H1=>if c=FM then Q FM H1 else u σ H1 Q
def akp (t:TT):TT:=λσ H Q=>t σ H λc H1=>Q (!c) H1
theorem mq (ha:PT X a tA):PW X (.BoolOp .And [a] pos) tA:=by
 intro wh pins s σ H Q I h;refine isTrue_and (b9 (ha pins s σ H Q I h) λc s1 e=>?_);cases c with
 |true=>exact isTrue_and_nil e
 |false=>exact e
theorem qJ (ha:PT X a tA):PW X (.BoolOp .Or [a] pos) tA:=by
 intro wh pins s σ H Q I h;refine isTrue_or (b9 (ha pins s σ H Q I h) λc s1 e=>?_);cases c with
 |false=>exact isTrue_or_nil e
 |true=>exact e
theorem rg (ha:PT X a tA) (hb:PW X (.BoolOp .And (b::rest) pos) tB'):PW X (.BoolOp .And (a::b::rest) pos) (ako tA tB'):=by
 intro wh pins s σ H Q I h;refine isTrue_and (b9 (ha pins s σ H _ I h) λc s1 ⟨H1,I1,q1⟩=>?_);cases c with
 |true=>exact hb wh pins s1 σ H1 Q I1 q1
 |false=>exact#[H1,I1,q1]
theorem wP (ha:PT X a tA) (hb:PW X (.BoolOp .Or (b::rest) pos) tB'):PW X (.BoolOp .Or (a::b::rest) pos) (tOr tA tB'):=by
 intro wh pins s σ H Q I h;refine isTrue_or (b9 (ha pins s σ H _ I h) λc s1 ⟨H1,I1,q1⟩=>?_);cases c with
 |true=>exact#[H1,I1,q1]
 |false=>exact hb wh pins s1 σ H1 Q I1 q1
theorem lf (ha:PT X a tA):PT X (.UnaryOp .Not a pos) (akp tA):=by
 rw[01];exact isTrue_not (ha pins s σ H (λc H1=>Q (!c) H1) I h)
def afg (ta tb:TE):TE:=λσ H Q=>ta σ H (vG (λc H1=>if c=FM then tb σ H1 Q else Q (.bl FS) H1))
def akq (ta tb:TE):TE:=λσ H Q=>ta σ H (vG (λc H1=>if c=FM then Q (.bl FM) H1 else tb σ H1 Q))
theorem jx {op} {t:TE}(h:PE X a t):PE X (.BoolOp op [a] pos) t:=λpins s σ H Q I hw=>BoolOp_one (h pins s σ H Q I hw)
theorem oG (ha:PE X a ta) (hb:PE X (.BoolOp .And (b::rest) pos) tb):PE X (.BoolOp .And (a::b::rest) pos) (afg ta tb):=by
 rw[01];refine BoolOp_and (b9 (ha pins s σ H _ I h) λv s1 ⟨x,H1,I1,r1,q1⟩=>?_);obtain⟨c,rfl,q1⟩:=q1;cases r1;refine ID ?_;cases c with
 |true=>exact hb pins s1 σ H1 Q I1 q1
 |false=>exact#[.bl FS,H1,I1,Gc,q1]
theorem Bp (ha:PE X a ta) (hb:PE X (.BoolOp .Or (b::rest) pos) tb):PE X (.BoolOp .Or (a::b::rest) pos) (akq ta tb):=by
 rw[01];refine BoolOp_or (b9 (ha pins s σ H _ I h) λv s1 ⟨x,H1,I1,r1,q1⟩=>?_);obtain⟨c,rfl,q1⟩:=q1;cases r1;refine ID ?_;cases c with
 |false=>exact hb pins s1 σ H1 Q I1 q1
 |true=>exact#[.bl FM,H1,I1,Gc,q1]
def tIf (t:TT) (ta tb:TE):TE:=λσ H Q=>t σ H λc H1=>if c=FM then ta σ H1 Q else tb σ H1 Q
theorem dF {c:Hv}(hc:PT X c tA) (ha:PE X a ta) (hb:PE X b tb):PE X (.IfExp c a b pos) (tIf tA ta tb):=by
 rw[01];refine wpAny_IfExp (b9 (hc pins s σ H _ I h) λd s1 ⟨H1,I1,q1⟩=>?_);cases d with
 |true=>exact ha pins s1 σ H1 Q I1 q1
 |false=>exact hb pins s1 σ H1 Q I1 q1
end
def akr:E3->Fd V
 | .none=>Fa .Iw
 | .bool b=>Fa (.bl b)
 | .int i _=>Fa (.int i)
 | .str x _=>Fa (.str x)
 | .bytes b _=>Fa (.Se b)
 | .float b _=>Fa (.Xz b)
 | .ref a=>Fa (.ref a)
 | .type n=>Fa (.ty n)
 |_=>FB
theorem bo.abs {x:V}{u:E3}(r:bo x u):akr u=Fa x:=by
 cases x with
 |Iw=>cases r;rfl
 |bl _=>cases r;rfl
 |int _=>obtain⟨t,rfl⟩:=r;rfl
 |str _=>obtain⟨t,rfl⟩:=r;rfl
 |Se _=>obtain⟨t,rfl⟩:=r;rfl
 |Xz _=>obtain⟨t,rfl⟩:=r;rfl
 |ref _=>cases r;rfl
 |ty _=>cases r;rfl
theorem bo.inj {x y:V}{u:E3}(r:bo x u) (q:bo y u):x=y:=Fs (r.abs.symm.trans q.abs)
theorem aY.inj: ∀ {xs ys:EV V}{us:EV E3},aY xs us->aY ys us->xs=ys
 |_,_,_, .nil, .nil=>rfl
 |_,_,_, .cons r t, .cons r' t'=>by rw[r.inj r',aY.inj t t']
section
variable {X:Cx}{pins:EV (E4×IG)}{σ:St}{H:Hp}{s:E8}{a:E4}{xs ys:EV V}
theorem qG.of {K:E1}(h:H a=Fa (.tup xs)):qG K H a xs:= .inl (.inl h)
theorem aE.list (I:aE X pins σ H s) (h:cC X.K H a xs): ∃Ho:EV E3,aY xs Ho/\PlainL s.heap a Ho.toArray/\xs.length<=FP:=by
 rcases h with h|⟨o,Ho,n,hk,hc,hd,hs,hz,r⟩
 ·obtain⟨z,Ho,n,r,e⟩:=h.ok I.Ic
  exact#[Ho,r,#[_,n,e,Gc,Gc,Gc],z]
 ·refine#[Ho.toList,r,#[o,n,I.Nq a o hk,hc,hd,by simpa using hs],?_]
  have e:=r.length;simp only[T6] at e;lia
theorem aE.tuple (I:aE X pins σ H s) (h:qG X.K H a xs): ∃Ho:EV E3,aY xs Ho/\IsTup s.heap a Ho.toArray/\xs.length<=FP:=by
 rcases h with h|⟨o,Ho,n,hk,hc,hs,hz,r⟩
 ·obtain⟨z,Ho,r,p⟩:=h.ok I.Ic
  exact#[Ho,r,p,z]
 ·refine#[Ho.toList,r,#[o,I.Nq a o hk,hc,n,by simpa using hs],?_]
  have e:=r.length;simp only[T6] at e;lia
theorem aE.V5 (I:aE X pins σ H s) (h:cC X.K H a xs) (h':cC X.K H a ys):xs=ys:=by
 obtain⟨Ho,r,⟨o,n,e,_,_,d⟩,_⟩:=I.list h;obtain⟨its',r',⟨o',n',e',_,_,d'⟩,_⟩:=I.list h';rw[e] at e';cases e';rw[d] at d';injection d' with d1 _;have:Ho=its':=by simpa using Ga Sd d1
 subst this;exact r.inj r'
end
abbrev Cx.Q6 (X:Cx) (E:E3->E8->Prop):Cx:= { X with xe:=E }
abbrev Cx.nox (X:Cx):Cx:=X.Q6 λ_ _=>False
theorem Cx.Ok.Q6 {X:Cx}(ok:X.Ok) (E:E3->E8->Prop):(X.Q6 E).Ok:=
 #[ok.mod,ok.kind,ok.glob,ok.blt,ok.above,ok.inj,ok.has,ok.XS,ok.hd,ok.frames,ok.XU,ok.exf,ok.bs,ok.UO,ok.Sy,ok.SA,ok.funs,ok.Wn]
theorem Cx.Ok.Oa {X:Cx}{E:E3->E8->Prop}(ok:(X.Q6 E).Ok):X.Ok:=
 #[ok.mod,ok.kind,ok.glob,ok.blt,ok.above,ok.inj,ok.has,ok.XS,ok.hd,ok.frames,ok.XU,ok.exf,ok.bs,ok.UO,ok.Sy,ok.SA,ok.funs,ok.Wn]
section
variable {X:Cx}{pins:EV (E4×IG)}{σ:St}{H:Hp}{s:E8}{E:E3->E8->Prop}
theorem aE.Q6 (I:aE X pins σ H s) (E:E3->E8->Prop):aE (X.Q6 E) pins σ H s:=#[I.ok.Q6 E,I.os,I.bare,I.base,I.loc,I.cell,I.free,I.Mb,I.pin,I.Ic,I.len]
theorem aE.Oa (I:aE (X.Q6 E) pins σ H s):aE X pins σ H s:=#[I.ok.Oa,I.os,I.bare,I.base,I.loc,I.cell,I.free,I.Mb,I.pin,I.Ic,I.len]
theorem SP.Oa {f:Flow}{s':E8}(h:SP (X.Q6 E) pins D f s'):SP X pins D f s':=by
 cases f with
 |next=>obtain⟨σ',H',I,q⟩:=h;exact#[σ',H',I.Oa,q]
 |brk=>obtain⟨σ',H',I,q⟩:=h;exact#[σ',H',I.Oa,q]
 |cont=>obtain⟨σ',H',I,q⟩:=h;exact#[σ',H',I.Oa,q]
 |ret u=>obtain⟨v,σ',H',I,r,q⟩:=h;exact#[v,σ',H',I.Oa,r,q]
theorem uk.nox {st:EV Stmt}{t:TS}(h:uk X.nox st t):uk X st t:=λpins s σ H D I hw=>
 Ip (h pins s σ H D (I.Q6 _) hw) (λ_ _ q=>q.Oa) λ_ _ z=>Iz z
end
section
variable {X:Cx}{st:Stmt}{rest:EV Stmt}{t u:TS}{e:Hv}{te:TE}{pos:Pos}
def afh:TS:=λD σ H=>D.nx σ H
def aks (t u:TS):TS:=λD σ H=>t { D with nx:=u D } σ H
theorem br:uk X [] afh:=λ_ _ σ H _ I h=>MV #[σ,H,I,h]
theorem ax (h1:PS X st t) (h2:uk X rest u):uk X (st::rest) (aks t u):=by
 intro pins s σ H D I h;refine wpAny_execs_cons (b9 (h1 pins s σ H { D with nx:=u D } I h) λf s1 q=>?_);cases f with
 |next=>
  obtain⟨σ',H',I',q⟩:=q;exact h2 pins s1 σ' H' D I' q
 |ret v=>exact q
 |brk=>exact q
 |cont=>exact q
theorem ai (h1:PS X st t):uk X [st] t:=by
 intro pins s σ H D I h;refine wpAny_execs_cons (b9 (h1 pins s σ H D I h) λf s1 q=>?_);cases f with
 |next=>exact MV q
 |ret v=>exact q
 |brk=>exact q
 |cont=>exact q
def aad:TS:=λD σ H=>D.bk σ H
theorem CK:PS X (.Break pos) aad:=λ_ _ σ H _ I h=>wpAny_Break #[σ,H,I,h]
theorem aE.quiet {pins:EV (E4×IG)}{σ:St}{H:Hp}{s:E8}(I:aE X pins σ H s):interactive X.env=FS:=by simp [interactive,I.ok.kind]
def afi (te:TE):TS:=λD σ H=>te σ H λ_ H1=>D.nx σ H1
theorem bh (he:PE X e te) (hs:Lx e FB pos.line X.env=pure FS:=by rfl):PS X (.Expr e pos) (afi te):=by
 intro pins s σ H D I h;exact wpAny_Expr_any (b9 (he pins s σ H _ I h) λv s1 ⟨x,H1,I1,r1,q1⟩=>#[σ,H1,I1,q1]) I.quiet hs
def afj (te:TE):TS:=λD σ H=>te σ H D.rt
theorem aI (he:PE X e te):PS X (.Return (Fa e) pos) (afj te):=by
 intro pins s σ H D I h;exact wpAny_Return_some (b9 (he pins s σ H _ I h) λv s1 ⟨x,H1,I1,r1,q1⟩=>#[x,σ,H1,I1,r1,q1])
def akt (c:TT) (t u:TS):TS:=λD σ H=>c σ H λb H1=>if b=FM then t D σ H1 else u D σ H1
theorem cx {c:Hv}{a b:EV Stmt}{tc:TT}(hc:PT X c tc) (ha:uk X a t) (hb:uk X b u):PS X (.If c a b pos) (akt tc t u):=by
 intro pins s σ H D I h;refine wpAny_If (b9 (hc pins s σ H _ I h) λd s1 ⟨H1,I1,q1⟩=>?_);cases d with
 |true=>exact ha pins s1 σ H1 D I1 q1
 |false=>exact hb pins s1 σ H1 D I1 q1
end
abbrev TG:=V->St->Hp->(St->Hp->Prop)->Prop
def PG (X:Cx) (target:Hv) (t:TG):Prop:=
 ∀(pins:EV (E4×IG)) (s:E8) (σ:St) (H:Hp) (v:V) (u:E3) (Q:St->Hp->Prop),aE X pins σ H s->bo v u->t v σ H Q->
  FG (model X.prog X.w) X.A (assign target X.env u) (λ_ s'=> ∃σ' H',aE X pins σ' H' s'/\Q σ' H') X.xe s
abbrev TIp:=V->V->Hp->VK->Prop
def PIp (X:Cx) (op:Operator) (t:TIp):Prop:=
 ∀(pins:EV (E4×IG)) (s:E8) (σ:St) (H:Hp) (x y:V) (v u:E3) (Q:VK),aE X pins σ H s->bo x v->bo y u->t x y H Q->
  FG (model X.prog X.w) X.A (inplaceOp op v u) (EP X pins σ Q) X.xe s
section
variable {X:Cx}{pos:Pos}
def XZ (i:Fm):TG:=λv σ H Q=>Q (σ.set i (Fa v)) H
theorem gZ {i:Fm}{x:FD}(hN:X.N.Nodup) (hi:X.N[i]?=Fa x) (hx:Loc X.env.scope x) (hf:X.fn x=FM\/X.env.scope.names.lookup x=Fa .local:=by first|exact .inl rfl|exact .inr rfl|assumption):PG X (.Name x pos) (XZ i):=by
 intro pins s σ H v u Q I r h;exact wpAny_assign_Name (jN I hN hi hx r (λs' I'=>#[_,H,I',h]) hf)
def aku (te:TE) (g:TG):TS:=λD σ H=>te σ H λx H1=>g x σ H1 D.nx
theorem cB {i:Fm}{x:FD}{e:Hv}{te:TE}{Nt:Pos}(hN:X.N.Nodup) (hi:X.N[i]?=Fa x) (hx:Loc X.env.scope x) (he:PE X e te) (hs:Lx e (Fa (.Name x Nt)) pos.line X.env=pure FS:=by rfl) (hf:X.fn x=FM\/X.env.scope.names.lookup x=Fa .local:=by first|exact .inl rfl|exact .inr rfl|assumption):
  PS X (.Assign [.Name x Nt] e pos) (aku te (XZ i)):=by
 intro pins s σ H D I h;refine wpAny_Assign_Name (b9 (he pins s σ H _ I h) λv s1 ⟨y,H1,I1,r1,q1⟩=>?_) hs;exact jN I1 hN hi hx r1 (λs2 I2=>#[_,H1,I2,q1]) hf
def akv (i:Fm) (te:TE) (ti:TIp):TS:=λD σ H=> ∃x,σ[i]?=Fa (Fa x)/\te σ H λy H1=>ti x y H1 λz H2=>D.nx (σ.set i (Fa z)) H2
theorem ld {i:Fm}{x:FD}{e:Hv}{te:TE}{Nt:Pos}(hN:X.N.Nodup) (hi:X.N[i]?=Fa x) (hx:Loc X.env.scope x) (he:PE X e te) (ho:PIp X op ti) (hf:X.fn x=FM\/X.env.scope.names.lookup x=Fa .local:=by first|exact .inl rfl|exact .inr rfl|assumption):
  PS X (.AugAssign (.Name x Nt) op e pos) (akv i te ti):=by
 intro pins s σ H D I h;obtain⟨v,e1,h⟩:=h;obtain⟨m,hn,hl⟩:=I.loc;have vis:oS X.env.scope x:=by rcases hx with k|k;exact .inl k;exact .inr (.inl k)
 obtain⟨u,r,l⟩:=hl i x v hi e1 vis;refine wpAny_AugAssign_Name ?_;have go:FG (model X.prog X.w) X.A (eval e X.env) (λw s₂=>FG (model X.prog X.w) X.A (inplaceOp op u w) (λr s₃=>FG (model X.prog X.w) X.A (storeName X.env x r) (λ_=>SP X pins D .next) X.xe s₃) X.xe s₂) X.xe s:=by
  refine b9 (he pins s σ H _ I h) λw s1 ⟨y,H1,I1,r1,q1⟩=>?_;refine b9 (ho pins s1 σ H1 v y u w _ I1 r r1 q1) λz s2 ⟨zv,H2,I2,r2,q2⟩=>?_;exact jN I2 hN hi hx r2 (λs3 I3=>#[_,H2,I3,q2]) hf
 rcases l with⟨hk,hm⟩|⟨hk,c,hc,Uo⟩
 ·exact Wy I.ok.kind hk hn hm go
 ·rcases hk with hk|hk
  ·exact Xo I.ok.kind hk hc Uo go
  ·rcases hx with k|k
   ·have:X.env.scope.names.lookup x=Fa .free:=hk
    rw[k] at this;cases this
   ·have:X.env.scope.names.lookup x=Fa .free:=hk
    rw[k] at this;cases this
def ipI (f:Int->Int->Int):TIp:=λx y H Q=> ∃i j,x= .int i/\y= .int j/\Q (.int (f i j)) H
theorem kR:PIp X .Add (ipI λi j=>i+j):=by
 intro pins s σ H x y v u Q I r1 r2 h;obtain⟨i,j,e1,e2,q⟩:=h;subst e1;subst e2;obtain⟨t,rfl⟩:=r1;obtain⟨t',rfl⟩:=r2;exact iadd_int #[.int _,H,I.tok _,#[_,Gc],q]
end
section
variable {X:Cx}{pos:Pos}
def aae (c:TT) (tb:TS):TS:=λD σ H=> ∃W:Fm->St->Hp->Prop,(∃m,W m σ H)/\ ∀m σ H,W m σ H->
 c σ H λb H1=>if b=FM then∃N:St->Hp->Prop,(∀σ' H',N σ' H'-> ∃m',m'<m/\W m' σ' H')/\tb { D with nx:=N,ct:=N,bk:=D.nx } σ H1 else D.nx σ H1
theorem iD {c:Hv}{tc:TT}{tb:TS}(hp:PR (model X.prog X.w) X.A X.env X.xe) (hc:PT X c tc) (hb:uk X body tb):PS X (.While c body [] pos) (aae tc tb):=by
 intro pins s σ H D I h;obtain⟨W,⟨m0,w0⟩,turn⟩:=h;refine wpAny_While (codeAny_whileLoop (λn s'=> ∃σ' H',aE X pins σ' H' s'/\W n σ' H') ?_ m0 #[σ,H,I,w0]);rintro n s1 ⟨σ1,H1,I1,w1⟩;refine Kh hp (b9 (hc pins s1 σ1 H1 _ I1 (turn n σ1 H1 w1)) λb s2 ⟨H2,I2,q2⟩=>?_);cases b with
 |true=>
  obtain⟨N,hN,q2⟩:=q2;rw[E7 rfl];refine Kh hp (b9 (hb pins s2 σ1 H2 _ I2 q2) λf s3 q3=>?_);cases f with
  |next=>
   obtain⟨σ3,H3,I3,n3⟩:=q3;obtain⟨m',hm,w3⟩:=hN σ3 H3 n3;exact#[m',hm,σ3,H3,I3,w3]
  |cont=>
   obtain⟨σ3,H3,I3,n3⟩:=q3;obtain⟨m',hm,w3⟩:=hN σ3 H3 n3;exact#[m',hm,σ3,H3,I3,w3]
  |brk=>exact q3
  |ret v=>exact q3
 |false=>
  rw[E5 EZ];exact MV #[σ1,H2,I2,q2]
end
structure It where
 go:Fm->Hp->Prop
 yld:Fm->Hp->V->Hp->Prop
 stop:Fm->Hp->Prop
def pf (X:Cx) (pins:EV (E4×IG)) (H:Hp) (b:E4):Prop:=
 H b=FB/\b≠X.env.locals/\b∉X.fs/\(b∈X.ex\/X.Pz.heap.objs.size<=b)/\(∀x c,X.env.cells.lookup x=Fa c->c≠b)/\ ∀p∈X.pn++pins,p.1≠b
theorem aE.aaf {X:Cx}{pins:EV (E4×IG)}{σ:St}{H H':Hp}{s:E8}{b:E4}(I:aE X pins σ H s) (hb:s.heap.objs.size<=b) (hn:H' b=FB):pf X pins H' b:=by
 refine#[hn,Lk (FQ I.lt hb),I.akm hb, .inr (FA I.sz hb),λx c e z=>?_,λp hp z=>?_]
 ·obtain⟨v,q⟩:=I.cell x c e
  exact Fv (FQ q.lt (by rw[z];exact hb)) (HL _)
 ·exact Fv (FQ (FJ (I.pin p hp).1) (by rw[z];exact hb)) (HL _)
structure Turn (P:FW) (w:Gx) (K:E1) (tg:Hv) (J:It) (fp:EV E4) (it:E4) (tn:Fm->GI->Prop):Prop where
 mem:it∈fp
 obj: ∀i h,tn i h-> ∀b∈fp,∃o,h.get? b=Fa o/\ ∀v,o.data≠ .cell v
 keep: ∀i h h',tn i h->(∀b∈fp,∀o,h.get? b=Fa o->h'.get? b=Fa o)->tn i h'
 item: ∀(X:Cx),X.prog=P->X.w=w->X.K=K->X.calm=FM-> ∀(i:Fm) (pins:EV (E4×IG)) (s:E8) (σ:St) (H:Hp) (E:E3->E8->Prop),aE X pins σ H s->(∀b∈fp,pf X pins H b)->tn i s.heap->J.go i H->
  FG (model P w) X.A (Rt (.ref it)) (λr s1=> ∃u,r=Fa u/\
   FG (model P w) X.A (OO tg (.ref it) u) (λ_ s2=> ∃x H',aE X pins σ H' s2/\bo x u/\J.yld i H x H'/\tn (i+1) s2.heap/\ ∀b∈fp,H' b=FB) E s1) E s
 done: ∀(X:Cx),X.prog=P->X.w=w->X.K=K->X.calm=FM-> ∀(i:Fm) (pins:EV (E4×IG)) (s:E8) (σ:St) (H:Hp) (E:E3->E8->Prop),aE X pins σ H s->(∀b∈fp,pf X pins H b)->tn i s.heap->J.stop i H->
  FG (model P w) X.A (Rt (.ref it)) (λr s1=>r=FB/\aE X pins σ H s1) E s
 self: ∀(A:GG) (i:Fm) (s:E8) (Q:E3->E8->Prop) (E:E3->E8->Prop),tn i s.heap->Q (.ref it) s->FG (model P w) A (pyIter (.ref it)) Q E s
abbrev TI:=St->Hp->(It->Hp->Prop)->Prop
def PIE (X:Cx) (pins:EV (E4×IG)) (σ:St) (tg:Hv) (R:It->Hp->Prop) (itv:E3) (s2:E8):Prop:=
 ∃(it:E4) (fp:EV E4) (tn:Fm->GI->Prop) (J:It) (H':Hp),itv= .ref it/\aE X pins σ H' s2/\Turn X.prog X.w X.K tg J fp it tn/\tn 0 s2.heap/\(∀b∈fp,pf X pins H' b)/\R J H'
def PI (X:Cx) (tg iter:Hv) (wi:TI):Prop:=
 ∀(pins:EV (E4×IG)) (s:E8) (σ:St) (H:Hp) (R:It->Hp->Prop),aE X pins σ H s->wi σ H R->
  FG (model X.prog X.w) X.A (eval iter X.env) (λv s1=>FG (model X.prog X.w) X.A (pyIter v) (PIE X pins σ tg R) X.xe s1) X.xe s
theorem X0 {A:GG}{E:E3->E8->Prop}{s:E8}{tg:Hv}{it:E4}{u:E3}{o:IG}{Q:MZ->E8->Prop}(ho:s.heap.get? it=Fa o) (hc:o.cls= .type n) (hd:o.data= .fields vs)
  (hn:["enumerate","zip","dict_itemiterator","dict_reverseitemiterator","odict_iterator","itertools.zip_longest","itertools.pairwise"].contains n=FS) (hQ:Q () s):FG M A (OO tg (.ref it) u) Q E s:=by
 unfold OO;cases tg<;>first
  |exact FT hQ
  | (cases u<;>first
    |exact FT hQ
    | (refine Fn (wpAny_load ho ?_)
       rw[hc,hd];show FG M A (if(["enumerate","zip","dict_itemiterator","dict_reverseitemiterator","odict_iterator","itertools.zip_longest","itertools.pairwise"].contains n&&vs[0]? == Fa (NX _))=FM then _ else _) Q E s
       rw[E5 (by intro h;rw[hn,IW] at h;cases h)];exact FT hQ))
def X2 (K:E1) (a:E4):It:=
 #[λi H=> ∃xs x,cC K H a xs/\xs[i]?=Fa x,λi H x H'=>H'=H/\ ∀xs,cC K H a xs->xs[i]?=Fa x,λi H=> ∃xs,cC K H a xs/\xs.length<=i]
def Itr (lo:Int) (n:Fm):It:=#[λi _=>i<n,λi H x H'=>H'=H/\x= .int (lo+i),λi _=>n<=i]
theorem yM {P:FW}{w:Gx}{K:E1}{tg:Hv}(a it:E4):Turn P w K tg (X2 K a) [it] it (λi h=>h.IsListIter it a i) where
 mem:=by simp
 obj:=λi h st b hb=>by
  have e:b=it:=by simpa using hb
  subst e;obtain⟨o,e,c,d⟩:=st;exact#[o,e,λv z=>by rw[d] at z;cases z]
 keep:=λi h h' st k=>st.at λo e=>k it (by simp) o e
 item:=by
  intro X hP hw hK hc i pins s σ H E I hf st hg;subst hP hw hK;obtain⟨xs,x,hq,hx⟩:=hg;obtain⟨Ho,rv,p,hz⟩:=I.list hq;obtain⟨u,hu,ru⟩:=rv.get hx;obtain⟨f0,f1,f2,f3,f4,f5⟩:=hf it (by simp);refine wpAny_pyNext_list_item st p.isList (x:=u) (by simpa using hu) λh' st' sb=>?_;have I1:aE X pins σ H { s with heap:=h' } :=I.turned (t':=s.toks) (λb o hb e=>(sb.2 b hb).trans e) f0 f1 f3 f4 f5
  obtain⟨o,e,c,d⟩:=id st';exact#[u,Gc,X0 (s:= { s with heap:=h' }) e c d [01] #[x,H,I1,ru,#[Gc,λys hy=>by rw[I.V5 hy hq];exact hx],st',λb hb=>(hf b hb).1]]
 done:=by
  intro X hP hw hK hc i pins s σ H E I hf st hg;subst hP hw hK;obtain⟨xs,hq,hx⟩:=hg;obtain⟨Ho,rv,p,hz⟩:=I.list hq;obtain⟨f0,f1,f2,f3,f4,f5⟩:=hf it (by simp);have hl:=rv.length;exact wpAny_pyNext_list_end (I.ok.hd hc) st p.isList (by simp;lia) λh' eb=>#[Gc,I.turned (t':=s.toks) (λb o hb e=>eb b o hb e) f0 f1 f3 f4 f5]
 self:=λ_ _ _ _ _ st h=>wpAny_pyIter_listiter st h
theorem uK {P:FW}{w:Gx}{K:E1}{tg:Hv}(it:E4) (lo:Int) (n:Fm):Turn P w K tg (Itr lo n) [it] it (λi h=>IsRangeIter h it (lo+(i:Fm)*1) ((n:Int)-(i:Fm)) 1) where
 mem:=by simp
 obj:=λi h st b hb=>by
  have e:b=it:=by simpa using hb
  subst e;exact#[_,st,λv z=>by
   have z':Data.fields _=Data.cell v:=z;cases z']
 keep:=λi h h' st k=>k it (by simp) _ st
 item:=by
  intro X hP hw hK hc i pins s σ H E I hf st hg;subst hP hw hK;obtain⟨f0,f1,f2,f3,f4,f5⟩:=hf it (by simp);have W:=Walks.range (prog:=X.prog) (w:=X.w) (I.ok.hd hc) it lo 1 n;refine W.item i s _ _ hg st λv h' tk hv st' kk=>?_;obtain⟨t,rfl⟩:=hv;have I1:aE X pins σ H { s with heap:=h',toks:=tk } :=I.turned (λb o hb e=>kk b o (by simpa using hb) e) f0 f1 f3 f4 f5
  refine#[_,Gc,X0 (s:= { s with heap:=h',toks:=tk }) (n:="range_iterator") st' rfl rfl [01] #[.int (lo+i),H,I1,#[t,?_],#[Gc,Gc],st',λb hb=>(hf b hb).1]];rw[Int.mul_one]
 done:=by
  intro X hP hw hK hc i pins s σ H E I hf st hg;subst hP hw hK;obtain⟨f0,f1,f2,f3,f4,f5⟩:=hf it (by simp);exact wpAny_pyNext_range_end (I.ok.hd hc) st (by have:n<=i:=hg;lia) λh' eb=>#[Gc,I.turned (t':=s.toks) (λb o hb e=>eb b o hb e) f0 f1 f3 f4 f5]
 self:=λ_ _ _ _ _ st h=>wpAny_pyIter_rangeiter st h
section
variable {X:Cx}{tg:Hv}
inductive X3 (K:E1) (R:It->Hp->Prop) (x:V) (H1:Hp):Prop
 |mk (a:E4) (_:x= .ref a) (_:(∃xs,cC K H1 a xs)) (_:R (X2 K a) H1):X3 K R x H1
def afk (K:E1) (tl:TE):TI:=λσ H R=>tl σ H (X3 K R)
theorem iU {l:Hv}{tl:TE}(hl:PE X l tl):PI X tg l (afk X.K tl):=by
 intro pins s σ H R I h;refine b9 (hl pins s σ H _ I h) λv s1 ⟨x,H1,I1,r1,q1⟩=>?_;obtain⟨a,e,⟨xs,hq⟩,q⟩:=q1;subst e;cases r1;obtain⟨Ho,rv,p,hz⟩:=I1.list hq;refine wpAny_pyIter_list p.isList ?_;refine#[s1.heap.objs.size,[s1.heap.objs.size],_,_,H1,Gc,I1.kept (t':=s1.toks) λb o e=>Fl _ e,yM a _,#[_,GK _ rfl,Gc,Gc],λb hb=>?_,q];have e:b=s1.heap.objs.size:=by simpa using hb
 subst e;exact I1.aaf (Fq _) (I1.Ic.fresh (Fq _))
theorem CU {pins:EV (E4×IG)}{σ:St}{H:Hp}{s:E8}{R:It->Hp->Prop}{E:E3->E8->Prop}{lo hi:Int}{t u v:Tok}{tk:Fm}(I:aE X pins σ H s) (h1: -(2 ^ 62)<=lo) (h2:lo<2 ^ 62) (h3: -(2 ^ 62)<=hi) (h4:hi<2 ^ 62)
  (q:R (Itr lo (hi-lo).toNat) H):FG (model X.prog X.w) X.A (pyIter (.ref s.heap.objs.size)) (PIE X pins σ tg R) E { s with heap:=s.heap.push { cls:= .type "range",data:= .fields [.int lo t, .int hi u, .int 1 v].toArray },toks:=tk } :=by
 refine wpAny_pyIter_range (IsRange.new ..) (small_one h1 h2 h3 h4) ?_;have I1:aE X pins σ H { s with heap:=s.heap.push { cls:= .type "range",data:= .fields [.int lo t, .int hi u, .int 1 v].toArray },toks:=tk } :=I.kept λb o e=>Fl _ e
 refine#[(s.heap.push { cls:= .type "range",data:= .fields [.int lo t, .int hi u, .int 1 v].toArray }).objs.size,[(s.heap.push { cls:= .type "range",data:= .fields [.int lo t, .int hi u, .int 1 v].toArray }).objs.size],_,_,H,Gc,
  I1.kept (t':=tk) λb o e=>Fl _ e,uK _ lo (hi-lo).toNat,?_,λb hb=>?_,q]
 ·have e1:lo+((0:Fm):Int)*1=lo:=by simp
  have e2:(((hi-lo).toNat:Fm):Int)-((0:Fm):Int)=Builtin.Range.rangeSize lo hi 1:=by rw[rangeSize_one];split<;>lia
  show IsRangeIter _ _ (lo+((0:Fm):Int)*1) ((((hi-lo).toNat:Fm):Int)-((0:Fm):Int)) 1
  rw[e1,e2];exact GK _ rfl
 ·have e:b=(s.heap.push { cls:= .type "range",data:= .fields [.int lo t, .int hi u, .int 1 v].toArray }).objs.size:=by simpa using hb
  subst e;exact I1.aaf (Fq _) (I1.Ic.fresh (Fq _))
def afl (ta:TA):TI:=λσ H R=>ta σ H λvs H1=> ∃j:Int,vs=[.int j]/\ -(2 ^ 62)<=j/\j<2 ^ 62/\R (Itr 0 j.toNat) H1
theorem zk {a:Hv}{ta:TA}{p pos:Pos}(hg:Gl X "range") (hm:X.mg "range"=FB) (ha:PA X [a] ta) (hs:Fy [a] X.env=[(FS,eval a X.env)]:=by rfl):PI X tg (.Call (.Name "range" p) [a] [] pos) (afl ta):=by
 intro pins s σ H R I h;refine Call_ (kT I hg hm boot_range (JM (b9 (ha pos pins s σ H _ I h) λus s1 ⟨vs,H1,I1,r1,q1⟩=>?_) hs rfl));obtain⟨j,e,q1,q2,q⟩:=q1;subst e;cases r1 with
 |cons r rr=>
  cases rr;obtain⟨t,rfl⟩:=r;exact call_range_1 (CU I1 (by lia) (by lia) q1 q2 (by simpa using q))
def akw (wi:TI) (g:TG) (tb:TS):TS:=λD σ H=>wi σ H λJ H1=> ∃W:Fm->Fm->St->Hp->Prop,(∃m,W 0 m σ H1)/\ ∀i m σ H,W i m σ H->
 (J.stop i H/\D.nx σ H)\/(J.go i H/\ ∃N:St->Hp->Prop,(∀σ' H',N σ' H'-> ∃m',m'<m/\W (i+1) m' σ' H')/\ ∀x H',J.yld i H x H'->g x σ H' λσ2 H2=>tb { D with nx:=N,ct:=N,bk:=D.nx } σ2 H2)
def oo (fp:EV E4) (h:GI):EV (E4×IG):=fp.filterMap λb=>(h.get? b).map λo=>(b,o)
theorem jF {h:GI}{b:E4}{o:IG}(hb:b∈fp) (e:h.get? b=Fa o):(b,o)∈oo fp h:=U5.mpr #[b,hb,by rw[e];rfl]
theorem yY {h:GI}{p:E4×IG}(hp:p∈oo fp h):p.1∈fp/\h.get? p.1=Fa p.2:=by
 obtain⟨b,hb,e⟩:=U5.mp hp;cases q:h.get? b with
 |none=>rw[q] at e;cases e
 |some o=>
  rw[q] at e;have e':(b,o)=p:=Fs e;subst e';exact#[hb,q]
theorem aE.pinned {pins:EV (E4×IG)}{σ:St}{H:Hp}{s:E8}(I:aE X pins σ H s) (hf: ∀b∈fp,pf X pins H b) (ho: ∀b∈fp,∃o,s.heap.get? b=Fa o/\ ∀v,o.data≠ .cell v):aE X (pins++oo fp s.heap) σ H s:=
 I.Uk λp hp=>(FK.mp hp).elim (λz=>I.pin p (G8 _ z)) λz=>by
  obtain⟨hb,e⟩:=yY z;obtain⟨f0,f1,f2,_⟩:=hf p.1 hb;obtain⟨o,e',d⟩:=ho p.1 hb;rw[e] at e';cases e';exact#[e,f0,f1,f2,d]
theorem aE.Ph {pins pl:EV (E4×IG)}{σ:St}{H:Hp}{s:E8}(I:aE X (pins++pl) σ H s):aE X pins σ H s:=I.Uk λp hp=>I.pin p (G8 _ (LX _ hp))
theorem qx {g:TG}{tb:TS}{pos:Pos}(hp:PR (model X.prog X.w) X.A X.env X.xe) (hc:X.calm=FM) (hi:PI X tg iter wi) (hg:PG X tg g) (hb:uk X body tb)
  (hs: ∀x,LO iter X.env x=pure x:=by intro _;rfl):PS X (.For tg iter body [] pos) (akw wi g tb):=by
 intro pins s σ H D I h;refine wpAny_For (b9 (hi pins s σ H _ I h) λv s1 h1=>b9 h1 λitv s2 h2=>?_) hs;obtain⟨it,fp,tn,J,H2,e,I2,T,st2,f2,W,⟨m0,w0⟩,turn⟩:=h2;subst e;have TH: ∀ {H':Hp},(∀b∈fp,H' b=FB)-> ∀b∈fp,pf X pins H' b:=λhn b hb=>#[hn b hb,(f2 b hb).2]
 refine codeAny_forLoop_any (λn s'=> ∃i σ' H',aE X pins σ' H' s'/\tn i s'.heap/\(∀b∈fp,H' b=FB)/\W i n σ' H') ?_ m0 #[0,σ,H2,I2,st2,λb hb=>(f2 b hb).1,w0];rintro n s3 ⟨i,σ3,H3,I3,st3,fr3,w3⟩;rcases turn i n σ3 H3 w3 with⟨stop,qn⟩|⟨go,N,hN,step⟩
 ·refine Kh hp (b9 (T.done X rfl rfl rfl hc i pins s3 σ3 H3 X.xe I3 (TH fr3) st3 stop) λr s4 ⟨hr,I4⟩=>?_)
  subst hr;exact MV #[σ3,H3,I4,qn]
 ·refine Kh hp (b9 (T.item X rfl rfl rfl hc i pins s3 σ3 H3 X.xe I3 (TH fr3) st3 go) λr s4 ⟨u,hr,h4⟩=>?_)
  subst hr;refine Kh hp (b9 h4 λ_ s5 ⟨x,H5,I5,r5,y5,st5,fr5⟩=>?_);have I5':=I5.pinned (TH fr5) (T.obj _ _ st5);refine Kh hp (b9 (hg _ s5 σ3 H5 x u _ I5' r5 (step x H5 y5)) λ_ s6 ⟨σ6,H6,I6,q6⟩=>?_);refine Kh hp (b9 (hb _ s6 σ6 H6 _ I6 q6) λf s7 q7=>?_);have again: ∀ {σ7:St}{H7:Hp},aE X (pins++oo fp s5.heap) σ7 H7 s7->N σ7 H7-> ∃m,m<n/\ ∃i σ' H',aE X pins σ' H' s7/\tn i s7.heap/\(∀b∈fp,H' b=FB)/\W i m σ' H':=λ{σ7 H7} I7 n7=>by
   obtain⟨m',hm,w7⟩:=hN σ7 H7 n7;refine#[m',hm,i+1,σ7,H7,I7.Ph,T.keep _ _ _ st5 λb hb o e=>(I7.pin (b,o) (G8 _ (G8 _ (jF hb e)))).1,λb hb=>?_,w7];obtain⟨o,e,d⟩:=T.obj _ _ st5 b hb;exact(I7.pin (b,o) (G8 _ (G8 _ (jF hb e)))).2.1
  cases f with
  |next=>obtain⟨σ7,H7,I7,n7⟩:=q7;exact again I7 n7
  |cont=>obtain⟨σ7,H7,I7,n7⟩:=q7;exact again I7 n7
  |brk=>obtain⟨σ7,H7,I7,q7⟩:=q7;exact#[σ7,H7,I7.Ph,q7]
  |ret v=>obtain⟨x7,σ7,H7,I7,r7,q7⟩:=q7;exact#[x7,σ7,H7,I7.Ph,r7,q7]
end
theorem oJ {K:E1}{a:E4}{xs:EV V}{g:TG}{tb:TS}{D:d8}{σ:St}{H:Hp}(Pv:Fm->St->Hp->Prop) (h0:Pv 0 σ H) (hl: ∀i σ H,i<=xs.length->Pv i σ H->cC K H a xs)
  (hs: ∀i x σ H,xs[i]?=Fa x->Pv i σ H->g x σ H λσ2 H2=>tb { D with nx:=Pv (i+1),ct:=Pv (i+1),bk:=D.nx } σ2 H2) (hd: ∀σ H,Pv xs.length σ H->D.nx σ H):
  ∃W:Fm->Fm->St->Hp->Prop,(∃m,W 0 m σ H)/\ ∀i m σ H,W i m σ H->
   ((X2 K a).stop i H/\D.nx σ H)\/((X2 K a).go i H/\ ∃N:St->Hp->Prop,(∀σ' H',N σ' H'-> ∃m',m'<m/\W (i+1) m' σ' H')/\ ∀x H',(X2 K a).yld i H x H'->g x σ H' λσ2 H2=>tb { D with nx:=N,ct:=N,bk:=D.nx } σ2 H2):=by
 refine#[λi m σ H=>m=xs.length-i/\i<=xs.length/\Pv i σ H,#[xs.length,by simp,FI _,h0],?_];rintro i m σ H ⟨rfl,hi,p⟩;have q:=hl i σ H hi p;by_cases Uq:i<xs.length
 ·refine .inr #[#[xs,xs[i],q,by simp [Uq]],Pv (i+1),λσ' H' p'=>#[xs.length-(i+1),by lia,Gc,Uq,p'],λx H' y=>?_]
  obtain⟨e,y⟩:=y;subst e;exact hs i x σ _ (y xs q) p
 ·have e:i=xs.length:=by lia
  subst e;exact .inl #[#[xs,q,Fq _],hd σ H p]
theorem yh {lo:Int}{n:Fm}{g:TG}{tb:TS}{D:d8}{σ:St}{H:Hp}(Pv:Fm->St->Hp->Prop) (h0:Pv 0 σ H)
  (hs: ∀i σ H,i<n->Pv i σ H->g (.int (lo+i)) σ H λσ2 H2=>tb { D with nx:=Pv (i+1),ct:=Pv (i+1),bk:=D.nx } σ2 H2) (hd: ∀σ H,Pv n σ H->D.nx σ H):
  ∃W:Fm->Fm->St->Hp->Prop,(∃m,W 0 m σ H)/\ ∀i m σ H,W i m σ H->
   ((Itr lo n).stop i H/\D.nx σ H)\/((Itr lo n).go i H/\ ∃N:St->Hp->Prop,(∀σ' H',N σ' H'-> ∃m',m'<m/\W (i+1) m' σ' H')/\ ∀x H',(Itr lo n).yld i H x H'->g x σ H' λσ2 H2=>tb { D with nx:=N,ct:=N,bk:=D.nx } σ2 H2):=by
 refine#[λi m σ H=>m=n-i/\i<=n/\Pv i σ H,#[n,by simp,FI _,h0],?_];rintro i m σ H ⟨rfl,hi,p⟩;by_cases Uq:i<n
 ·refine .inr #[Uq,Pv (i+1),λσ' H' p'=>#[n-(i+1),by lia,Gc,Uq,p'],λx H' y=>?_]
  obtain⟨e,y⟩:=y;subst e y;exact hs i σ _ Uq p
 ·have e:i=n:=by lia
  subst e;exact .inl #[Fq _,hd σ H p]
abbrev R2:=V->V->Hp->VK->Prop
def kJ (X:Cx) (f:E3->E3->Sem E3) (r:R2):Prop:=
 ∀(pins:EV (E4×IG)) (s:E8) (σ:St) (H:Hp) (x y:V) (v u:E3) (Q:VK),aE X pins σ H s->bo x v->bo y u->r x y H Q->
  FG (model X.prog X.w) X.A (f v u) (EP X pins σ Q) X.xe s
def UnR (X:Cx) (f:E3->Sem E3) (r:V->Hp->VK->Prop):Prop:=
 ∀(pins:EV (E4×IG)) (s:E8) (σ:St) (H:Hp) (x:V) (v:E3) (Q:VK),aE X pins σ H s->bo x v->r x H Q->
  FG (model X.prog X.w) X.A (f v) (EP X pins σ Q) X.xe s
def gG (X:Cx) (f:E3) (r:EV V->Hp->VK->Prop):Prop:=
 ∀(pins:EV (E4×IG)) (s:E8) (σ:St) (H:Hp) (xs:EV V) (us:EV E3) (Q:VK),aE X pins σ H s->aY xs us->r xs H Q->
  FG (model X.prog X.w) X.A (call f us) (EP X pins σ Q) X.xe s
def tOp (r:R2) (ta tb:TE):TE:=λσ H Q=>ta σ H λx H1=>tb σ H1 λy H2=>r x y H2 Q
def tUn (r:V->Hp->VK->Prop) (ta:TE):TE:=λσ H Q=>ta σ H λx H1=>r x H1 Q
inductive rI (C:Int->Int->Prop) (g:Int->Int->V) (x:V) (y:V) (H:Hp) (Q:VK):Prop
 |mk (i j:Int) (_:x= .int i) (_:y= .int j) (_:C i j) (_:Q (g i j) H):rI C g x y H Q
inductive zy (g:Int->Int->V) (x:V) (y:V) (H:Hp) (Q:VK):Prop
 |mk (i j:Int) (_:x= .int i) (_:y= .int j) (_:Q (g i j) H):zy g x y H Q
inductive rU (g:Int->V) (x:V) (H:Hp) (Q:VK):Prop
 |mk (i:Int) (_:x= .int i) (_:Q (g i) H):rU g x H Q
section
variable {X:Cx}{a b c:Hv}{ta tb tc:TE}{pos:Pos}
theorem aag (ha:PE X a ta) (hb:PE X b tb) {pins:EV (E4×IG)}{s:E8}{σ:St}{H:Hp}{R:V->V->Hp->Prop}(I:aE X pins σ H s)
  (h:ta σ H λx H1=>tb σ H1 λy H2=>R x y H2) {Q:E3->E8->Prop}{f:E3->E3->Sem E3}
  (hf: ∀v u s2 x y H2,aE X pins σ H2 s2->bo x v->bo y u->R x y H2->FG (model X.prog X.w) X.A (f v u) Q X.xe s2):
  FG (model X.prog X.w) X.A (eval a X.env) (λv s₁=>FG (model X.prog X.w) X.A (eval b X.env) (λu s₂=>FG (model X.prog X.w) X.A (f v u) Q X.xe s₂) X.xe s₁) X.xe s:=by
 refine b9 (ha pins s σ H _ I h) λv s1 ⟨x,H1,I1,r1,q1⟩=>?_;refine b9 (hb pins s1 σ H1 _ I1 q1) λu s2 ⟨y,H2,I2,r2,q2⟩=>?_;exact hf v u s2 x y H2 I2 r1 r2 q2
theorem bW {r:R2}(ho:kJ X (Oj op) r) (ha:PE X a ta) (hb:PE X b tb):PE X (.BinOp a op b pos) (tOp r ta tb):=by
 rw[01];exact wpAny_BinOp (aag ha hb I h λv u s2 x y H2 I2 rx ry q=>ho pins s2 σ H2 x y v u Q I2 rx ry q)
theorem dL {r:V->Hp->VK->Prop}(ho:UnR X (unaryOp op) r) (ha:PE X a ta):PE X (.UnaryOp op a pos) (tUn r ta):=by
 rw[01];exact UnaryOp_ (b9 (ha pins s σ H _ I h) λv s1 ⟨x,H1,I1,r1,q1⟩=>ho pins s1 σ H1 x v Q I1 r1 q1)
theorem opI {f:E3->E3->Sem E3}{C:Int->Int->Prop}{g:Int->Int->Int}
  (rule: ∀(i j:Int) (t u:Tok) (s:E8) (Q:E3->E8->Prop) (E:E3->E8->Prop),C i j->Q (.int (g i j) s.toks) { s with toks:=s.toks+1 } ->FG (model X.prog X.w) X.A (f (.int i t) (.int j u)) Q E s):
  kJ X f (rI C λi j=> .int (g i j)):=by
 intro pins s σ H x y v u Q I rx ry h;obtain⟨i,j,rfl,rfl,hc,q⟩:=h;obtain⟨t,rfl⟩:=rx;obtain⟨t',rfl⟩:=ry;exact rule i j t t' s _ _ hc #[.int (g i j),H,I.tok _,#[_,Gc],q]
theorem afm {f:E3->E3->Sem E3}{g:Int->Int->Int}
  (rule: ∀(i j:Int) (t u:Tok) (s:E8) (Q:E3->E8->Prop) (E:E3->E8->Prop),Q (.int (g i j) s.toks) { s with toks:=s.toks+1 } ->FG (model X.prog X.w) X.A (f (.int i t) (.int j u)) Q E s):
  kJ X f (zy λi j=> .int (g i j)):=by
 intro pins s σ H x y v u Q I rx ry h;obtain⟨i,j,rfl,rfl,q⟩:=h;obtain⟨t,rfl⟩:=rx;obtain⟨t',rfl⟩:=ry;exact rule i j t t' s _ _ #[.int (g i j),H,I.tok _,#[_,Gc],q]
theorem Dz {f:E3->E3->Sem E3}{g:Int->Int->Gg}
  (rule: ∀(i j:Int) (t u:Tok) (s:E8) (Q:E3->E8->Prop) (E:E3->E8->Prop),Q (.bool (g i j)) s->FG (model X.prog X.w) X.A (f (.int i t) (.int j u)) Q E s):
  kJ X f (zy λi j=> .bl (g i j)):=by
 intro pins s σ H x y v u Q I rx ry h;obtain⟨i,j,rfl,rfl,q⟩:=h;obtain⟨t,rfl⟩:=rx;obtain⟨t',rfl⟩:=ry;exact rule i j t t' s _ _ #[.bl (g i j),H,I,Gc,q]
def aah (i j:Int):Prop:=(-(2 ^ 64)<i/\i<2 ^ 64)\/(-(2 ^ 64)<j/\j<2 ^ 64)
theorem aah.ok {i j:Int}(h:aah i j):IntMulOk i j:=by
 rcases h with⟨h1,h2⟩|⟨h1,h2⟩
 ·exact .of_left (intBits_le_64 h1 h2)
 ·exact .of_right (intBits_le_64 h1 h2)
theorem dP:kJ X (Oj .Add) (zy λi j=> .int (i+j)):=afm λ_ _ _ _ _ _ _ q=>add_int q
theorem cV:kJ X (Oj .Sub) (zy λi j=> .int (i-j)):=afm λ_ _ _ _ _ _ _ q=>sub_int q
theorem zL:kJ X (Oj .Mult) (rI aah λi j=> .int (i*j)):=opI λ_ _ _ _ _ _ _ hc q=>mul_int q hc.ok
theorem DY:kJ X (Oj .Mod) (rI (λ_ j=>j≠0) λi j=> .int (i.fmod j)):=opI λ_ _ _ _ _ _ _ hc q=>mod_int' hc q
theorem unI {f:E3->Sem E3}{g:Int->Int}
  (rule: ∀(i:Int) (t:Tok) (s:E8) (Q:E3->E8->Prop) (E:E3->E8->Prop),Q (.int (g i) s.toks) { s with toks:=s.toks+1 } ->FG (model X.prog X.w) X.A (f (.int i t)) Q E s):
  UnR X f (rU λi=> .int (g i)):=by
 intro pins s σ H x v Q I rx h;obtain⟨i,rfl,q⟩:=h;obtain⟨t,rfl⟩:=rx;exact rule i t s _ _ #[.int (g i),H,I.tok _,#[_,Gc],q]
theorem cK:UnR X (unaryOp .USub) (rU λi=> .int (-i)):=unI λ_ _ _ _ _ q=>neg_int q
end
def aai:V->V->Gg
 | .Iw, .Iw=>FM| .Iw, .int _=>FM| .int _, .Iw=>FM| .Iw, .bl _=>FM| .bl _, .Iw=>FM| .Iw, .str _=>FM| .str _, .Iw=>FM
 | .int _, .int _=>FM| .bl _, .bl _=>FM| .str _, .str _=>FM| .Se _, .Se _=>FM
 | .int _, .str _=>FM| .str _, .int _=>FM| .bl _, .str _=>FM| .str _, .bl _=>FM
 |_,_=>FS
inductive rEq (x:V) (y:V) (H:Hp) (Q:VK):Prop
 |mk (_:aai x y=FM) (_:Q (.bl (decide (x=y))) H):rEq x y H Q
inductive rNe (x:V) (y:V) (H:Hp) (Q:VK):Prop
 |mk (_:aai x y=FM) (_:Q (.bl (!decide (x=y))) H):rNe x y H Q
theorem xu {i j:Int} :decide (V.int i=V.int j)=(i == j):=by
 rw[GZ];simp
theorem AN {i j:Gg} :decide (V.bl i=V.bl j)=(i == j):=by
 rw[GZ];simp
theorem wa {i j:FD} :decide (V.str i=V.str j)=(i == j):=by
 rw[GZ];simp
theorem wJ {i j:Jk IP} :decide (V.Se i=V.Se j)=(i.toList == j.toList):=by
 rw[GZ];cases i;cases j;simp
section
variable {X:Cx}{a b c:Hv}{ta tb tc:TE}{pos:Pos}
theorem bG {pins:EV (E4×IG)}{σ:St}{H:Hp}{s:E8}{Q:VK}{k k':Gg}(I:aE X pins σ H s) (q:Q (.bl k) H) (e:k=k'):EP X pins σ Q (.bool k') s:=by
 subst e;exact#[.bl k,H,I,Gc,q]
theorem b8:kJ X (Ij .Eq) rEq:=by
 intro pins s σ H x y v u Q I rx ry h;obtain⟨hs,q⟩:=h;cases x with
 |Iw=>
  cases rx;cases y with
  |Iw=>cases ry;exact PySem.EqNone.eq_none_none (bG I q (by simp))
  |bl j=>cases ry;exact PySem.EqNone.eq_none_bool (bG I q (by simp))
  |int j=>obtain⟨t',rfl⟩:=ry;exact PySem.EqNone.eq_none_int (bG I q (by simp))
  |str j=>obtain⟨t',rfl⟩:=ry;exact PySem.EqNone.eq_none_str (bG I q (by simp))
  |_=>exact Fv (show FS=FM from hs) EZ
 |bl i=>
  cases rx;cases y with
  |Iw=>cases ry;exact PySem.EqNone.eq_bool_none (bG I q (by simp))
  |bl j=>cases ry;exact eq_bool (bG I q AN)
  |str j=>obtain⟨t',rfl⟩:=ry;exact PySem.EqMixed.eq_bool_str (bG I q (by simp))
  |_=>exact Fv (show FS=FM from hs) EZ
 |int i=>
  obtain⟨t,rfl⟩:=rx;cases y with
  |Iw=>cases ry;exact PySem.EqNone.eq_int_none (bG I q (by simp))
  |int j=>obtain⟨t',rfl⟩:=ry;exact eq_int (bG I q xu)
  |str j=>obtain⟨t',rfl⟩:=ry;exact PySem.EqMixed.eq_int_str (bG I q (by simp))
  |_=>exact Fv (show FS=FM from hs) EZ
 |str i=>
  obtain⟨t,rfl⟩:=rx;cases y with
  |Iw=>cases ry;exact PySem.EqNone.eq_str_none (bG I q (by simp))
  |bl j=>cases ry;exact PySem.EqMixed.eq_str_bool (bG I q (by simp))
  |int j=>obtain⟨t',rfl⟩:=ry;exact PySem.EqMixed.eq_str_int (bG I q (by simp))
  |str j=>obtain⟨t',rfl⟩:=ry;exact eq_str (bG I q wa)
  |_=>exact Fv (show FS=FM from hs) EZ
 |Se i=>
  obtain⟨t,rfl⟩:=rx;cases y with
  |Se j=>obtain⟨t',rfl⟩:=ry;exact PySem.W.eq_bytes (bG I q wJ)
  |_=>exact Fv (show FS=FM from hs) EZ
 |_=>cases y<;>exact Fv (show FS=FM from hs) EZ
theorem py:kJ X (Ij .NotEq) rNe:=by
 intro pins s σ H x y v u Q I rx ry h;obtain⟨hs,q⟩:=h;cases x with
 |Iw=>
  cases rx;cases y with
  |Iw=>cases ry;exact PySem.EqNone.ne_none_none (bG I q (by simp))
  |bl j=>cases ry;exact PySem.EqNone.ne_none_bool (bG I q (by simp))
  |int j=>obtain⟨t',rfl⟩:=ry;exact PySem.EqNone.ne_none_int (bG I q (by simp))
  |str j=>obtain⟨t',rfl⟩:=ry;exact PySem.EqNone.ne_none_str (bG I q (by simp))
  |_=>exact Fv (show FS=FM from hs) EZ
 |bl i=>
  cases rx;cases y with
  |Iw=>cases ry;exact PySem.EqNone.ne_bool_none (bG I q (by simp))
  |bl j=>cases ry;exact ne_bool (bG I q (Ga not AN))
  |str j=>obtain⟨t',rfl⟩:=ry;exact PySem.EqMixed.ne_bool_str (bG I q (by simp))
  |_=>exact Fv (show FS=FM from hs) EZ
 |int i=>
  obtain⟨t,rfl⟩:=rx;cases y with
  |Iw=>cases ry;exact PySem.EqNone.ne_int_none (bG I q (by simp))
  |int j=>obtain⟨t',rfl⟩:=ry;exact ne_int (bG I q (Ga not xu))
  |str j=>obtain⟨t',rfl⟩:=ry;exact PySem.EqMixed.ne_int_str (bG I q (by simp))
  |_=>exact Fv (show FS=FM from hs) EZ
 |str i=>
  obtain⟨t,rfl⟩:=rx;cases y with
  |Iw=>cases ry;exact PySem.EqNone.ne_str_none (bG I q (by simp))
  |bl j=>cases ry;exact PySem.EqMixed.ne_str_bool (bG I q (by simp))
  |int j=>obtain⟨t',rfl⟩:=ry;exact PySem.EqMixed.ne_str_int (bG I q (by simp))
  |str j=>obtain⟨t',rfl⟩:=ry;exact ne_str (bG I q (Ga not wa))
  |_=>exact Fv (show FS=FM from hs) EZ
 |Se i=>
  obtain⟨t,rfl⟩:=rx;cases y with
  |Se j=>obtain⟨t',rfl⟩:=ry;exact PySem.W.ne_bytes (bG I q (Ga not wJ))
  |_=>exact Fv (show FS=FM from hs) EZ
 |_=>cases y<;>exact Fv (show FS=FM from hs) EZ
theorem ka:kJ X (Ij .Lt) (zy λi j=> .bl (decide (i<j))):=Dz λ_ _ _ _ _ _ _ q=>lt_int q
theorem eP:kJ X (Ij .LtE) (zy λi j=> .bl (decide (i<=j))):=Dz λ_ _ _ _ _ _ _ q=>le_int q
theorem gk:kJ X (Ij .Gt) (zy λi j=> .bl (decide (j<i))):=Dz λ_ _ _ _ _ _ _ q=>gt_int q
theorem afn:kJ X (Ij .GtE) (zy λi j=> .bl (decide (j<=i))):=Dz λ_ _ _ _ _ _ _ q=>ge_int q
theorem aaj:kJ X (Ij .Is) (λx y H Q=>y= .Iw/\Q (.bl (decide (x= .Iw))) H):=by
 intro pins s σ H x y v u Q I rx ry h;obtain⟨rfl,q⟩:=h;cases ry;refine is_none_gen (bG I q ?_);cases x<;>first
  | (cases rx;rfl)
  | (obtain⟨t,rfl⟩:=rx;rfl)
theorem D8:kJ X (Ij .IsNot) (λx y H Q=>y= .Iw/\Q (.bl (!decide (x= .Iw))) H):=by
 intro pins s σ H x y v u Q I rx ry h;obtain⟨rfl,q⟩:=h;cases ry;refine isnot_none_gen (bG I q ?_);cases x<;>first
  | (cases rx;rfl)
  | (obtain⟨t,rfl⟩:=rx;rfl)
theorem aM (b:Hv) (h:op≠ .In:=by decide) (h2:op≠ .NotIn:=by decide):behindInMarks op b=FS:=by
 have e1:(op == CmpOp.In)=FS:=by cases op<;>first|rfl|exact Fv rfl h
 have e2:(op == CmpOp.NotIn)=FS:=by cases op<;>first|rfl|exact Fv rfl h2
 cases b<;>simp [behindInMarks,e1,e2]
theorem ca {r:R2}(ho:kJ X (Ij op) r) (ha:PE X a ta) (hb:PE X b tb) (hm:behindInMarks op b=FS):PE X (.Compare a [op] [b] pos) (tOp r ta tb):=by
 rw[01];exact wpAny_Compare1 (aag ha hb I h λv u s2 x y H2 I2 rx ry q=>ho pins s2 σ H2 x y v u Q I2 rx ry q) hm
def CF (t:TE):TT:=λσ H Q=>t σ H (vG Q)
theorem a9 {r:R2}(ho:kJ X (Ij op) r) (ha:PE X a ta) (hb:PE X b tb) (hm:behindInMarks op b=FS):PT X (.Compare a [op] [b] pos) (CF (tOp r ta tb)):=by
 rw[01];refine Wb (b9 (ha pins s σ H _ I h) λv s1 ⟨x,H1,I1,r1,q1⟩=>b9 (hb pins s1 σ H1 _ I1 q1) λu s2 ⟨y,H2,I2,r2,q2⟩=>
  b9 (ho pins s2 σ H2 x y v u _ I2 r1 r2 q2) λc s3 ⟨z,H3,I3,r3,k,e,q3⟩=>?_) hm
 subst e;cases r3;exact ID #[H3,I3,q3]
def uI (r r':R2) (ta tb tc:TE):TE:=λσ H Q=>ta σ H λx H1=>tb σ H1 λy H2=>r x y H2 λz H3=> ∃k,z= .bl k/\
 (if k=FM then tc σ H3 λw' H4=>r' y w' H4 Q else Q (.bl FS) H3)
theorem iC {r r':R2}(ho:kJ X (Ij op) r) (Ri:kJ X (Ij op') r') (ha:PE X a ta) (hb:PE X b tb) (hc:PE X c tc)
  (hm:U9 [op,op'] [b,c]=FS:=by with_unfolding_all rfl):PE X (.Compare a [op,op'] [b,c] pos) (uI r r' ta tb tc):=by
 rw[01];refine Compare_chain (b9 (ha pins s σ H _ I h) λv s1 ⟨x,H1,I1,r1,q1⟩=>chain_link (b9 (hb pins s1 σ H1 _ I1 q1) λu s2 ⟨y,H2,I2,r2,q2⟩=>
  b9 (ho pins s2 σ H2 x y v u _ I2 r1 r2 q2) λd s3 ⟨z,H3,I3,r3,k,e,q3⟩=>?_)) hm
 subst e;cases r3;refine ID ?_;cases k with
 |false=>exact ite_ff #[.bl FS,H3,I3,Gc,q3]
 |true=>exact ite_tt (chain_last (b9 (hc pins s3 σ H3 _ I3 q3) λw' s4 ⟨z',H4,I4,r4,q4⟩=>Ri pins s4 σ H4 y z' u w' Q I4 r2 r4 q4))
theorem Cy {r r':R2}(ho:kJ X (Ij op) r) (Ri:kJ X (Ij op') r') (ha:PE X a ta) (hb:PE X b tb) (hc:PE X c tc)
  (hm:U9 [op,op'] [b,c]=FS:=by with_unfolding_all rfl):PT X (.Compare a [op,op'] [b,c] pos) (CF (uI r r' ta tb tc)):=by
 rw[01];refine isTrue_chain (b9 (ha pins s σ H _ I h) λv s1 ⟨x,H1,I1,r1,q1⟩=>test_link (b9 (hb pins s1 σ H1 _ I1 q1) λu s2 ⟨y,H2,I2,r2,q2⟩=>
  b9 (ho pins s2 σ H2 x y v u _ I2 r1 r2 q2) λd s3 ⟨z,H3,I3,r3,k,e,q3⟩=>?_)) hm
 subst e;cases r3;refine ID ?_;cases k with
 |false=>
  obtain⟨k',e',q'⟩:=q3;cases e';exact ite_ff #[H3,I3,q']
 |true=>
  refine ite_tt (test_last (b9 (hc pins s3 σ H3 _ I3 q3) λw' s4 ⟨z',H4,I4,r4,q4⟩=>b9 (Ri pins s4 σ H4 y z' u w' _ I4 r2 r4 q4) λd' s5 ⟨z2,H5,I5,r5,k2,e2,q5⟩=>?_));subst e2;cases r5;exact ID #[H5,I5,q5]
theorem qk:(FP:Fm)<2 ^ 63:=by rw[HP];decide
theorem mM {x:V}(r:aY [x] us): ∃u,us=[u]/\bo x u:=by
 cases r with
 |cons r1 r2=>cases r2;exact#[_,Gc,r1]
theorem vals2 {x y:V}(r:aY [x,y] us): ∃u w',us=[u,w']/\bo x u/\bo y w':=by
 cases r with
 |cons r1 r2=>
  cases r2 with
  |cons r3 r4=>cases r4;exact#[_,_,Gc,r1,r3]
theorem tU:gG X (.builtin "abs") (λxs H Q=> ∃i,xs=[.int i]/\Q (.int (if i<0 then-i else i)) H):=by
 intro pins s σ H xs us Q I r h;obtain⟨i,rfl,q⟩:=h;obtain⟨u,rfl,t,rfl⟩:=mM r;exact call_abs_int λu tk=>#[.int (if i<0 then-i else i),H,I.tok _,#[_,Gc],q]
end
structure vF (h:GI) (x dx C:E4) (mA:FD->Fd E3):Prop where
 obj:h.get? x=Fa (Jo C dx)
 ns:h.Ns1 dx mA
 ne:dx≠x
theorem xO {h:GI}{dx:E4}{mA:FD->Fd E3}(n:h.Ns1 dx mA): ∃od,h.get? dx=Fa od/\ ∀name,NY name od=Fa (mA name):=by
 obtain⟨o,es,ep,ho,hd,hk,_,hm⟩:=n;refine#[o,ho,λname=>?_];have e:=hm name;unfold nsFind findBy at e;rw[<-UH] at e;unfold NY;rw[hd];dsimp only;split
 ·rename_i y q
  rw[q] at e;exact Ga Fa e
 ·rename_i q
  rw[q] at e;have a:es.toList.any (·.refKey)=FS:=by
   rw[Vt];intro y hy;obtain⟨z,t,akx⟩:=hk y (Ti.mp hy);simp [Oi.refKey,akx]
  have a': ¬es.toList.any (·.refKey)=FM:=by rw[a];exact EZ
  rw[E5 a'];exact Ga Fa e
theorem vF.look {h:GI}{x dx C:E4}{mA:FD->Fd E3}(I:vF h x dx C mA): ∃od,PySem.W.InstAt h x (Jo C dx) C (Fa od)/\ ∀name,NY name od=Fa (mA name):=
 let ⟨od,ho,hl⟩:=xO I.ns
 #[od,#[I.obj,Gc,Gc,ho],hl]
section
variable {prog:FW}{w:Gx}{A:GG}{E:E3->E8->Prop}{s:E8}{K:E1}{x dx C f:E4}{mA:FD->Fd E3}{name:FD}{v:E3}
theorem Dx {Q:E3->E8->Prop}(X:K.In s.heap) (I:vF s.heap x dx C mA) (hg:Nb K C name=FM) (hh:OV K C=FM)
  (ha:HF K (.ref C) name=Fa FB) (hv:mA name=Fa v) (hv':UL v=FM) (h:Q v { s with toks:=s.toks+1 }):
  FG (model prog w) A (SR (.ref x) name expr) Q E s:=by
 obtain⟨od,J,hl⟩:=I.look;exact PySem.W.get_value X J (Og hg).1 (PySem.W.findObj_own hh ha rfl (by rw[hl,hv])) hv' h
theorem AV {Q:E3×EV E3->E8->Prop}(X:K.In s.heap) (I:vF s.heap x dx C mA) (hg:Nb K C name=FM)
  (hf:HF K (.ref C) name=Fa (Fa (.ref f))) (ht:OY K (.ref f)=FM) (hv:mA name=FB) (h:Q (.ref f,[.ref x]) s):
  FG (model prog w) A (KU (.ref x) name pl) Q E s:=by
 obtain⟨od,J,hl⟩:=I.look;exact PySem.W.method_fn X J (Og hg).1 (Og hg).2 hf (beq_iff_eq.mp ht) (by show(NY name od).map (·.isSome)=Fa FS;rw[hl,hv];rfl) h
theorem DX {ns:EV FD}{Q:MZ->E8->Prop}(X:K.In s.heap) (I:vF s.heap x dx C mA)
  (hs:HF K (.ref C) "__setattr__"=Fa (Fa (.builtin "object.__setattr__"))) (hp:T8 K C=FM) (ht:Qk K C name=Fa FB) (hh:OV K C=FM)
  (hw:NQ mA ns) (hsz:ns.length<=FP)
  (h: ∀h',vF h' x dx C (λy=>if y=name then Fa v else mA y)->My dx s.heap h'->Q () { s with heap:=h',toks:=s.toks+2 }):
  FG (model prog w) A (SS (.ref x) name v) Q E s:=by
 obtain⟨od,J,hl⟩:=I.look;refine PySem.W.set_plain X J hs (PySem.W.osa_open (s:= { s with toks:=s.toks+1 }) (r:=FB) X J hp ht λb=>?_);obtain⟨cd,hc,Xe⟩:=PySem.W.any_some hh;have hx:s.heap.get? x=Fa ⟨.ref C,Fa dx, .plain, [].toArray⟩:=I.obj;refine Fn (FT (Fn (Fn (wpAny_loadPart hx (Fn (PySem.W.Looks.here (s:= { s with toks:=s.toks+1 }) (PySem.W.looks_clsIn X hc) ?_))))));rw[Xe];refine FT (a:=Fa dx) (Fn (FT (Fn ?_)));refine Vu (s:= { s with toks:=s.toks+1 }) I.ns λh' hn2 Vm=>?_;obtain⟨oD,esD,epD,hoD,hdD,hcD⟩:=hn2.count (NQ.cons name v hw);refine Fn (Rm hoD (by rw[hdD];exact Rn (FA hcD (by rw[Fj];lia))) ?_);exact FT (h _ #[(Vm.2 _ (Iu I.ne)).trans I.obj,hn2,I.ne] Vm)
theorem Av {R:Result->E8->Prop}(X:K.In s.heap) (hm:Ve K C=FM)
  (hi:HF K (.ref C) "__init__"=Fa (Fa (.ref f))) (hf:VF K (.ref f)=Fa (.type "function"))
  (h:Lf (model prog w) (A.under (.builtin "type.__call__" #[.ref C::vs,kw])) (.call (.ref f) #[.ref (s.heap.objs.size+1)::vs,kw]) (PySem.W.InitBack (s.heap.objs.size+1) R)
   { s with heap:=(s.heap.push Iq).push (Jo C s.heap.objs.size) }):
  Lf (model prog w) A (.call (.ref C) #[vs,kw]) R s:=by
 obtain⟨hh,g,d,t,os⟩:=s;exact PySem.W.make_core (PySem.W.makes_of X hm) (PySem.W.looks_findIn X hi) (λself=>PySem.W.bind_fn X self hf) (.inl rfl) h
end
def HN (f:FD) (v:V):EV (FD×V)->EV (FD×V)
 |[]=>[(f,v)]
 | (g,x)::r=>if g=f then(g,v)::r else(g,x)::HN f v r
theorem iQ (f g:FD) (v:V): ∀fs:EV (FD×V),(HN f v fs).lookup g=if g=f then Fa v else fs.lookup g
 |[]=>by
  show Ji g [(f,v)]=_
  by_cases h:g=f
  ·have hb:(g == f)=FM:=beq_iff_eq.mpr h
   simp only[Ji,hb,E7 h]
  ·have hb:(g == f)=FS:=beq_eq_false_iff_ne.mpr h
   simp only[Ji,hb,E5 h]
 | (k,x)::r=>by
  have ih:=iQ f g v r;rw[show HN f v ((k,x)::r)=(if k=f then(k,v)::r else(k,x)::HN f v r) from rfl]
  by_cases hk:k=f
  ·rw[E7 hk]
   by_cases h:g=k
   ·have hb:(g == k)=FM:=beq_iff_eq.mpr h
    simp only[Ji,hb,E7 (h.trans hk)]
   ·have hb:(g == k)=FS:=beq_eq_false_iff_ne.mpr h
    simp only[Ji,hb,E5 (λe:g=f=>h (e.trans hk.symm))]
  ·rw[E5 hk]
   by_cases h:g=k
   ·have hb:(g == k)=FM:=beq_iff_eq.mpr h
    simp only[Ji,hb,E5 (λe:g=f=>hk (h.symm.trans e))]
   ·have hb:(g == k)=FS:=beq_eq_false_iff_ne.mpr h
    simp only[Ji,hb];exact ih
theorem gN (f:FD) (v:V): ∀fs:EV (FD×V),f∈(HN f v fs).map (·.1)/\ ∀g,g∈fs.map (·.1)->g∈(HN f v fs).map (·.1)
 |[]=>#[by simp [HN],λg h=>by simp at h]
 | (k,x)::r=>by
  obtain⟨i1,i2⟩:=gN f v r;rw[show HN f v ((k,x)::r)=(if k=f then(k,v)::r else(k,x)::HN f v r) from rfl]
  by_cases hk:k=f
  ·rw[E7 hk]
   subst hk;exact#[by simp,λg h=>by simpa using h]
  ·rw[E5 hk]
   refine#[?_,λg h=>?_]
   ·rw[FC]
    exact E9 _ i1
   ·rw[FC] at h ⊢
    rcases Fi.mp h with e|e
    ·exact Fi.mpr (.inl e)
    ·exact E9 _ (i2 g e)
theorem cS (f:FD) (v:V): ∀fs:EV (FD×V),(HN f v fs).length<=fs.length+1
 |[]=>by simp [HN]
 | (k,x)::r=>by
  have ih:=cS f v r;rw[show HN f v ((k,x)::r)=(if k=f then(k,v)::r else(k,x)::HN f v r) from rfl]
  by_cases hk:k=f
  ·rw[E7 hk,Fj,Fj];lia
  ·rw[E5 hk,Fj,Fj];lia
theorem fU.some_of {v:V}{o:Fd E3}(r:fU (Fa v) o): ∃u,o=Fa u/\bo v u:=by
 cases o with
 |none=>exact(show False from r).elim
 |some u=>exact#[u,Gc,r]
theorem fU.none_of {o:Fd E3}(r:fU FB o):o=FB:=by
 cases o with
 |none=>rfl
 |some u=>exact(show False from r).elim
theorem pB {v:V}{u:E3}(r:bo v u):UL u=FM:=by
 cases v with
 |Iw=>cases (show u=HK from r);rfl
 |bl b=>cases (show u=MG b from r);rfl
 |int i=>obtain⟨t,e⟩:=(show∃t,u=J6 i t from r);cases e;rfl
 |str x=>obtain⟨t,e⟩:=(show∃t,u=Ov x t from r);cases e;rfl
 |Se b=>obtain⟨t,e⟩:=(show∃t,u=E3.bytes b t from r);cases e;rfl
 |Xz b=>obtain⟨t,e⟩:=(show∃t,u=Tr b t from r);cases e;rfl
 |ref a=>cases (show u=FL a from r);rfl
 |ty n=>cases (show u=MH n from r);rfl
section
variable {P:FW}{w:Gx}{H H':Hp}{h h':GI}{a C dx:E4}{fs fs':EV (FD×V)}
theorem mi (Ic:ia P w H h) (e:H a=Fa (.ins C dx fs)): ∃mA,vF h a dx C mA/\(∀f,fU (fs.lookup f) (mA f))/\NQ mA (fs.map (·.1))/\fs.length<=1000/\H dx=Fa (.own a):=by
 obtain⟨d,z,ne,ob,mA,n,r,q⟩:=(show cu P w H h a (.ins C dx fs) from Ic a _ e);exact#[mA,#[ob,n,ne],r,q,z,d]
end
theorem gI.get {K:E1}{C:E4}(c:gI K C) (f:FD):Nb K C f=FM:=c.pg
theorem ao.afo {K:E1}{C:E4}{f:FD}(n:ao K C f):Qk K C f=Fa FB:=by
 unfold Qk;rw[show HF K (.ref C) f=Fa FB from n]
 rfl
section
variable {X:Cx}{pins:EV (E4×IG)}{σ:St}{H:Hp}{s:E8}{a C dx:E4}{fs:EV (FD×V)}{f:FD}{v:V}{A:GG}{E:E3->E8->Prop}
theorem mH {b:Gg}{Q:E3->E8->Prop}(I:aE X pins σ H s) (e:H a=Fa (.ins C dx fs)) (c:gI X.K C) (n:ao X.K C f) (l:fs.lookup f=Fa v)
  (h: ∀u s',aE X pins σ H s'->bo v u->Q u s'):FG (model X.prog X.w) A (SR (.ref a) f b) Q E s:=by
 obtain⟨mA,O,r,_,_,_⟩:=mi I.Ic e;obtain⟨u,hu,ru⟩:=fU.some_of (v:=v) (o:=mA f) (by rw[<-l];exact r f);exact Dx I.Nq O (c.get f) c.hd n hu (pB ru) (h u _ (I.tok _) ru)
theorem mV {m:FD}{g:E4}{Q:E3×EV E3->E8->Prop}(I:aE X pins σ H s) (e:H a=Fa (.ins C dx fs)) (c:gI X.K C) (k:Meth X.K C m g) (l:fs.lookup m=FB)
  (h:Q (.ref g,[.ref a]) s):FG (model X.prog X.w) A (KU (.ref a) m pl) Q E s:=by
 obtain⟨mA,O,r,_,_,_⟩:=mi I.Ic e;have hn:mA m=FB:=fU.none_of (by rw[<-l];exact r m);exact AV I.Nq O (c.get m) k.at_ k.fn hn h
theorem mJ {y:V}{u:E3}{Q:MZ->E8->Prop}(I:aE X pins σ H s) (e:H a=Fa (.ins C dx fs)) (c:gI X.K C) (n:ao X.K C f) (hl:fs.length<1000) (ry:bo y u)
  (h: ∀s',aE X pins σ (aF H a (.ins C dx (HN f y fs))) s'->Q () s'):FG (model X.prog X.w) A (SS (.ref a) f u) Q E s:=by
 obtain⟨mA,O,r,wi,_,ho⟩:=mi I.Ic e;have hz:(fs.map (·.1)).length<=FP:=by rw[Fh,HP];lia
 refine DX I.Nq O c.sa c.po n.afo c.hd wi hz λh' O' sb=>h _ ?_;have hd: ∃o,h'.get? dx=Fa o:=let ⟨o,_,_,e',_⟩:=O'.ns;#[o,e'];refine I.write (x:=a) (e:=dx) (by rw[e];exact G7) (.inr ho) (λb q hb z=>(sb.2 b hb).trans z) hd ?_;refine#[by rw[ac O.ne];exact ho,?_,O.ne,O'.obj,_,O'.ns,λg=>?_,λg hg=>?_]
 ·have:=cS f y fs;lia
 ·show fU ((HN f y fs).lookup g) (if g=f then Fa u else mA g)
  rw[iQ];by_cases q:g=f
  ·rw[E7 q,E7 q];exact ry
  ·rw[E5 q,E5 q];exact r g
 ·by_cases q:g=f
  ·rw[q];exact(gN f y fs).1
  ·refine(gN f y fs).2 g (wi g λz=>hg ?_)
   show(if g=f then Fa u else mA g)=FB
   rw[E5 q];exact z
theorem aE.made (I:aE X pins σ H s):aE X pins σ (aF (aF H s.heap.objs.size (.own (s.heap.objs.size+1))) (s.heap.objs.size+1) (.ins C s.heap.objs.size []))
  { s with heap:=(s.heap.push Iq).push (Jo C s.heap.objs.size) } :=by
 have e1:(s.heap.push Iq).get? s.heap.objs.size=Fa Iq:=GK s.heap rfl
 have e2:((s.heap.push Iq).push (Jo C s.heap.objs.size)).get? (s.heap.objs.size+1)=Fa (Jo C s.heap.objs.size):=by
  have:=GK (s.heap.push Iq) (o:=Jo C s.heap.objs.size) rfl
  rwa [HC] at this
 have e3:(s.heap.push Iq).Ns s.heap.objs.size (λ_=>FB):=#[Iq, [].toArray,_,e1,Gc,(λe he=>Fv he (by simp)),λ_=>rfl]
 have I1:=I.laid (a:=s.heap.objs.size) (o:= .own (s.heap.objs.size+1)) (h':=s.heap.push Iq) (t':=s.toks) (λb u q=>Fl _ q) (Fq _) #[_,e1]
 refine I1.laid (a:=s.heap.objs.size+1) (o:= .ins C s.heap.objs.size []) (t':=s.toks) (λb u q=>Fl _ q) (J1 (HC _ _)) ?_;have ne:s.heap.objs.size≠s.heap.objs.size+1:=GQ (Ht _);refine#[by rw[ac ne,ae],FI _,ne,e2,λ_=>FB,(OQ e3).at λo q=>Fl _ q,λ_=>G7,λy hy=>Fv rfl hy]
theorem wm {prog:FW}{w:Gx}{env:Env}{e:Hv}{f:FD}{pos:Pos}{s:E8}{Q:E3->E8->Prop}(hb:Im e f env (eval e env)=eval e env)
  (h:FG (model prog w) A (eval e env) (λo s₁=>FG (model prog w) A (SR o f FM) Q E s₁) E s):FG (model prog w) A (eval (.Attribute e f pos) env) Q E s:=
 Attribute_any_ h (by rw[arm_eval_Attribute,hb])
end
inductive dB (K:E1) (f:FD) (R:V->Hp->Prop) (x:V) (H1:Hp):Prop
 |mk (a C dx:E4) (fs:EV (FD×V)) (v:V) (_:x= .ref a) (_:H1 a=Fa (.ins C dx fs)) (_:gI K C) (_:ao K C f) (_:fs.lookup f=Fa v) (_:R v H1):dB K f R x H1
def aky (K:E1) (ta:TE) (f:FD):TE:=λσ H Q=>ta σ H (dB K f Q)
def akz (K:E1) (ta tv:TE) (f:FD):TS:=λD σ H=>tv σ H λy H1=>ta σ H1 λx H2=> ∃a C dx fs,x= .ref a/\H2 a=Fa (.ins C dx fs)/\gI K C/\ao K C f/\fs.length<1000/\
 D.nx σ (aF H2 a (.ins C dx (HN f y fs)))
def afp (X:Cx) (op:Operator) (rd:V->V->Hp->VK->Prop):Prop:=
 ∀(pins:EV (E4×IG)) (s:E8) (σ:St) (H:Hp) (x y:V) (u v:E3) (Q:VK),aE X pins σ H s->bo x u->bo y v->rd x y H Q->FG (model X.prog X.w) X.A (inplaceOp op u v) (EP X pins σ Q) X.xe s
def DG (K:E1) (ta tv:TE) (rd:V->V->Hp->VK->Prop) (f:FD):TS:=λD σ H=>ta σ H λx H1=> ∃a C dx fs v,x= .ref a/\H1 a=Fa (.ins C dx fs)/\gI K C/\ao K C f/\fs.lookup f=Fa v/\
 tv σ H1 λy H2=>rd v y H2 λz H3=> ∃dx' fs',H3 a=Fa (.ins C dx' fs')/\fs'.length<1000/\D.nx σ (aF H3 a (.ins C dx' (HN f z fs')))
section
variable {X:Cx}{o e J7:Hv}{f:FD}{pos Nt afq:Pos}{ta tv:TE}
theorem ah (he:PE X e ta) (hb:Im e f X.env (eval e X.env)=eval e X.env):PE X (.Attribute e f pos) (aky X.K ta f):=by
 rw[01];refine wm hb (b9 (he pins s σ H _ I h) λu s1 ⟨x,H1,I1,rx,a,C,dx,fs,v,ex,ea,c,n,l,q⟩=>?_);subst ex;obtain rfl:u=FL a:=rx;exact mH I1 ea c n l λu' s2 I2 ru=>#[v,H1,I2,ru,q]
theorem b3 (ha:PE X o ta) (hv:PE X J7 tv) (hs:Lx J7 (Fa (.Attribute o f Nt)) pos.line X.env=pure FS):PS X (.Assign [.Attribute o f Nt] J7 pos) (akz X.K ta tv f):=by
 intro pins s σ H D I h;refine Md (b9 (hv pins s σ H _ I h) λu s1 ⟨y,H1,I1,ry,q⟩=>b9 (ha pins s1 σ H1 _ I1 q) λov s2 ⟨x,H2,I2,rx,a,C,dx,fs,ex,ea,c,n,l,q2⟩=>?_) hs;subst ex;obtain rfl:ov=FL a:=rx;exact mJ I2 ea c n l ry λs3 I3=>#[σ,_,I3,q2]
theorem gD {rd:V->V->Hp->VK->Prop}(ha:PE X o ta) (hv:PE X J7 tv) (Xf:afp X op rd):PS X (.AugAssign (.Attribute o f afq) op J7 pos) (DG X.K ta tv rd f):=by
 intro pins s σ H D I h;refine wpAny_AugAssign_AttributeAny (b9 (ha pins s σ H _ I h) λov s1 ⟨x,H1,I1,rx,a,C,dx,fs,v,ex,ea,c,n,l,q⟩=>?_);subst ex;obtain rfl:ov=FL a:=rx;refine mH I1 ea c n l λu s2 I2 ru=>b9 (hv pins s2 σ H1 _ I2 q) λw3 s3 ⟨y,H2,I3,ry,q3⟩=>b9 (Xf pins s3 σ H2 v y u w3 _ I3 ru ry q3) λw4 s4 ⟨z,H3,I4,rz,dx',fs',ea',l',q4⟩=>?_;exact mJ I4 ea' c n l' rz λs5 I5=>#[σ,_,I5,q4]
def akA:V->V->Hp->VK->Prop:=λx y H Q=> ∃i j,x= .int i/\y= .int j/\Q (.int (i+j)) H
theorem mP:afp X .Add akA:=by
 rintro pins s σ H x y u v Q I rx ry ⟨i,j,rfl,rfl,q⟩;obtain⟨t,rfl⟩:=(show∃t,u=J6 i t from rx);obtain⟨t',rfl⟩:=(show∃t',v=J6 j t' from ry);exact PyProof.Rows.iadd_int #[.int (i+j),H,I.tok _,#[_,Gc],q]
end
section
variable {X:Cx}{pins:EV (E4×IG)}{σ:St}{H:Hp}{s:E8}{A:GG}{E:E3->E8->Prop}{Q:E3->E8->Prop}{c:E3}{b:Gg}
inductive jL (K:E1) (H:Hp):V->E3->Prop where
 |Iw:jL K H .Iw (.type "NoneType")
 |bl (x:Gg):jL K H (.bl x) (.type "bool")
 |int (i:Int):jL K H (.int i) (.type "int")
 |str (x:FD):jL K H (.str x) (.type "str")
 |Xz (x:UInt64):jL K H (.Xz x) (.type "float")
 |lst {a:E4}{xs:EV V}(e:H a=Fa (.lst xs)):jL K H (.ref a) (.type "list")
 |Qz {a:E4}{o:IG}{xs:EV V}(e:H a=Fa (.Qz o (.lst xs))):jL K H (.ref a) (.type "list")
 |tup {a:E4}{xs:EV V}(e:H a=Fa (.tup xs)):jL K H (.ref a) (.type "tuple")
 |dK {a:E4}{aD:EV (a8×V)}(e:H a=Fa (.dK aD)):jL K H (.ref a) (.type "dict")
 |dT {a:E4}{aD:EV (EV a8×V)}(e:H a=Fa (.dT aD)):jL K H (.ref a) (.type "dict")
 |ins {a C dx:E4}{fs:EV (FD×V)}(e:H a=Fa (.ins C dx fs)) (cl:gI K C) (ha:HF K (.ref C) "__class__"=Fa (Fa (.builtin "object.__class__")))
   (hn:OW K (.builtin "object.__class__") "__get__"=Fa (Fa (.builtin "getset_descriptor.__get__"))) (htk:Vf K (.builtin "object.__class__")=Fa FM)
   (hm:Wm K C (.type "object")=Fa FM):jL K H (.ref a) (.ref C)
theorem zt {x:V}{u t:E3}(I:aE X pins σ H s) (rx:bo x u) (ty:jL X.K H x t) (e:Hy X.K t c=Fa b) (h: ∀tk,Q (.bool b) { s with toks:=tk }):
  FG (model X.prog X.w) A (call (.builtin "isinstance") [u,c]) Q E s:=by
 cases ty with
 |Iw=>cases (show u=HK from rx);exact HW PySem.W.kitx_none I.Nq G7 e (λz=>nomatch z) h
 |bl y=>cases (show u=MG y from rx);exact HW PySem.W.kitx_bool I.Nq G7 e (λz=>nomatch z) h
 |int i=>obtain⟨t,q⟩:=(show∃t,u=J6 i t from rx);cases q;exact HW PySem.W.kitx_int I.Nq G7 e (λz=>nomatch z) h
 |str y=>obtain⟨t,q⟩:=(show∃t,u=Ov y t from rx);cases q;exact HW PySem.W.kitx_str I.Nq G7 e (λz=>nomatch z) h
 |Xz y=>obtain⟨t,q⟩:=(show∃t,u=Tr y t from rx);cases q;exact HW PySem.W.kitx_float I.Nq G7 e (λz=>nomatch z) h
 | @lst a xs ea=>
  cases (show u=FL a from rx);obtain⟨_,_,n,_,h1⟩:=(show cu X.prog X.w H s.heap a (.lst xs) from I.Ic a _ ea);exact HW T9 I.Nq #[_,h1,Gc] e (λz=>nomatch z) h
 | @Qz a ob xs ea=>
  cases (show u=FL a from rx);obtain⟨_,_,_,n,_,h1⟩:=(show cu X.prog X.w H s.heap a (.Qz ob (.lst xs)) from I.Ic a _ ea);exact HW T9 I.Nq #[_,h1,Gc] e (λz=>nomatch z) h
 | @tup a xs ea=>
  cases (show u=FL a from rx);obtain⟨_,_,_,p⟩:=(show cu X.prog X.w H s.heap a (.tup xs) from I.Ic a _ ea);obtain⟨o,h1,h2,_⟩:=p;exact HW PySem.W.kitx_tuple I.Nq #[o,h1,h2] e (λz=>nomatch z) h
 | @dK a aD ea=>
  cases (show u=FL a from rx);obtain⟨_,_,vs,_,p⟩:=(show cu X.prog X.w H s.heap a (.dK aD) from I.Ic a _ ea);obtain⟨o,es,ep,h1,h2,_⟩:=p;exact HW Ua I.Nq #[o,h1,h2.1] e (λz=>nomatch z) h
 | @dT a aD ea=>
  cases (show u=FL a from rx);obtain⟨_,_,xs,_,o,es,ep,h1,h2,_⟩:=(show cu X.prog X.w H s.heap a (.dT aD) from I.Ic a _ ea);exact HW Ua I.Nq #[o,h1,h2.1] e (λz=>nomatch z) h
 | @ins a C dx fs ea cl ha hn htk hm=>
  cases (show u=FL a from rx);obtain⟨mA,O,_⟩:=mi I.Ic ea;obtain⟨od,J,_⟩:=O.look;exact HW (PySem.W.kitx_own (cl.get _) cl.hd ha hn htk hm) I.Nq J e (λz=>nomatch z) h
end
theorem bX.mono {j k:Fm}{A:GG}(r:bX k A) (h:j<=k):bX j A:=#[r.hd,by have:=r.dp;lia,by have:=r.un;lia]
theorem bX.deeper {k:Fm}{A:GG}(r:bX (k+1) A) (env:Env):bX k (A.deeper env):=
 #[r.hd,by have:=r.dp;show A.depth+1+2*k+5<_;lia,by have:=r.un;show A.units+3+16*k+200<_;lia]
theorem uz {A:GG}{C:E4} :(A.under (.builtin "type.__call__" #[.ref C::us,kw])).depth=A.depth+1:=by
 first|rfl|simp [RV,Code.weight,Code.isCreation,Code.isGuard,Code.isCaller,Code.frames,SU,guardIds]
theorem uu {A:GG}{C:E4} :(A.under (.builtin "type.__call__" #[.ref C::us,kw])).units=A.units+1:=by
 first|rfl|simp [RV,Code.cUnits,Code.frames,SU]
theorem bX.make {k:Fm}{A:GG}(r:bX (k+1) A) (C:E4) (us:EV E3) (kw:EV (FD×E3)):bX k (A.under (.builtin "type.__call__" #[.ref C::us,kw])):=
 #[r.hd,by have:=r.dp;rw[uz];lia,by have:=r.un;rw[uu];lia]
theorem bX.depth {k:Fm}{A:GG}(r:bX k A):A.depth<recursionLimit:=by have:=r.dp;lia
theorem bX.units {k:Fm}{A:GG}(r:bX k A):A.units+64<Px:=by have:=r.un;lia
def CN:TA:=λ_ H Q=>Q [] H
def Df (ta:TE) (tr:TA):TA:=λσ H Q=>ta σ H λx H1=>tr σ H1 λxs H2=>Q (x::xs) H2
section
variable {X:Cx}{e:Hv}{es:EV Hv}{te:TE}{t:TA}{pos:Pos}
theorem ag:PA X [] CN:=λ_ _ _ _ H Q I h=>Lb #[[],H,I, .nil,h]
theorem aa (ha:PE X e te) (hr:PA X es t) (hs:Fy (e::es) X.env=[001]::Fy es X.env:=by rfl):PA X (e::es) (Df te t):=by
 intro pos pins s σ H Q I h;rw[hs];show FG _ _ (spliced ([001]::IE pos (Fy es X.env))) _ _ s;refine KR (b9 (ha pins s σ H _ I h) λu s1 ⟨x,H1,I1,r1,q1⟩=>?_);exact b9 (hr pos pins s1 σ H1 _ I1 q1) λus s2 ⟨xs,H2,I2,r2,q2⟩=>#[x::xs,H2,I2, .cons r1 r2,q2]
def akB (t:TA):TE:=λσ H Q=>t σ H λxs H1=>xs.length<=FP/\ ∀p,H1 p=FB->Q (.ref p) (aF H1 p (.tup xs))
inductive Bz (Q:VK) (xs:EV V) (H1:Hp):Prop
 |mk (_:xs.length<=FP) (_: ∀p,H1 p=FB->Q (.ref p) (aF H1 p (.lst xs))):Bz Q xs H1
def akC (t:TA):TE:=λσ H Q=>t σ H (Bz Q)
theorem Da {x1} (h:PA X es t):PE X (.Tuple es x1 pos) (akB t):=by
 intro pins s σ H Q I hq;refine wpAny_Tuple_spliced (b9 (h pos pins s σ H _ I hq) λus s1 ⟨xs,H1,I1,r,z,q⟩=>#[by rw[<-r.length];exact z,?_]);have hf:H1 s1.heap.objs.size=FB:=I1.Ic.fresh (Fq _);refine#[.ref s1.heap.objs.size,aF H1 s1.heap.objs.size (.tup xs),I1.laid (t':=s1.toks) (λb u e=>Fl _ e) (Fq _) ?_,Gc,q _ hf];exact#[z,us,r,#[_,GK _ rfl,Gc,_,Gc]]
theorem fM (h:PA X es t):PE X (.List es pos) (akC t):=by
 intro pins s σ H Q I hq;refine wpAny_List_spliced (b9 (h pos pins s σ H _ I hq) λus s1 ⟨xs,H1,I1,r,z,q⟩=>#[by rw[<-r.length];exact z,?_]);have hf:H1 s1.heap.objs.size=FB:=I1.Ic.fresh (Fq _);refine#[.ref s1.heap.objs.size,aF H1 s1.heap.objs.size (.lst xs),I1.laid (t':=s1.toks) (λb u e=>Fl _ e) (Fq _) ?_,Gc,q _ hf];exact#[z,us,0,r,GK _ rfl]
end
theorem bU.mono {P:FW}{w:Gx}{K:E1}{mg:FD->Fd E3}{base:GI}{CX:pw}{j k:Fm}{f:E4}{fd:Gb}{ps:EV FD}{sp:Sp}(F:bU P w K mg base CX j f fd ps sp) (h:j<=k):
  bU P w K mg base CX k f fd ps sp:=#[F.len,λA outer s H args us vs Q E hr=>F.run A outer s H args us vs Q E (hr.mono h)]
theorem bU.imp {P:FW}{w:Gx}{K:E1}{mg:FD->Fd E3}{base:GI}{CX:pw}{k:Fm}{f:E4}{fd:Gb}{ps:EV FD}{sp sp':Sp}(F:bU P w K mg base CX k f fd ps sp)
  (h: ∀vs H Q E,sp' vs H Q E->sp vs H Q E):bU P w K mg base CX k f fd ps sp':=
 #[λvs H Q E q=>F.len vs H Q E (h _ _ _ _ q),λA outer s H args us vs Q E hr he hb hv hs=>F.run A outer s H args us vs Q E hr he hb hv (h _ _ _ _ hs)]
theorem uo.make {P:FW}{w:Gx}{K:E1}{mg:FD->Fd E3}{base:GI}{A:GG}{s:E8}{H:Hp}(e:uo P w K mg base A outer s H) (C:E4) (us:EV E3) (kw:EV (FD×E3)):
  uo P w K mg base (A.under (.builtin "type.__call__" #[.ref C::us,kw])) outer s H:=#[by first|exact e.frames|(simpa [RV,Code.envs,SU,pushEnvs] using e.frames),e.mod,e.bs,e.UO,e.funs,e.Wn,e.Ic,e.bare]
section
variable {X:Cx}{pins:EV (E4×IG)}{σ:St}{H:Hp}{s s':E8}
theorem aE.aak (I:aE X pins σ H s):uo X.prog X.w X.K X.mg X.base X.A X.stack s H:=
 #[I.ok.frames,I.ok.mod,I.bs,FA I.ok.UO I.sz,I.stack,I.Qu,I.Ic,I.bare]
theorem aE.after {Q:VK}{u:E3}(I:aE X pins σ H s) (h:CE X.stack X.prog X.w H s Q u s'):EP X pins σ Q u s':=by
 obtain⟨v,H',os,bare,un,Ic,r,q⟩:=h;obtain⟨hh,g,d,t,os'⟩:=s';obtain rfl:os'=s.os:=os;exact#[v,H',I.call (h':=hh) (g':=g) (d':=d) (t':=t) (ch:=[]) un Ic bare (λb z=>Fv z (by simp)),r,q]
end
def zY (sp:Sp) (Rc:EV V) (E:XK) (t:TA):TE:=λσ H Q=>t σ H λvs H1=>sp (vs++Rc) H1 Q E
inductive BS (C:E4) (m:FD) (R:V->Hp->Prop) (x:V) (H1:Hp):Prop
 |mk (a dx:E4) (fs:EV (FD×V)) (_:x= .ref a) (_:H1 a=Fa (.ins C dx fs)) (_:fs.lookup m=FB) (_:R x H1):BS C m R x H1
def X4 (C:E4) (m:FD) (sp:Sp) (Rc:EV V) (E:XK) (ta:TE) (t:TA):TE:=λσ H Q=>ta σ H (BS C m (λx H1=>t σ H1 λvs H2=>sp (x::(vs++Rc)) H2 Q E))
def CC (C:E4) (sp:Sp) (Rc:EV V) (E:XK) (t:TA):TE:=λσ H Q=>t σ H λvs H1=> ∀x dx,H1 x=FB->H1 dx=FB->dx≠x->
 sp (.ref x::(vs++Rc)) (aF (aF H1 dx (.own x)) x (.ins C dx [])) (λv H2=>v= .Iw/\Q (.ref x) H2) E
def dg (CX:pw) (X:Cx) (E:XK):Prop:= ∀(pins:EV (E4×IG)) (σ:St) (H:Hp) (s:E8) (e:E3) (s':E8),aE X pins σ H s->CX X.stack H s E e s'->X.xe e s'
section
variable {X:Cx}{CX:pw}{k:Fm}{f C:E4}{fd:Gb}{ps:EV FD}{sp:Sp}{Rc:EV V}{ds:EV E3}{E:XK}{x m:FD}{p pos KZ:Pos}{e o:Hv}{es:EV Hv}{ta:TE}{t:TA}
theorem qK {pins:EV (E4×IG)}{σ:St}{H:Hp}{s:E8}{Q:VK}(F:bU X.prog X.w X.K X.mg X.base CX k f fd ps sp) (hr:bX k X.A) (hb:f7 X.K fd ps ds) (hd:aY Rc ds) (hx:dg CX X E)
  (I:aE X pins σ H s) (r:aY vs us) (h:sp (vs++Rc) H Q E):FG (model X.prog X.w) X.A (call (.ref f) us) (EP X pins σ Q) X.xe s:=by
 have r2:aY (vs++Rc) (us++ds):=r.append hd
 have hl:(us++ds).length=ps.length:=by rw[<-r2.length];exact F.len _ _ _ _ h
 refine Qx (M8 (F.run X.A X.stack s H #[us,[]] (us++ds) (vs++Rc) Q E hr I.aak (hb s us I.Nq hl) r2 h) λr s' hq=>?_);cases r with
 |error e=>exact hx pins σ H s e s' I hq
 |ok fl=>
  cases fl with
  |ret u=>exact I.after hq
  |next=>exact Iz hq
  |brk=>exact Iz hq
  |cont=>exact Iz hq
theorem aJ (F:bU X.prog X.w X.K X.mg X.base CX k f fd ps sp) (hr:bX k X.A) (hg:Gl X x) (d:CD X.K X.mg x f fd ps) (hx:dg CX X E)
  (ha:PA X (e::es) t) (RM:(x == [003])=FS:=by decide) (he:Fy (e::es) X.env=[001]::Fy es X.env:=by rfl) (MJ:(IE pos (Fy es X.env)).any (·.1)=FS:=by rfl):
  PE X (.Call (.Name x p) (e::es) [] pos) (zY sp [] E t):=by
 rw[01];refine Jy (fZ I hg d.m ?_ RM);refine KG (h₀:=X.base) I.ok.mod.Vk d.k (b9 (ha pos pins s σ H _ I h) λus s1 ⟨vs,H1,I1,r,q⟩=>#[I1.Nq,?_]) he MJ;exact qK F hr d.b .nil hx I1 r q
theorem cy (he:PE X o ta) (c:gI X.K C) (d:MD X.K C m f fd ps) (F:bU X.prog X.w X.K X.mg X.base CX k f fd ps sp) (hr:bX k X.A) (hx:dg CX X E) (ha:PA X (e::es) t)
  (Kd:Fy (e::es) X.env=[001]::Fy es X.env:=by rfl) (MJ:(IE pos (Fy es X.env)).any (·.1)=FS:=by rfl)
  (ht:eval (.Call (.Attribute o m KZ) (e::es) [] pos) X.env=(do
   let ov<-eval o X.env
   standAt KZ.atName
   let (f,first)<-holding [ov] (KU ov m pl)
   NC pos f first (IE pos (Fy (e::es) X.env)) (KH pos (Jd [] X.env))):=by rfl):
  PE X (.Call (.Attribute o m KZ) (e::es) [] pos) (X4 C m sp [] E ta t):=by
 rw[01];refine Lc (pl:=pl) (b9 (he pins s σ H _ I h) λu s1 ⟨x,H1,I1,rx,a,dx,fs,ex,ea,l,q⟩=>?_) ht;subst ex;obtain rfl:u=FL a:=rx;refine mV I1 ea c d.m l ?_;refine KG (first:=[.ref a]) (h₀:=X.base) I.ok.mod.Vk d.m.kp (b9 (ha pos pins s1 σ H1 _ I1 q) λus s2 ⟨vs,H2,I2,r,q2⟩=>#[I2.Nq,?_]) Kd MJ
 exact qK (us:= .ref a::us) (vs:= .ref a::vs) F hr d.b .nil hx I2 (.cons rfl r) q2
theorem bS (he:PE X o ta) (c:gI X.K C) (d:MD X.K C m f fd ps) (F:bU X.prog X.w X.K X.mg X.base CX k f fd ps sp) (hr:bX k X.A) (hx:dg CX X E)
  (ht:eval (.Call (.Attribute o m KZ) [] [] pos) X.env=(do
   let ov<-eval o X.env
   standAt KZ.atName
   let (f,first)<-holding [ov] (KU ov m pl)
   NC pos f first (IE pos (Fy [] X.env)) (KH pos (Jd [] X.env))):=by rfl):
  PE X (.Call (.Attribute o m KZ) [] [] pos) (X4 C m sp [] E ta CN):=by
 rw[01];refine Lc (pl:=pl) (b9 (he pins s σ H _ I h) λu s1 ⟨x,H1,I1,rx,a,dx,fs,ex,ea,l,q⟩=>?_) ht;subst ex;obtain rfl:u=FL a:=rx;refine mV I1 ea c d.m l ?_;exact Oh (first:=[.ref a]) I1.Nq d.m.kp (qK (us:=[.ref a]) (vs:=[.ref a]) F hr d.b .nil hx I1 (.cons rfl .nil) q)
theorem tS {pins:EV (E4×IG)}{σ:St}{H:Hp}{s:E8}{Q:VK}(M:Mk X.K C f) (F:bU X.prog X.w X.K X.mg X.base CX k f fd ps sp) (hr:bX (k+1) X.A) (hb:f7 X.K fd ps ds) (hd:aY Rc ds)
  (hx:dg CX X E) (I:aE X pins σ H s) (r:aY vs us)
  (h: ∀x dx,H x=FB->H dx=FB->dx≠x->sp (.ref x::(vs++Rc)) (aF (aF H dx (.own x)) x (.ins C dx [])) (λv H2=>v= .Iw/\Q (.ref x) H2) E):
  FG (model X.prog X.w) X.A (call (.ref C) us) (EP X pins σ Q) X.xe s:=by
 have hq:=h (s.heap.objs.size+1) s.heap.objs.size (I.Ic.fresh (K8 _)) (I.Ic.fresh (Fq _)) (GQ (Ht _))
 have I2:=aE.made (C:=C) I
 have r2:aY (V.ref (s.heap.objs.size+1)::(vs++Rc)) (FL (s.heap.objs.size+1)::(us++ds)):= .cons rfl (r.append hd)
 have hl:(FL (s.heap.objs.size+1)::us++ds).length=ps.length:=by
  have e:=r2.length;rw[F.len _ _ _ _ hq] at e;exact e.symm
 refine Qx (Av (f:=f) I.Nq M.makes M.init (beq_iff_eq.mp M.fn) (M8 (F.run _ X.stack _ _ #[FL (s.heap.objs.size+1)::us,[]] (FL (s.heap.objs.size+1)::(us++ds)) _ _ E (hr.make C us [])
  (I2.aak.make C us []) (hb _ (FL (s.heap.objs.size+1)::us) I2.Nq hl) r2 hq) λr s' Ur=>?_))
 cases r with
 |error e=>exact hx pins σ _ _ e s' I2 Ur
 |ok fl=>
  cases fl with
  |ret u=>
   obtain⟨v,H',I3,rv,ev,q3⟩:=I2.after Ur;subst ev;exact#[rv,#[V.ref (s.heap.objs.size+1),H',I3,Gc,q3]]
  |next=>exact Iz Ur
  |brk=>exact Iz Ur
  |cont=>exact Iz Ur
theorem gT (M:Mk X.K C f) (F:bU X.prog X.w X.K X.mg X.base CX k f fd ps sp) (hr:bX (k+1) X.A) (hg:Gl X x) (hm:X.mg x=Fa (.ref C)) (hb:f7 X.K fd ps ds) (hd:aY Rc ds) (hx:dg CX X E)
  (ha:PA X (e::es) t) (RM:(x == [003])=FS:=by decide) (he:Fy (e::es) X.env=[001]::Fy es X.env:=by rfl) (MJ:(IE pos (Fy es X.env)).any (·.1)=FS:=by rfl):
  PE X (.Call (.Name x p) (e::es) [] pos) (CC C sp Rc E t):=by
 rw[01];refine Jy (fZ I hg hm ?_ RM);refine KG (h₀:=X.base) I.ok.mod.Vk M.kp (b9 (ha pos pins s σ H _ I h) λus s1 ⟨vs,H1,I1,r,q⟩=>#[I1.Nq,?_]) he MJ;exact tS M F hr hb hd hx I1 r q
theorem Ad (M:Mk X.K C f) (F:bU X.prog X.w X.K X.mg X.base CX k f fd ps sp) (hr:bX (k+1) X.A) (hg:Gl X x) (hm:X.mg x=Fa (.ref C)) (hb:f7 X.K fd ps ds) (hd:aY Rc ds) (hx:dg CX X E)
  (RM:(x == [003])=FS:=by decide):PE X (.Call (.Name x p) [] [] pos) (CC C sp Rc E CN):=by
 rw[01];refine Jy (fZ I hg hm ?_ RM);exact Oh I.Nq M.kp (tS (us:=[]) M F hr hb hd hx I .nil h)
end
structure az (N P:EV FD) (sc:Scope):Prop where
 kind:sc.kind= .function
 co:sc.isCoroutine=FS
 gen:sc.isGenerator=FS
 nd:N.Nodup
 pre:N.take P.length=P
 par: ∀x∈P,sc.names.lookup x=Fa .local\/sc.names.lookup x=Fa .cell
 aal: ∀y∈sc.names,y.2≠ .free
theorem pZ {kindOf:FD->Fd JJ}{x:FD} : ∀ {binds:EV (FD×E3)}{m:FD->Fd E3},(∀v,(x,v)∉binds)->Vh kindOf binds m x=m x
 |[],_,_=>rfl
 | (n,v)::r,m,h=>by
  unfold Vh;rw[pZ λw hw=>h w (E9 _ hw)];split
  ·have:x≠n:=by rintro rfl;exact h v Fb
   simp [this]
  ·rfl
theorem pA {kindOf:FD->Fd JJ}{x:FD} : ∀ {binds:EV (FD×E3)}{m:FD->Fd E3},(∀v,(x,v)∉binds)->Vi kindOf binds m x=m x
 |[],_,_=>rfl
 | (n,v)::r,m,h=>by
  unfold Vi;rw[pA λw hw=>h w (E9 _ hw)];split
  ·rfl
  ·have:x≠n:=by rintro rfl;exact h v Fb
   simp [this]
theorem pV {kindOf:FD->Fd JJ}{x:FD}{v:E3} : ∀ {P:EV FD}{vs:EV E3}{i:Fm}{m:FD->Fd E3},P.Nodup->P[i]?=Fa x->vs[i]?=Fa v->kindOf x=Fa .local->
  Vh kindOf (P.zip vs) m x=Fa v
 |[],_,_,_,_,h,_,_=>by simp at h
 |_::_,[],_,_,_,_,h,_=>by simp at h
 |p::P,w::vs,0,m,nd,h1,h2,hk=>by
  simp at h1 h2;subst h1;subst h2;show Vh kindOf ((p,w)::P.zip vs) m p=_;unfold Vh;rw[pZ λv hv=>(F6.mp nd).1 (KS hv).1,E7 hk];simp
 |p::P,w::vs,i+1,m,nd,h1,h2,hk=>by
  show Vh kindOf ((p,w)::P.zip vs) m x=_
  unfold Vh;exact pV (i:=i) (F6.mp nd).2 (by simpa using h1) (by simpa using h2) hk
theorem pD {kindOf:FD->Fd JJ}{x:FD}{v:E3} : ∀ {P:EV FD}{vs:EV E3}{i:Fm}{m:FD->Fd E3},P.Nodup->P[i]?=Fa x->vs[i]?=Fa v->kindOf x≠Fa .local->
  Vi kindOf (P.zip vs) m x=Fa v
 |[],_,_,_,_,h,_,_=>by simp at h
 |_::_,[],_,_,_,_,h,_=>by simp at h
 |p::P,w::vs,0,m,nd,h1,h2,hk=>by
  simp at h1 h2;subst h1;subst h2;show Vi kindOf ((p,w)::P.zip vs) m p=_;unfold Vi;rw[pA λv hv=>(F6.mp nd).1 (KS hv).1,E5 hk];simp
 |p::P,w::vs,i+1,m,nd,h1,h2,hk=>by
  show Vi kindOf ((p,w)::P.zip vs) m x=_
  unfold Vi;exact pD (i:=i) (F6.mp nd).2 (by simpa using h1) (by simpa using h2) hk
def start (N:EV FD) (vs:EV V):St:=vs.map Fa++IX (N.length-vs.length) FB
def e8 (CX:pw) (P:FW) (w:Gx) (K:E1) (mg:FD->Fd E3) (base:GI) (N:EV FD) (GU:FD) (scope:Scope) (f:E4) (cd:E3) (A:GG) (outer:EV Env) (s:E8) (H:Hp) (E:XK):Cx where
 prog:=P
 w:=w
 K:=K
 mg:=mg
 base:=base
 A:=A.deeper (Jz GU scope s.heap.objs.size f cd)
 N:=N
 Pz:=s
 H_0:=H
 env:=Jz GU scope s.heap.objs.size f cd
 outer:=outer
 stack:=Jz GU scope s.heap.objs.size f cd::outer
 ex:=[]
 calm:=FM
 fn:=λ_=>FM
 pn:=[]
 xe:=λe s'=>FG (model P w) (A.deeper (Jz GU scope s.heap.objs.size f cd)) (leaving (Jz GU scope s.heap.objs.size f cd) e) (λ_ s''=>CX outer H s E e s'') (λe' s''=>CX outer H s E e' s'') s'
theorem rW {sc:Scope}{n:Fm}{x:FD}(h:sc.names.lookup x=Fa .cell): ∃c,(HU n sc.names []).lookup x=Fa c:=by
 have q:=Rp sc.names n [] (.inl h);exact Ky.mp q
theorem yJ {CX:pw}{P:FW}{w:Gx}{K:E1}{mg:FD->Fd E3}{base:GI}{N ps:EV FD}{GU:FD}{scope:Scope}{f:E4}{cd:E3}{A:GG}{outer:EV Env}{s s1:E8}{H:Hp}{E:XK}{us:EV E3}{vs:EV V}
  (S:az N ps scope) (hd:A.handled=FB) (e0:uo P w K mg base A outer s H) (hl:vs.length=ps.length) (r:aY vs us)
  (x:InCallC s s.heap.objs.size (Vh (Jz GU scope s.heap.objs.size f cd).kindOf (ps.zip us) λ_=>FB) (HU (s.heap.objs.size+1) scope.names []) (Vi (Jz GU scope s.heap.objs.size f cd).kindOf (ps.zip us) λ_=>FB) s1):
  aE (e8 CX P w K mg base N GU scope f cd A outer s H E) [] (start N vs) H s1:=by
 have MJ:ps.length<=N.length:=by have:=Ga Ou S.pre;rw[NK] at this;lia
 obtain⟨h1,tk,rfl,hk⟩:=x.done;have noA: ∀b:E4,b∉(e8 CX P w K mg base N GU scope f cd A outer s H E).ex:=λb z=>Fv (show b∈([]:EV E4) from z) (by simp)
 refine#[#[e0.mod,S.kind,Gc,Gc,Fq _,λy z c h1 h2=>?_,λy hy=>?_,λy c _ h=>?_,λ_=>hd,GG.frames_deeper e0.frames, .inr #[Gc,Gc],λb z=>Fv z (noA b),e0.bs,e0.UO,λb _ _=>noA b,λb z=>Fv z (noA b),e0.funs,e0.Wn],
  rfl,e0.bare,Un.kept hk,#[_,x.toInCall.ns,λi y v h1 h2 h3=>?_],λy c h=>#[_,x.cell y c h],e0.Ic.fresh (Fq _),λy c h=>?_,λp hp=>Fv (show p∈([]:EV (E4×IG)) from hp) (by simp),e0.Ic.kept hk,?_]
 ·exact name_of_addr x.apart (GB h1) (GB h2)
 ·have hy:scope.names.lookup y=Fa .cell\/scope.names.lookup y=Fa .free:=hy
  rcases hy with hy|hy
  ·exact rW hy
  ·exact Fv rfl (S.aal _ (GB hy))
 ·exact Kt (x.above y c (GB h))
 ·have hi:i<vs.length:=by
   unfold start at h2;by_cases hi:i<vs.length
   ·exact hi
   ·rw[EV.getElem?_append_right (by simpa using hi)] at h2
    rw[K0] at h2;split at h2<;>cases h2
  have ha:vs[i]?=Fa v:=by
   unfold start at h2;rw[Rk (by simpa using hi),Gf] at h2;cases e:vs[i]? with
   |none=>rw[e] at h2;cases h2
   |some a=>rw[e] at h2;cases h2;rfl
  obtain⟨u,hu,rv⟩:=r.get ha;have hp:ps[i]?=Fa y:=by
   rw[<-S.pre,EV.getElem?_take_of_lt (by lia)];exact h1
  have ndP:ps.Nodup:=by rw[<-S.pre];exact S.nd.sublist (EV.take_sublist _ _)
  refine#[u,rv,?_];rcases S.par y (GP hp) with k|k
  ·exact .inl #[k,pV ndP hp hu k]
  ·obtain⟨c,e⟩:=rW (n:=s.heap.objs.size+1) k
   refine .inr #[.inl k,c,e,?_];have q:=x.cell y c e;rw[pD ndP hp hu (by show scope.names.lookup y≠_;rw[k];decide)] at q;exact q
 ·exact e0.Ic.fresh (Kt (x.above y c (GB h)))
 ·unfold start
  show _=N.length
  rw[Ft,Fh,Oc];lia
theorem X5 {CX:pw}{P:FW}{w:Gx}{K:E1}{mg:FD->Fd E3}{base:GI}{k:Fm}{f:E4}{name GU:FD}{params:Arguments}{body:EV Stmt}{scope:Scope}{dV kV doc pm GF ct oc:E3}{an od:Fd E4}
  {Wo:Jk (Fd E3)}{N ps:EV FD}{sp:Sp}(lk:K.lookup f=Fa #[oc,od, .func (HX name GU params body scope dV kV doc pm an GF ct),Wo]) (Sf:K3 K GF GU=FM) (S:az N ps scope)
  (len: ∀vs H Q E,sp vs H Q E->vs.length=ps.length)
  (Jv: ∀(A:GG) (outer:EV Env) (s:E8) (H:Hp) (vs:EV V) (Q:VK) (E:XK),bX k (A.deeper (Jz GU scope s.heap.objs.size f GF))->sp vs H Q E->
   Bd (e8 CX P w K mg base N GU scope f GF A outer s H E) body { nx:=λ_ H'=>Q .Iw H',rt:=Q } (start N vs) H):
  bU P w K mg base CX (k+1) f (HX name GU params body scope dV kV doc pm an GF ct) ps sp:=by
 refine#[len,λA outer s H args us vs Q E hr e0 hb r Tt=>?_];have hl:=len _ _ _ _ Tt;have KX:K.In s.heap:=e0.mod.Vk.keeps λb o e=>(e0.bs b o e).1
 have lim:s.heap.NoLimit:=e0.mod.nolimit.keeps λb o e=>(e0.bs b o e).1
 have afr: ∀y∈ps.zip us,scope.names.lookup y.1=Fa .local\/(scope.names.lookup y.1=Fa .cell/\((HU (s.heap.objs.size+1) scope.names []).lookup y.1).isSome=FM):=λ⟨n,v⟩ hy=>by
  rcases S.par n (KS hy).1 with q|q
  ·exact .inl q
  ·exact .inr #[q,Rp _ _ _ (.inl q)]
 refine codeAny_call_function hr.depth (KX _ _ lk) rfl S.co S.gen rfl (PySem.W.codeRec_of KX Sf) (hb _ _ _ _ ?_);refine wpAny_newFunctionEnv_cells S.kind afr λenv he s1 x=>?_;subst he;refine#[lim.keeps x.toInCall.keep,codeAny_func ?_];obtain⟨t,ht,hq⟩:=Jv A outer s H vs Q E (hr.deeper _) Tt;have I:aE (e8 CX P w K mg base N GU scope f GF A outer s H E) [] (start N vs) H s1:=yJ S hr.hd e0 hl r x;refine Ip (ht [] s1 (start N vs) H _ I hq) (λfl s' hs=>?_) λe s' hs=>hs;have eN: ∀ {σ':St}{H':Hp}{v:V}{u:E3},aE (e8 CX P w K mg base N GU scope f GF A outer s H E) [] σ' H' s'->bo v u->Q v H'->CE outer P w H s Q u s':=
  λ{σ' H' v u} J rv q=>#[v,H',J.os,J.bare,J.base,J.Ic,rv,q]
 cases fl with
 |ret u=>
  obtain⟨v,σ',H',J,rv,q⟩:=hs;exact eN J rv q
 |next=>
  obtain⟨σ',H',J,q⟩:=hs;exact eN (v:=V.Iw) (u:=HK) J rfl q
 |brk=>
  obtain⟨_,_,_,q⟩:=hs;exact Iz q
 |cont=>
  obtain⟨_,_,_,q⟩:=hs;exact Iz q
section
variable {X:Cx}{x:FD}{p pos:Pos}{e:Hv}{es:EV Hv}{t:TA}{id T:String}{r:EV V->Hp->VK->Prop}
def tCB (r:EV V->Hp->VK->Prop) (t:TA):TE:=λσ H Q=>t σ H λvs H1=>r vs H1 Q
theorem bv (hc:gG X (.builtin id) r) (hg:Gl X x) (hm:X.mg x=FB) (hv:KQ x=Fa (.builtin id)) (ha:PA X (e::es) t) (hn:x≠"__name__":=by decide) (RM:(x == [003])=FS:=by decide)
  (he:Fy (e::es) X.env=[001]::Fy es X.env:=by rfl) (MJ:(IE pos (Fy es X.env)).any (·.1)=FS:=by rfl):PE X (.Call (.Name x p) (e::es) [] pos) (tCB r t):=by
 rw[01];refine Jy (kT I hg hm hv ?_ hn RM);exact Oo (b9 (ha pos pins s σ H _ I h) λus s1 ⟨vs,H1,I1,r1,q1⟩=>hc pins s1 σ H1 vs us Q I1 r1 q1) he MJ
theorem i6 (hc:gG X (.type T) r) (hg:Gl X x) (hm:X.mg x=FB) (hv:KQ x=Fa (.type T)) (ha:PA X (e::es) t) (hn:x≠"__name__":=by decide) (RM:(x == [003])=FS:=by decide)
  (he:Fy (e::es) X.env=[001]::Fy es X.env:=by rfl) (MJ:(IE pos (Fy es X.env)).any (·.1)=FS:=by rfl):PE X (.Call (.Name x p) (e::es) [] pos) (tCB r t):=by
 rw[01];refine Jy (kT I hg hm hv ?_ hn RM);exact JM (b9 (ha pos pins s σ H _ I h) λus s1 ⟨vs,H1,I1,r1,q1⟩=>hc pins s1 σ H1 vs us Q I1 r1 q1) he MJ
end
end L2
namespace HT
open PySem PyProof.Rows
section
variable {prog:FW}{w:Gx}{A:GG}{E:E3->E8->Prop}{s:E8}
def Ta (n d:Fm):Fd Int->Fm
 |none=>d
 |some v=>if v<0 then(v+(n:Int)).toNat else min v.toNat n
theorem Us (n d k:Fm):Ta n d (Fa (k:Int))=min k n:=by
 show(if(k:Int)<0 then((k:Int)+(n:Int)).toNat else min (k:Int).toNat n)=min k n
 rw[E5 (by lia),Int.toNat_natCast]
end
end HT
namespace L2
open PySem PySem.Spec PyProof.Rows
abbrev TO:=St->Hp->(Fd Int->Hp->Prop)->Prop
def PO (X:Cx) (e:Fd Hv) (t:TO):Prop:=
 ∀(pins:EV (E4×IG)) (s:E8) (σ:St) (H:Hp) (Q:Fd Int->Hp->Prop),aE X pins σ H s->t σ H Q->
  FG (model X.prog X.w) X.A (evalPart e X.env) (λu s'=> ∃o H',aE X pins σ H' s'/\IsPart u o/\Q o H') X.xe s
def afs (t:TE):TO:=λσ H Q=>t σ H λx H1=> ∃i,x= .int i/\Q (Fa i) H1
section
variable {X:Cx}{e:Hv}{te:TE}{lo hi:Fd Hv}{tl th:TO}{pos p2:Pos}
theorem i8 (h:PE X e te):PO X (Fa e) (afs te):=by
 intro pins s σ H Q I hw;rw[evalPart_some];refine b9 (h pins s σ H _ I hw) λu s1 ⟨x,H1,I1,r1,q1⟩=>?_;obtain⟨i,rfl,q⟩:=q1;obtain⟨t,rfl⟩:=r1;exact#[Fa i,H1,I1, .int i t,q]
def SlR (X:Cx) (r:V->Fd Int->Fd Int->Hp->VK->Prop):Prop:=
 ∀(pins:EV (E4×IG)) (s:E8) (σ:St) (H:Hp) (x:V) (v vl vu:E3) (lo hi:Fd Int) (sl:E4) (Q:VK),aE X pins σ H s->bo x v->s.heap.IsSliceOf sl vl vu .none->IsPart vl lo->IsPart vu hi->r x lo hi H Q->
  ∃T id,HD (.type T) "__getitem__"=pure (Fa (.builtin id))/\s.TypeIs v T/\FG (model X.prog X.w) X.A (SV v (.ref sl)) (EP X pins σ Q) X.xe s
def tSl (r:V->Fd Int->Fd Int->Hp->VK->Prop) (te:TE) (tl th:TO):TE:=λσ H Q=>te σ H λx H1=>tl σ H1 λl H2=>th σ H2 λu H3=>r x l u H3 Q
theorem mx {r:V->Fd Int->Fd Int->Hp->VK->Prop}(hr:SlR X r) (he:PE X e te) (hl:PO X lo tl) (hu:PO X hi th):PE X (.Subscript e (.Slice lo hi FB p2) pos) (tSl r te tl th):=by
 rw[01];refine YT (b9 (he pins s σ H _ I h) λv s1 ⟨x,H1,I1,r1,q1⟩=>?_);refine wpAny_Slice (b9 (hl pins s1 σ H1 _ I1 q1) λvl s2 ⟨l,H2,I2,pl,q2⟩=>b9 (hu pins s2 σ H2 _ I2 q2) λvu s3 ⟨u,H3,I3,pu,q3⟩=>?_);rw[evalPart_none];refine FT ?_;have I4:aE X pins σ H3 { s3 with heap:=s3.heap.push { cls:= .type "slice",data:= .fields [vl,vu, .none].toArray } } :=I3.kept (t':=s3.toks) λb ob q=>Fl _ q
 obtain⟨T,id,hT,ht,hg⟩:=hr pins { s3 with heap:=s3.heap.push { cls:= .type "slice",data:= .fields [vl,vu, .none].toArray } } σ H3 x v vl vu l u s3.heap.objs.size Q I4 r1 (abz ..) pl pu q3;show FG (model X.prog X.w) X.A (UG e (.Slice lo hi FB p2) v (.ref s3.heap.objs.size)) (EP X pins σ Q) X.xe { s3 with heap:=s3.heap.push { cls:= .type "slice",data:= .fields [vl,vu, .none].toArray } };exact tail_any (ops:=[.ref s3.heap.objs.size,v]) ht hT hg (by with_unfolding_all rfl)
def vv (xs:EV V) (lo hi:Fd Int):EV V:=(xs.drop (HT.Ta xs.length 0 lo)).take (HT.Ta xs.length xs.length hi-HT.Ta xs.length 0 lo)
theorem sP (xs:EV V) (lo hi:Fd Int):(vv xs lo hi).length<=xs.length:=by
 unfold vv;rw[NK,LK];lia
end
def X6 (n:Fm) (i:Int):Fd Fm:=if 0<=i then(if i<n then Fa i.toNat else FB) else if-(n:Int)<=i then Fa (i+n).toNat else FB
def zJ {α:Type}(xs:EV α) (i:Int):Fd α:=(X6 xs.length i).bind λj=>xs[j]?
theorem DM {i:Int}(h:X6 n i=Fa j):seqIndex? i n=Fa j/\j<n/\ -(n:Int)<=i/\i<n:=by
 unfold X6 at h;by_cases h0:0<=i
 ·rw[E7 h0] at h
  by_cases h1:i<n
  ·rw[E7 h1] at h
   have e:i.toNat=j:=Fs h;exact#[by rw[seqIndex_of h0 h1,e],by lia,by lia,h1]
  ·rw[E5 h1] at h;cases h
 ·rw[E5 h0] at h
  by_cases h1: -(n:Int)<=i
  ·rw[E7 h1] at h
   have e:(i+n).toNat=j:=Fs h;exact#[by rw[seqIndex_neg (by lia) h1,e],by lia,h1,by lia]
  ·rw[E5 h1] at h;cases h
theorem re {α:Type}{xs:EV α}{i:Int}{v:α}(h:zJ xs i=Fa v): ∃j,seqIndex? i xs.length=Fa j/\xs[j]?=Fa v/\j<xs.length/\ -(xs.length:Int)<=i/\i<xs.length:=by
 unfold zJ at h;cases e:X6 xs.length i with
 |none=>rw[e] at h;cases h
 |some j=>
  rw[e] at h;obtain⟨h1,h2,h3,h4⟩:=DM e;exact#[j,h1,h,h2,h3,h4]
theorem bw {α:Type}{xs:EV α}{j:Fm}{v:α}(h:xs[j]?=Fa v):zJ xs (j:Int)=Fa v:=by
 have hj:j<xs.length:=(FZ.mp h).1
 have e:X6 xs.length (j:Int)=Fa j:=by
  unfold X6;rw[E7 (by lia),E7 (by lia)];simp
 unfold zJ;rw[e];exact h
theorem eG {α:Type}(xs:EV α) (v:α):zJ (xs++[v]) (-1)=Fa v:=by
 have hl:(xs++[v]).length=xs.length+1:=by simp
 have e:X6 (xs++[v]).length (-1)=Fa xs.length:=by
  unfold X6;rw[hl,E5 [01],E7 (by lia)]
  congr 1
  lia
 unfold zJ;rw[e];show(xs++[v])[xs.length]?=Fa v;simp
def ra (b:Hv):Prop:= ∀o i,subscripted b FS o i=operate [o,i] (SV o i)
def IxR (X:Cx) (r:R2):Prop:=
 ∀(J7 slice:Hv) (pins:EV (E4×IG)) (s:E8) (σ:St) (H:Hp) (x y:V) (v u:E3) (Q:VK),aE X pins σ H s->bo x v->bo y u->r x y H Q->
  subscripted slice FS v u=operate [v,u] (SV v u)->FG (model X.prog X.w) X.A (UG J7 slice v u) (EP X pins σ Q) X.xe s
def MtR (X:Cx) (id:String) (r:V->EV V->Hp->VK->Prop):Prop:=
 ∀(pins:EV (E4×IG)) (s:E8) (σ:St) (H:Hp) (x:V) (xs:EV V) (v:E3) (us:EV E3) (Q:VK),aE X pins σ H s->bo x v->aY xs us->r x xs H Q->
  FG (model X.prog X.w) X.A (call (.builtin id) (v::us)) (EP X pins σ Q) X.xe s
section
variable {X:Cx}{a b:Hv}{ta tb:TE}{pos:Pos}
theorem cM {r:R2}(hr:IxR X r) (ha:PE X a ta) (hb:PE X b tb) (hs:ra b):PE X (.Subscript a b pos) (tOp r ta tb):=by
 rw[01];exact YT (aag ha hb I h λv u s2 x y H2 I2 rx ry q=>hr a b pins s2 σ H2 x y v u Q I2 rx ry q (hs _ _))
inductive Cl (K:E1) (x:V) (y:V) (H:Hp) (Q:VK):Prop
 |mk (p:E4) (xs:EV V) (i:Int) (v:V) (_:x= .ref p) (_:y= .int i) (_:cC K H p xs) (_:zJ xs i=Fa v) (_:Q v H):Cl K x y H Q
inductive aft (K:E1) (x:V) (y:V) (H:Hp) (Q:VK):Prop
 |mk (p:E4) (xs:EV V) (i:Int) (v:V) (_:x= .ref p) (_:y= .int i) (_:qG K H p xs) (_:zJ xs i=Fa v) (_:Q v H):aft K x y H Q
inductive afu (x:V) (y:V) (H:Hp) (Q:VK):Prop
 |mk (z:FD) (i:Int) (c:Fm) (_:x= .str z) (_:y= .int i) (_:z.length<=FP) (_:zJ z.cps.toList i=Fa c) (_:Q (.str ⟨[c].toArray⟩) H):afu x y H Q
theorem bD:IxR X (Cl X.K):=by
 intro J7 slice pins s σ H x y v u Q I rx ry h hs;obtain⟨p,xs,i,z,rfl,rfl,hq,he,q⟩:=h;cases rx;obtain⟨t,rfl⟩:=ry;obtain⟨Ho,r,pl,hz⟩:=I.list hq;obtain⟨j,h1,h2,h3,h4,h5⟩:=re he;obtain⟨w,ew,TJ⟩:=r.get h2;have hl:=r.length;have hn:=qk;have eN:EP X pins σ Q w s:=#[z,H,I,TJ,q];by_cases h0:0<=i
 ·have hj:i.toNat=j:=by
   rw[seqIndex_of h0 h5] at h1;exact Fs h1
  exact item_listR pl.isList h0 (by lia) (by rw[hj];simpa using ew) eN hs
 ·have hj:(i+(Ho.toArray.size:Int)).toNat=j:=by
   rw[seqIndex_neg (by lia) h4] at h1;rw[F3,<-hl];exact Fs h1
  exact Vp (x:=w) pl.isList.typeIs slot_list_getitem.lookup
   (wpAny_getItem_list_neg (Q:=λr s'=>r=w/\EP X pins σ Q r s') pl.isList (by lia) (by rw[F3]<;>lia) (by lia) (by rw[hj];simpa using ew) #[Gc,eN]) hs
theorem aam:IxR X (aft X.K):=by
 intro J7 slice pins s σ H x y v u Q I rx ry h hs;obtain⟨p,xs,i,z,rfl,rfl,hq,he,q⟩:=h;cases rx;obtain⟨t,rfl⟩:=ry;obtain⟨Ho,r,pl,hz⟩:=I.tuple hq;obtain⟨j,h1,h2,h3,h4,h5⟩:=re he;obtain⟨w,ew,TJ⟩:=r.get h2;have hl:=r.length;have hn:=qk;have eN:EP X pins σ Q w s:=#[z,H,I,TJ,q];exact Vp (x:=w) pl.typeIs slot_tuple_getitem.lookup
  (getItem_tuple (j:=j) (Q:=λr s'=>r=w/\EP X pins σ Q r s') pl (by lia) (by lia) (by rw[F3,<-hl];exact h1) (by simpa using ew) #[Gc,eN]) hs
theorem aan:IxR X afu:=by
 intro J7 slice pins s σ H x y v u Q I rx ry h hs;obtain⟨z,i,c,rfl,rfl,hz,he,q⟩:=h;obtain⟨t,rfl⟩:=rx;obtain⟨t',rfl⟩:=ry;obtain⟨j,h1,h2,h3,h4,h5⟩:=re he;have hl:z.cps.toList.length=z.length:=by simp [FD.length]
 rw[hl] at h1 h4 h5;have hn:=qk;exact tail_any (YU s z t) slot_str_getitem.lookup (getItem_str (c:=c) (by
  have e1:decide (i< -(2 ^ 63:Int))=FS:=FU (by lia)
  have e2:decide (i ≥ 2 ^ 63)=FS:=FU (by lia);rw[e1,e2,OX]) (by rw[h1];simpa using h2) #[.str #[[c].toArray],H,I.tok _,#[_,Gc],q]) hs
theorem qv (lo hi:Fd Int) (n:Fm):(MC lo hi FB n).1=((HT.Ta n 0 lo:Fm):Int)/\(MC lo hi FB n).2.1=((HT.Ta n n hi:Fm):Int)/\(MC lo hi FB n).2.2=1:=by
 refine#[?_,?_,Gc]
 ·cases lo with
  |none=>simp [MC,HT.Ta]
  |some i=>
   simp only[MC,HT.Ta,Va,show(1:Int)>0 by decide,SW];by_cases h:i<0
   ·simp only[h,SW]<;>lia
   ·simp only[h,ME]<;>lia
 ·cases hi with
  |none=>simp [MC,HT.Ta]
  |some i=>
   simp only[MC,HT.Ta,Va,show(1:Int)>0 by decide,SW];by_cases h:i<0
   ·simp only[h,SW]<;>lia
   ·simp only[h,ME]<;>lia
theorem pc (Ho:EV E3) (lo hi:Fd Int):slicePick Ho.toArray lo hi FB=((Ho.drop (HT.Ta Ho.length 0 lo)).take (HT.Ta Ho.length Ho.length hi-HT.Ta Ho.length 0 lo)).toArray:=by
 obtain⟨h1,h2,h3⟩:=qv lo hi Ho.toArray.size;unfold slicePick;rw[h1,h2,h3];simp only[sliceRange_one,pick_run,F3]<;>rfl
def akD (K:E1):V->Fd Int->Fd Int->Hp->VK->Prop:=λx lo hi H Q=> ∃a xs,x= .ref a/\cC K H a xs/\ ∀p,H p=FB->Q (.ref p) (aF H p (.lst (vv xs lo hi)))
theorem rA:SlR X (akD X.K):=by
 intro pins s σ H x v vl vu lo hi sl Q I rx hs pl pu h;obtain⟨a,xs,rfl,hx,q⟩:=h;cases rx;obtain⟨Ho,r,ht,hz⟩:=I.list hx;have Nr:=r.length;refine#["list",_,slot_list_getitem.lookup,ht.isList.typeIs,?_];refine wpAny_getItem_list_slice ht.isList hs pl pu .none (by simp) ?_ (by rw[F3]<;>lia);rw[pc,<-Nr];refine#[.ref s.heap.objs.size,_,I.laid (t':=s.toks) (o:= .lst (vv xs lo hi)) (λb ob q=>Fl _ q) (Fq _) ?_,Gc,q _ (I.Ic.fresh (Fq _))];exact#[FA (sP xs lo hi) hz,_,0,(r.drop (HT.Ta xs.length 0 lo)).take (HT.Ta xs.length xs.length hi-HT.Ta xs.length 0 lo),GK _ rfl]
def jo:V->Gg
 | .Iw=>FM
 | .bl _=>FM
 | .int _=>FM
 | .str _=>FM
 |_=>FS
def D4:V->V->Gg
 | .Iw, .Iw=>FM
 | .bl a, .bl b=>a == b
 | .bl a, .int b=>(if a then 1 else 0) == b
 | .int a, .bl b=>a == (if b then 1 else 0)
 | .int a, .int b=>a == b
 | .str a, .str b=>a == b
 |_,_=>FS
theorem aao {A:GG}{s:E8}{y x:V}{u v:E3}(ry:bo y u) (rx:bo x v) (fy:jo y=FM) (fx:jo x=FM):SeqAt.EqAt A s u v (D4 y x):=by
 cases y with
 |Iw=>
  cases ry;cases x with
  |Iw=>cases rx;exact SeqAt.EqAt.same _
  |bl b=>cases rx;exact SeqAt.EqAt.none_bool b
  |int b=>obtain⟨t,rfl⟩:=rx;exact SeqAt.EqAt.none_int b t
  |str b=>obtain⟨t,rfl⟩:=rx;exact SeqAt.EqAt.none_str b t
  |_=>exact Fv (show FS=FM from fx) EZ
 |bl a=>
  cases ry;cases x with
  |Iw=>cases rx;exact SeqAt.EqAt.bool_none a
  |bl b=>cases rx;exact SeqAt.EqAt.bool_bool a b
  |int b=>obtain⟨t,rfl⟩:=rx;exact SeqAt.EqAt.bool_int a b t
  |str b=>obtain⟨t,rfl⟩:=rx;exact SeqAt.EqAt.bool_str a b t
  |_=>exact Fv (show FS=FM from fx) EZ
 |int a=>
  obtain⟨t',rfl⟩:=ry;cases x with
  |Iw=>cases rx;exact SeqAt.EqAt.int_none a t'
  |bl b=>cases rx;exact SeqAt.EqAt.int_bool a t' b
  |int b=>obtain⟨t,rfl⟩:=rx;exact SeqAt.EqAt.int_int a t' b t
  |str b=>obtain⟨t,rfl⟩:=rx;exact RT a t' b t
  |_=>exact Fv (show FS=FM from fx) EZ
 |str a=>
  obtain⟨t',rfl⟩:=ry;cases x with
  |Iw=>cases rx;exact SeqAt.EqAt.str_none a t'
  |bl b=>cases rx;exact SeqAt.EqAt.str_bool a t' b
  |int b=>obtain⟨t,rfl⟩:=rx;exact RU a t' b t
  |str b=>obtain⟨t,rfl⟩:=rx;exact SeqAt.EqAt.str_str a t' b t
  |_=>exact Fv (show FS=FM from fx) EZ
 |_=>exact Fv (show FS=FM from fy) EZ
def uO (x:V) (u:E3):Gg:=match u with
 | .none=>D4 .Iw x
 | .bool b=>D4 (.bl b) x
 | .int i _=>D4 (.int i) x
 | .str z _=>D4 (.str z) x
 |_=>FS
theorem Db {x y:V}{u:E3}(r:bo y u) (f:jo y=FM):uO x u=D4 y x:=by
 cases y with
 |Iw=>cases r;rfl
 |bl b=>cases r;rfl
 |int i=>obtain⟨t,rfl⟩:=r;rfl
 |str z=>obtain⟨t,rfl⟩:=r;rfl
 |_=>exact Fv (show FS=FM from f) EZ
theorem j8 {x:V} : ∀ {xs:EV V}{us:EV E3},aY xs us->xs.all jo=FM->us.any (uO x)=xs.any λy=>D4 y x
 |_,_, .nil,_=>rfl
 |y::xs,u::us, .cons r t,f=>by
  rw[Ny,GC] at f;rw[Nz,Nz,Db r f.1,j8 t f.2]
theorem iR {A:GG}{s:E8}{x:V}{v:E3}(rx:bo x v) (fx:jo x=FM): ∀ {xs:EV V}{us:EV E3},aY xs us->xs.all jo=FM-> ∀u∈us,SeqAt.EqAt A s u v (uO x u)
 |_,_, .nil,_=>λu hu=>by cases hu
 |y::xs,u::us, .cons r t,f=>λu' hu=>by
  rw[Ny,GC] at f;rcases Fi.mp hu with rfl|hu
  ·rw[Db r f.1];exact aao r rx f.1 fx
  ·exact iR rx fx t f.2 u' hu
def uj (x:V) (xs:EV V):Gg:=xs.any λy=>D4 y x
inductive rIn (K:E1) (neg:Gg) (x:V) (y:V) (H:Hp) (Q:VK):Prop
 |mk (p:E4) (xs:EV V) (_:y= .ref p) (_:(cC K H p xs\/qG K H p xs)) (_:jo x=FM) (_:xs.all jo=FM) (_:Q (.bl (if neg then !uj x xs else uj x xs)) H):rIn K neg x y H Q
theorem lw:kJ X (Ij .In) (rIn X.K FS):=by
 intro pins s σ H x y v u Q I rx ry h;obtain⟨p,xs,rfl,hq,fx,fs,q⟩:=h;cases ry;rcases hq with hq|hq
 ·obtain⟨Ho,r,pl,hz⟩:=I.list hq
  refine SeqAt.in_listAt (uO x) pl.isList (λw hw=>iR rx fx r fs w (by simpa using hw)) #[.bl _,H,I,Gc,?_];rw[show Ho.toArray.any (uO x)=Ho.any (uO x) by simp,j8 r fs];exact q
 ·obtain⟨Ho,r,pl,hz⟩:=I.tuple hq
  refine SeqAt.in_tupleAt (uO x) pl (λw hw=>iR rx fx r fs w (by simpa using hw)) #[.bl _,H,I,Gc,?_];rw[show Ho.toArray.any (uO x)=Ho.any (uO x) by simp,j8 r fs];exact q
theorem jV:kJ X (Ij .NotIn) (rIn X.K FM):=by
 intro pins s σ H x y v u Q I rx ry h;obtain⟨p,xs,rfl,hq,fx,fs,q⟩:=h;cases ry;rcases hq with hq|hq
 ·obtain⟨Ho,r,pl,hz⟩:=I.list hq
  refine SeqAt.notIn_listAt (uO x) pl.isList (λw hw=>iR rx fx r fs w (by simpa using hw)) #[.bl _,H,I,Gc,?_];rw[show Ho.toArray.any (uO x)=Ho.any (uO x) by simp,j8 r fs];exact q
 ·obtain⟨Ho,r,pl,hz⟩:=I.tuple hq
  refine SeqAt.notIn_tupleAt (uO x) pl (λw hw=>iR rx fx r fs w (by simpa using hw)) #[.bl _,H,I,Gc,?_];rw[show Ho.toArray.any (uO x)=Ho.any (uO x) by simp,j8 r fs];exact q
inductive afv (K:E1) (xs:EV V) (H:Hp) (Q:VK):Prop
 |mk (p:E4) (ys:EV V) (_:xs=[.ref p]) (_:(cC K H p ys\/qG K H p ys)) (_:Q (.int ys.length) H):afv K xs H Q
theorem bB:gG X (.builtin "len") (afv X.K):=by
 intro pins s σ H xs us Q I r h;obtain⟨p,ys,rfl,hq,q⟩:=h;obtain⟨u,rfl,rx⟩:=mM r;cases rx;have hn:=qk;rcases hq with hq|hq
 ·obtain⟨Ho,r',pl,hz⟩:=I.list hq
  have Nr:=r'.length;exact Calls.call_len_list pl.isList (by simp only[F3]<;>lia) #[.int ys.length,H,I.tok _,#[s.toks+1,by rw[F3,Nr]],q]
 ·obtain⟨Ho,r',pl,hz⟩:=I.tuple hq
  have Nr:=r'.length;exact len_tuple pl (by simp only[F3]<;>lia) #[.int ys.length,H,I.tok _,#[s.toks+1,by rw[F3,Nr]],q]
theorem gw:gG X (.type "tuple") (λxs H Q=> ∃p ys,xs=[.ref p]/\((cC X.K H p ys/\ ∀l,H l=FB->Q (.ref l) (aF H l (.tup ys)))\/(qG X.K H p ys/\Q (.ref p) H))):=by
 intro pins s σ H xs us Q I r h;obtain⟨p,ys,rfl,h⟩:=h;obtain⟨u,rfl,rx⟩:=mM r;cases rx;rcases h with⟨hq,q⟩|⟨hq,q⟩
 ·obtain⟨Ho,r',pl,hz⟩:=I.list hq
  have Nr:=r'.length;refine call_tuple_list pl.isList (λh' kp=>?_) (by simp only[F3]<;>lia)
  have I1:aE X pins σ H { s with heap:=h' } :=I.kept (t':=s.toks) kp
  have I2:aE X pins σ (aF H h'.objs.size (.tup ys)) { s with heap:=h'.push { cls:= .type "tuple",data:= .seq Ho.toArray } } :=
   I1.laid (t':=s.toks) (λb o e=>Fl _ e) (Fq _) (show cu X.prog X.w _ _ _ (.tup ys) from#[hz,Ho,r',IsTup.new _ _])
  exact#[.ref h'.objs.size,_,I2,Gc,q _ (I1.Ic.fresh (Fq _))]
 ·obtain⟨Ho,r',pl,hz⟩:=I.tuple hq
  exact call_tuple_same pl #[.ref p,H,I,Gc,q]
def tyV (K:E1) (T:String) (x:V) (H:Hp):Prop:=match x with
 | .str _=>T="str"
 | .int _=>T="int"
 | .ref p=>(T="list"/\ ∃xs,cC K H p xs)\/(T="tuple"/\ ∃o,K.lookup p=Fa o/\o.cls= .type "tuple"/\o.dict=FB)\/
   (T="dict"/\((∃aD,H p=Fa (.dK aD))\/ ∃aD,H p=Fa (.dT aD)))\/(T="set"/\ ∃S n,H p=Fa (.set S n))
 |_=>False
theorem AK {pins:EV (E4×IG)}{σ:St}{H:Hp}{s:E8}{T:String}{x:V}{v:E3}(I:aE X pins σ H s) (r:bo x v) (ty:tyV X.K T x H):
  s.TypeIs v T/\ ∀a,v= .ref a-> ∃ob,s.heap.get? a=Fa ob/\ob.dict=FB:=by
 cases x with
 |str z=>
  obtain⟨t,rfl⟩:=r;cases (show T="str" from ty);exact#[YU s z t,λ_ e=>nomatch e]
 |int i=>
  obtain⟨t,rfl⟩:=r;cases (show T="int" from ty);exact#[typeIs_int s i t,λ_ e=>nomatch e]
 |ref p=>
  cases r;rcases ty with⟨rfl,xs,hq⟩|⟨rfl,o,hk,hc,hd⟩|⟨rfl,hk⟩|⟨rfl,S,n,hk⟩
  ·obtain⟨Ho,_,pl,_⟩:=I.list hq
   refine#[pl.isList.typeIs,λa e=>?_];cases e;obtain⟨o,n,e,c,hd,_⟩:=pl;exact#[o,e,hd]
  ·refine#[#[o,I.Nq p o hk,hc],λa e=>?_]
   cases e;exact#[o,I.Nq _ o hk,hd]
  ·have z: ∃o,s.heap.get? p=Fa o/\o.ExactDict:=by
    rcases hk with⟨aD,hk⟩|⟨aD,hk⟩
    ·obtain⟨_,_,_,_,o,_,_,e,ex,_⟩:=I.Ic p _ hk
     exact#[o,e,ex]
    ·obtain⟨_,_,_,_,o,_,_,e,ex,_⟩:=I.Ic p _ hk
     exact#[o,e,ex]
   obtain⟨o,e,ex⟩:=z;refine#[#[o,e,ex.1],λa e2=>?_];cases e2;exact#[o,e,ex.2.1]
  ·obtain⟨o,_,_,_,e,ex,_⟩:=I.Ic p _ hk
   refine#[#[o,e,ex.1],λa e2=>?_];cases e2;exact#[o,e,ex.2.1]
 |_=>exact Iz ty
def akE (K:E1) (T:String) (r:V->EV V->Hp->VK->Prop) (to:TE):TE:=λσ H Q=>to σ H λx H1=>tyV K T x H1/\r x [] H1 Q
inductive afw (K:E1) (T:String) (R:V->Hp->Prop) (x:V) (H1:Hp):Prop
 |mk (_:tyV K T x H1) (_:R x H1):afw K T R x H1
def tBM (K:E1) (T:String) (r:V->EV V->Hp->VK->Prop) (to:TE) (t:TA):TE:=λσ H Q=>to σ H (afw K T (λx H1=>t σ H1 λxs H2=>r x xs H2 Q))
variable {o e:Hv}{es:EV Hv}{to:TE}{t:TA}{name:FD}{KZ Lu:Pos}{T id:String}{r:V->EV V->Hp->VK->Prop}
theorem CW (pa:PlainAttrs T) (slot:Slot T name id) (hty:typeOf (.builtin id)=pure (.type "method_descriptor")) (hm:MtR X id r) (ho:PE X o to)
  (QL:Im o name X.env (eval o X.env)=eval o X.env:=by rfl) (QM:(KZ.endLine == Lu.line)=FM:=by rfl):PE X (.Call (.Attribute o name KZ) [] [] Lu) (akE X.K T r to):=by
 rw[01];refine wpAny_Call_method0_late QL QM (b9 (ho pins s σ H _ I h) λv s1 ⟨x,H1,I1,r1,ty,q1⟩=>?_);obtain⟨h1,h2⟩:=AK I1 r1 ty;exact#[T,id,pa,slot,hty,h1,h2,La rfl (PySem.evalArgs_none (hm pins s1 σ H1 x [] v [] Q I1 r1 .nil q1))]
theorem r8 (pa:PlainAttrs T) (slot:Slot T name id) (hty:typeOf (.builtin id)=pure (.type "method_descriptor")) (hm:MtR X id r) (ho:PE X o to) (ha:PA X (e::es) t)
  (QL:Im o name X.env (eval o X.env)=eval o X.env:=by rfl)
  (akF:((IE Lu (Fy (e::es) X.env)).all (λx=>!x.1)&&(KH Lu (Jd [] X.env)).all (λx=>x.1.isSome)
   &&decide ((e::es).length+([]:EV Keyword).length+(if([]:EV Keyword).isEmpty then 0 else 1)<30))=FM:=by rfl)
  (QM:(KZ.endLine == Lu.line)=FM:=by rfl) (hs:Fy (e::es) X.env=[001]::Fy es X.env:=by rfl) (aap:(IE Lu (Fy es X.env)).any (·.1)=FS:=by rfl):
  PE X (.Call (.Attribute o name KZ) (e::es) [] Lu) (tBM X.K T r to t):=by
 rw[01];refine wpAny_Call_method_late QL akF QM rfl (b9 (ho pins s σ H _ I h) λv s1 ⟨x,H1,I1,r1,ty,q1⟩=>?_);obtain⟨h1,h2⟩:=AK I1 r1 ty;refine#[T,id,pa,slot,hty,h1,h2,?_];have hA:=ha Lu pins s1 σ H1 _ I1 q1;rw[hs] at hA ⊢;refine La (by show(FS||(IE Lu (Fy es X.env)).any (·.1))=FS;rw[aap]<;>rfl) (Of ?_)
 exact b9 hA λus s2 ⟨vs,H2,I2,r2,q2⟩=>hm pins s2 σ H2 x vs v us Q I2 r1 r2 q2
end
def MtM (X:Cx) (id:String) (r:V->EV V->Hp->VK->Prop):Prop:=
 ∀(pins:EV (E4×IG)) (s:E8) (σ:St) (H:Hp) (x:V) (xs:EV V) (v:E3) (us:EV E3) (Q:VK),aE X pins σ H s->bo x v->aY xs us->r x xs H Q->
  FG (model X.prog X.w) X.A (call (.builtin id) (v::us)) (EP X pins σ Q) X.xe s
theorem aY.one: ∀ {x:V}{us:EV E3},aY [x] us-> ∃u,us=[u]/\bo x u
 |_,_, .cons r .nil=>#[_,Gc,r]
theorem aY.zero: ∀ {us:EV E3},aY [] us->us=[]
 |_, .nil=>rfl
theorem aY.dropLast {xs:EV V}(h:aY xs us):aY xs.dropLast us.dropLast:=by
 induction h with
 |nil=>exact .nil
 |cons r t ih=>
  cases t with
  |nil=>exact .nil
  |cons q t'=>exact .cons r ih
theorem vE {α:Type}(l:EV α):l.eraseIdx (l.length-1)=l.dropLast:=by
 induction l with
 |nil=>rfl
 |cons a r ih=>
  cases r with
  |nil=>rfl
  |cons b r=>
   have e:(a::b::r).length-1=((b::r).length-1)+1:=by
    have h1:(a::b::r).length=r.length+2:=rfl
    have h2:(b::r).length=r.length+1:=rfl;lia
   rw[e,EV.eraseIdx_cons_succ,ih]
   all_goals rfl
section
variable {X:Cx}{pins:EV (E4×IG)}{σ:St}{H:Hp}{s:E8}{l b:E4}{xs ys zs:EV V}
theorem aE.aaq {Ho its':EV E3}{f:Jk E3->Jk E3}(I:aE X pins σ H s) (hH:H l=Fa (.lst xs))
  (e:s.heap.get? l=Fa { cls:= .type "list",data:= .seq Ho.toArray n }) (hf:f Ho.toArray=its'.toArray) (hv:aY ys its') (hz:ys.length<=FP):
  aE X pins σ (aF H l (.lst ys)) { s with heap:=s.heap.update l (IG.mapSeq f),toks:=t' } :=by
 have q:=PySem.IsL.update e f;rw[hf] at q;refine I.write (x:=l) (e:=l) (by rw[hH];exact trivial) (.inl rfl) (λb' u hb hu=>(GV s.heap (IG.mapSeq f) (Iu hb)).trans hu) #[_,q] ?_
 exact#[hz,its',_,hv,q]
theorem aE.akG {Ho:EV E3}(I:aE X pins σ H s) (hv:aY ys Ho) (hz:ys.length<=FP):
  aE X pins σ (aF H s.heap.objs.size (.lst ys)) { s with heap:=s.heap.push { cls:= .type "list",data:= .seq Ho.toArray },toks:=t' } :=
 I.laid (λ_ _ q=>Fl _ q) (Fq _) #[hz,Ho,0,hv,GK _ rfl]
theorem aE.fresh (I:aE X pins σ H s):H s.heap.objs.size=FB:=I.Ic.fresh (Fq _)
theorem aE.TK (I:aE X pins σ H s) (hH:H l=Fa (.lst xs)):xs.length<=FP/\ ∃(Ho:EV E3) (n:Fm),aY xs Ho/\xs.length=Ho.length/\s.heap.get? l=Fa { cls:= .type "list",data:= .seq Ho.toArray n } :=by
 obtain⟨z,Ho,n,r,e⟩:=I.Ic l _ hH;exact#[z,Ho,n,r,r.length,e]
theorem zS (h:n<=FP):Mg n=FS:=by
 unfold Mg;exact FU (by lia)
end
section
variable {X:Cx}
inductive xo (x:V) (vs:EV V) (H:Hp) (Q:VK):Prop
 |mk (l:E4) (xs:EV V) (y:V) (_:x= .ref l) (_:vs=[y]) (_:H l=Fa (.lst xs)) (_:xs.length<FP) (_:Q .Iw (aF H l (.lst (xs++[y])))):xo x vs H Q
theorem jb:MtM X "list.append" xo:=by
 intro pins s σ H x vs v us Q I rx rv h;obtain⟨l,xs,y,rfl,rfl,hH,hz,q⟩:=h;cases rx;obtain⟨u,rfl,ru⟩:=rv.one;obtain⟨z,Ho,n,r,hl,e⟩:=I.TK hH;refine call_meets F.slot_list_append #[_,e,Gc] F.entry_list_append (F.args_list_append_2 _ _) (PySem.list_append l Ho.toArray n u (by rw[F3];lia)) #[e,?_];refine#[.Iw,_,I.aaq (its':=Ho++[u]) hH e (by simp) (r.append (.cons ru .nil)) ?_,Gc,q];rw[Ft,Jm];lia
inductive xr (x:V) (vs:EV V) (H:Hp) (Q:VK):Prop
 |mk (l b:E4) (xs zs:EV V) (_:x= .ref l) (_:vs=[.ref b]) (_:H l=Fa (.lst xs)) (_:H b=Fa (.lst zs)) (_:xs.length+zs.length<=FP) (_:Q .Iw (aF H l (.lst (xs++zs)))):xr x vs H Q
theorem zh:MtM X "list.extend" xr:=by
 intro pins s σ H x vs v us Q I rx rv h;obtain⟨l,b,xs,zs,rfl,rfl,hH,hB,hz,q⟩:=h;cases rx;obtain⟨u,rfl,ru⟩:=rv.one;cases ru;obtain⟨z,Ho,n,r,hl,e⟩:=I.TK hH;obtain⟨z2,Qp,n2,r2,TM,e2⟩:=I.TK hB;have hsz:Ho.toArray.size+Qp.toArray.size<=FP:=by rw[F3,F3];lia
 have afx: ¬(! Ho.toArray.isEmpty&&Mg (Ho.toArray.size+Qp.toArray.size))=FM:=by
  rw[zS hsz,HY];exact EZ
 refine call_meets F.slot_list_extend #[_,e,Gc] F.entry_list_extend (F.args_list_extend_2 _ _)
  (AutoSeq1.list_extend_list_list_0 l Ho.toArray n b Qp.toArray n2 afx (by rw[F3];lia) (by lia)) #[e,e2,?_]
 refine#[.Iw,_,I.aaq (its':=Ho++Qp) hH e (by simp) (r.append r2) ?_,Gc,q];rw[Ft];lia
def akH:V->EV V->Hp->VK->Prop:=λx vs H Q=> ∃l xs y,x= .ref l/\vs=[]/\H l=Fa (.lst xs)/\xs[xs.length-1]?=Fa y/\Q y (aF H l (.lst xs.dropLast))
theorem A7:MtM X "list.pop" akH:=by
 intro pins s σ H x vs v us Q I rx rv h;obtain⟨l,xs,y,rfl,rfl,hH,hy,q⟩:=h;cases rx;have hus:=rv.zero;subst hus;obtain⟨z,Ho,n,r,hl,e⟩:=I.TK hH;obtain⟨u,hu,ru⟩:=r.get hy;have hy':Ho.toArray[Ho.toArray.size-1]?=Fa u:=by
  show Ho.toArray[Ho.length-1]?=Fa u
  rw[<-SM,<-hl];exact hu
 refine call_meets F.slot_list_pop #[_,e,Gc] F.entry_list_pop (F.args_list_pop_1 _) (MeetsSeq.list_pop_last l Ho.toArray n u hy' (by rw[F3];lia)) #[e,?_];refine#[y,_,I.aaq (its':=Ho.dropLast) hH e ?_ r.dropLast ?_,ru,q]
 ·show Ho.toArray.eraseIdxIfInBounds (Ho.toArray.size-1)=Ho.dropLast.toArray
  rw[F3,EV.eraseIdxIfInBounds_toArray,vE]
 ·rw[EV.length_dropLast]
  lia
inductive afy (x:V) (y:V) (H:Hp) (Q:VK):Prop
 |mk (l b:E4) (xs zs:EV V) (_:x= .ref l) (_:y= .ref b) (_:H l=Fa (.lst xs)) (_:H b=Fa (.lst zs)) (_:xs.length+zs.length<=FP) (_: ∀p,H p=FB->Q (.ref p) (aF H p (.lst (xs++zs)))):afy x y H Q
theorem Ce:kJ X (Oj .Add) afy:=by
 intro pins s σ H x y v u Q I rx ry h;obtain⟨l,b,xs,zs,rfl,rfl,hH,hB,hz,q⟩:=h;cases rx;cases ry;obtain⟨z,Ho,n,r,hl,e⟩:=I.TK hH;obtain⟨z2,Qp,n2,r2,TM,e2⟩:=I.TK hB;refine PySem.P.add_list e e2 ?_ (by rw[F3,F3];lia);have ea:Ho.toArray++Qp.toArray=(Ho++Qp).toArray:=by simp
 rw[ea];exact#[.ref _,_,I.akG (t':=s.toks) (r.append r2) (by rw[Ft];lia),Gc,q _ I.fresh]
end
section
variable {prog:FW}{w:Gx}{A:GG}{E:E3->E8->Prop}{s:E8}
set_option maxRecDepth 100000 in
end
theorem aY.ints: ∀ {ns:EV Int}{us:EV E3},aY (ns.map V.int) us->IntsAre us ns
 |[],us,h=>by
  rw[PY] at h;cases h;exact IntsAre.nil
 |n::ns,us,h=>by
  rw[FC] at h;cases h with
  |cons r t=>
   obtain⟨k,rfl⟩:=r;exact IntsAre.cons n k (aY.ints t)
theorem aY.bls: ∀ {bs:EV Gg}{us:EV E3},aY (bs.map V.bl) us->us=bs.map MG
 |[],us,h=>by
  rw[PY] at h;cases h
  rfl
 |b::bs,us,h=>by
  rw[FC] at h;cases h with
  |cons r t=>
   cases r;rw[aY.bls t,FC]
theorem aY.afz {a:E4}(r:aY [V.ref a] us):us=[FL a]:=by
 cases r with
 |cons r t=>
  cases t;cases r
  rfl
section
variable {prog:FW}{w:Gx}{A:GG}{E:E3->E8->Prop}{s:E8}{l:E4}{Ho:EV E3}{ns:EV Int}{Q:E3->E8->Prop}
theorem EQ (hh:A.handled=FB) (hl:s.heap.IsList l Ho.toArray) (hi:IntsAre Ho ns)
  (h: ∀h' tk t',(∀b o,s.heap.get? b=Fa o->h'.get? b=Fa o)->Q (.int ns.sum t') { s with heap:=h',toks:=tk }):FG (model prog w) A (call (.builtin "sum") [.ref l]) Q E s:=by
 obtain⟨xs,e⟩:=hi.allInts.items;have hn:numsOf (KI xs).toList=ns:=by rw[<-e];exact hi.numsOf
 rw[nums_intItems] at hn;rw[e] at hl;refine PySem.sum_intListG hh hl λh' tk t' hk=>?_;have:=h h' tk t' hk;rw[preSum_eq,Jf (by simp),hn];exact this
end
section
variable {X:Cx}
def akI (K:E1):EV V->Hp->VK->Prop:=λvs H Q=> ∃(a:E4) (ns:EV Int),vs=[V.ref a]/\cC K H a (ns.map V.int)/\Q (.int ns.sum) H
theorem aar (hc:X.calm=FM):gG X (.builtin "sum") (akI X.K):=by
 intro pins s σ H vs us Q I r h;obtain⟨a,ns,rfl,hs,q⟩:=h;obtain⟨Ho,rv,hl,_⟩:=I.list hs;rw[aY.afz r];exact EQ (I.ok.hd hc) hl.isList rv.ints λh' tk t' hk=>#[.int _,H,I.kept hk,#[_,Gc],q]
end
theorem BA {prog:FW}{w:Gx}{A:GG}{E:E3->E8->Prop}{s:E8}{l:E4}{Q:E3->E8->Prop}(hl:s.heap.IsList l items)
  (h: ∀s₂:E8,s₂= { s with heap:=s.heap.push { cls:= .type "list_iterator",data:= .fields [.ref l, .int 0 0].toArray } } ->
   (s₂.heap.IsListIter s.heap.objs.size l 0/\s₂.heap.IsList l items)->l≠s.heap.objs.size->Q (.ref s.heap.objs.size) s₂):FG (model prog w) A (pyIter (.ref l)) Q E s:=by
 have Uq:l<s.heap.objs.size:=by obtain⟨_,e,_⟩:=hl;exact FJ e
 exact wpAny_pyIter_list hl (h _ rfl #[#[_,GK _ rfl,Gc,Gc],hl.push _] (GQ Uq))
theorem tV {prog:FW}{w:Gx}{A:GG}{bs:EV Gg}{Ho:EV E3}(e:Ho=bs.map MG):
  TruthOf prog w A (λi v=>Ho.toArray[i]?=Fa v) (λi=>bs.getD i FS):=λi v s Q E hv hq=>by
 have hv':Ho[i]?=Fa v:=by simpa using hv
 rw[e,Gf] at hv';obtain⟨b,hb,rfl⟩:=F4.mp hv';have hg:bs.getD i FS=b:=by rw[IA,hb]<;>rfl
 have Ur:Q (bs.getD i FS) s:=hq;rw[hg] at Ur;exact ID Ur
theorem pP: ∀bs:EV Gg,(Jl bs.length).all (λi=>bs.getD i FS)=bs.all id
 |[]=>rfl
 |b::bs=>by
  rw[Fj,EV.range_succ_eq_map,Ny,SX,Ny,<-pP bs]
  all_goals rfl
section
variable {X:Cx}
def akJ (K:E1):EV V->Hp->VK->Prop:=λvs H Q=> ∃(a:E4) (bs:EV Gg),vs=[V.ref a]/\cC K H a (bs.map V.bl)/\Q (.bl (bs.all id)) H
theorem aas (hc:X.calm=FM):gG X (.builtin "all") (akJ X.K):=by
 intro pins s σ H vs us Q I r h;obtain⟨a,bs,rfl,hs,q⟩:=h;obtain⟨Ho,rv,hl,_⟩:=I.list hs;rw[aY.afz r];have hb:=rv.bls;refine call_all_walk (BA hl.isList λs₂ e2 st hne=>?_);subst e2;refine#[_,_,_,_,_,_,_,Gc,Walks.list (A:=X.A.in1) (I.ok.hd hc) _ a hne Ho.toArray,st,tV hb,λh' tk hk=>?_];refine#[.bl _,H,I.kept λb o eo=>hk b o (λaat=>?_) (Fl _ eo),?_,q]
 ·rcases Fi.mp aat with e1|aat
  ·exact Fv (e1▸FJ eo) (HL _)
  ·cases aat
 ·show MG _=MG _
  rw[<-pP,hb,F3,Fh]
end
abbrev Bm (h:GI) (c:E4) (v:Fd E3):Prop:=h.IsCell c v
def akK (scope sc:Scope):Scope:=
 { scope with names:=scope.names.map λ(n,k)=>if(k == .free&&sc.kind == .function&&sc.names.lookup n == Fa .cell) then(n, .cell) else(n,k) }
def bZ (cells:EV (FD×E4)):EV (FD×JJ)->EV (FD×E4)->EV (FD×E4)
 |[],acc=>acc
 | (n,k)::r,acc=>if k == .free then bZ cells r ((n,(cells.lookup n).getD 0)::acc) else bZ cells r acc
theorem jS (env:Env) (f:FD×JJ->EV (FD×E4)->Sem (ForInStep (EV (FD×E4))))
  (hf: ∀n k c,f (n,k) c=if k == .free then(do let a<-cellOf env n;pure (.yield ((n,a)::c))) else pure (.yield c)):
  ∀(names:EV (FD×JJ)) (acc:EV (FD×E4)),(∀y∈names,y.2= .free-> ∃c,env.cells.lookup y.1=Fa c)->forIn names acc f=pure (bZ env.cells names acc)
 |[],acc,_=>by rw[Q7];rfl
 | (n,k)::r,acc,h=>by
  rw[WB,hf];have ih:=λacc=>jS env f hf r acc λy hy=>h y (E9 _ hy)
  unfold bZ;by_cases hk:(k == Lm)=FM
  ·rw[E7 hk,E7 hk]
   obtain⟨c,hc⟩:=h (n,k) Fb (by simpa using hk);have e:cellOf env n=pure c:=by unfold cellOf;rw[hc]
   rw[e];have e2:(env.cells.lookup n).getD 0=c:=by rw[hc];rfl
   rw[e2];exact ih _
  ·rw[E5 hk,E5 hk]
   exact ih _
theorem uX {scope:Scope}{env:Env}(h: ∀y∈scope.names,y.2= .free-> ∃c,env.cells.lookup y.1=Fa c):closureFor scope env=pure (bZ env.cells scope.names []):=by
 simp only[closureFor];rw[jS env _ (λn k c=>rfl) scope.names [] h]
 rfl
theorem jB {α:Type} : ∀ {l:EV (FD×α)}{n:FD}{c:α},(n,c)∈l-> ∃c',l.lookup n=Fa c'
 | (k,v)::r,n,c,h=>by
  rw[JK];cases hb:n == k with
  |true=>exact#[_,Gc]
  |false=>
   rcases Fi.mp h with e|h
   ·cases e;simp at hb
   ·exact jB h
theorem gn {cells:EV (FD×E4)} : ∀ {names:EV (FD×JJ)}{acc:EV (FD×E4)}{n:FD}{c:E4},(n,c)∈bZ cells names acc->(n,c)∈acc\/((n, .free)∈names/\c=(cells.lookup n).getD 0)
 |[],_,_,_,h=> .inl h
 | (m,k)::r,acc,n,c,h=>by
  unfold bZ at h;split at h
  ·rename_i hk
   have hk:k= .free:=by simpa using hk
   rcases gn h with h|⟨h1,h2⟩
   ·rcases Fi.mp h with e|h
    ·cases e;exact .inr #[hk▸Fb,Gc]
    ·exact .inl h
   ·exact .inr #[E9 _ h1,h2]
  ·rcases gn h with h|⟨h1,h2⟩
   ·exact .inl h
   ·exact .inr #[E9 _ h1,h2]
theorem iE {cells:EV (FD×E4)} : ∀ {names:EV (FD×JJ)}{acc:EV (FD×E4)}{p:FD×E4},p∈acc->p∈bZ cells names acc
 |[],_,_,h=>h
 | (m,k)::r,acc,p,h=>by
  unfold bZ;split
  ·exact iE (E9 _ h)
  ·exact iE h
theorem iP {cells:EV (FD×E4)} : ∀ {names:EV (FD×JJ)}{acc:EV (FD×E4)}{n:FD},(n, .free)∈names->(n,(cells.lookup n).getD 0)∈bZ cells names acc
 | (m,k)::r,acc,n,h=>by
  unfold bZ;rcases Fi.mp h with e|h
  ·cases e
   exact iE Fb
  ·split
   ·exact iP h
   ·exact iP h
theorem gM: ∀ {names:EV (FD×JJ)}{h:GI}{acc:EV (FD×E4)}{x:FD}{c:E4},(x,c)∈HU h.objs.size names acc->
  (x,c)∈acc\/((x, .cell)∈names/\h.objs.size<=c/\Bm (Nw h names) c FB)
 |[],_,_,_,_,h=> .inl h
 | (n,k)::r,h,acc,x,c,hm=>by
  unfold HU at hm;unfold Nw;split at hm
  ·rename_i hk
   rw[E7 hk];have hk:k= .cell:=by simpa using hk
   rw[<-HC h { cls:= .type "cell",data:= .cell FB }] at hm;rcases gM hm with hm|⟨h1,h2,h3⟩
   ·rcases Fi.mp hm with e|hm
    ·cases e
     exact .inr #[hk▸Fb,Fq _,_,OP r _ _ _ (GK _ rfl),Gc]
    ·exact .inl hm
   ·rw[HC] at h2
    exact .inr #[E9 _ h1,Lj h2,h3]
  ·rename_i hk
   rw[E5 hk];rcases gM hm with hm|⟨h1,h2,h3⟩
   ·exact .inl hm
   ·exact .inr #[E9 _ h1,h2,h3]
theorem iZ: ∀ {names:EV (FD×JJ)}{n:Fm}{acc:EV (FD×E4)}{p:FD×E4},p∈acc->p∈HU n names acc
 |[],_,_,_,h=>h
 | (m,k)::r,n,acc,p,h=>by
  unfold HU;split
  ·exact iZ (E9 _ h)
  ·exact iZ h
theorem kO: ∀ {names:EV (FD×JJ)}{n:Fm}{acc:EV (FD×E4)}{x:FD},(x, .cell)∈names-> ∃c,(x,c)∈HU n names acc
 | (m,k)::r,n,acc,x,h=>by
  unfold HU;rcases Fi.mp h with e|h
  ·cases e
   exact#[n,iZ Fb]
  ·split
   ·exact kO h
   ·exact kO h
theorem lc: ∀ {names:EV (FD×JJ)}{h:GI}{acc:EV (FD×E4)}{x y:FD}{c:E4},(∀p∈acc,p.2<h.objs.size)->(∀x y c,(x,c)∈acc->(y,c)∈acc->x=y)->
  (x,c)∈HU h.objs.size names acc->(y,c)∈HU h.objs.size names acc->x=y
 |[],_,_,_,_,_,_,hi,h1,h2=>hi _ _ _ h1 h2
 | (n,k)::r,h,acc,x,y,c,hl,hi,h1,h2=>by
  unfold HU at h1 h2;split at h1
  ·rename_i hk
   rw[E7 hk] at h2;rw[<-HC h { cls:= .type "cell",data:= .cell FB }] at h1 h2;refine lc (h:=h.push _) (λp hp=>?_) (λx y c a b=>?_) h1 h2
   ·rw[HC]
    rcases Fi.mp hp with rfl|hp
    ·exact Ht _
    ·exact Jb (hl p hp)
   ·rcases Fi.mp a with e|a<;>rcases Fi.mp b with e'|b
    ·cases e;cases e';rfl
    ·cases e;exact Fv (hl _ b) (HL _)
    ·cases e';exact Fv (hl _ a) (HL _)
    ·exact hi _ _ _ a b
  ·rename_i hk
   rw[E5 hk] at h2;exact lc hl hi h1 h2
theorem sU {M:Model}{A:GG}{E:E3->E8->Prop}{s:E8}{scope:Scope}{globals:E4}{closure:EV (FD×E4)}{GU:FD}{func:Fd E4}{code:E3}{around:Env}{builtins:E4}{Q:Env->E8->Prop}
  (h:Q (newEnv scope s.heap.objs.size globals (HU (s.heap.objs.size+1) scope.names closure) GU func code (Fa around) builtins)
   { s with heap:=Nw (s.heap.push { cls:= .type "dict",data:= .dict [].toArray }) scope.names }):
  FG M A (newFunctionEnv scope globals closure [] GU func code (Fa around) builtins) Q E s:=by
 simp only[newFunctionEnv,T7,SW];refine Fn (wpAny_alloc ?_);refine Fn (wpAny_layCells _ (λn k c=>rfl) scope.names closure _ _ ?_);rw[show({ s with heap:=s.heap.push { cls:= .type "dict",data:= .dict [].toArray } } :E8).heap.objs.size=s.heap.objs.size+1 from HC ..];rw[Q7];exact Fn (FT (FT h))
theorem iK {sc:Scope} : ∀ {names:EV (FD×JJ)}{x:FD}{k:JJ},
  (names.map λ(n,k)=>if(k == Lm&&sc.kind == .function&&sc.names.lookup n == Fa .cell) then(n,QS) else(n,k)).lookup x=Fa k->
  ∃k',names.lookup x=Fa k'/\(k=k'\/(k'= .free/\k= .cell))
 |[],_,_,h=>by simp at h
 | (n,k₀)::r,x,k,h=>by
  have ih:= @iK sc r x k
  have h':Ji x ((if(k₀ == Lm&&sc.kind == .function&&sc.names.lookup n == Fa .cell)=FM then(n,QS) else(n,k₀))::(r.map _))=Fa k:=h
  cases hx:x == n with
  |true=>
   simp only[JK,hx];by_cases hc:(k₀ == Lm&&sc.kind == .function&&sc.names.lookup n == Fa .cell)=FM
   ·rw[E7 hc] at h'
    simp only[JK,hx] at h';cases h';simp only[GC,beq_iff_eq] at hc;exact#[k₀,Gc, .inr #[hc.1.1,Gc]]
   ·rw[E5 hc] at h'
    simp only[JK,hx] at h';cases h';exact#[_,Gc, .inl rfl]
  |false=>
   simp only[JK,hx];by_cases hc:(k₀ == Lm&&sc.kind == .function&&sc.names.lookup n == Fa .cell)=FM
   ·rw[E7 hc] at h'
    simp only[JK,hx] at h';exact ih h'
   ·rw[E5 hc] at h'
    simp only[JK,hx] at h';exact ih h'
structure wF (N:EV FD) (sc scope:Scope) (own:EV (FD×Fm)):Prop where
 kind:scope.kind= .function
 uniq: ∀y∈scope.names,scope.names.lookup y.1=Fa y.2
 ix: ∀p∈own,N[p.2]?=Fa p.1
 free: ∀y∈scope.names,y.2= .free->sc.names.lookup y.1=Fa .cell\/sc.names.lookup y.1=Fa .free
 own: ∀y∈scope.names,y.2= .local\/y.2= .cell->y.1∈own.map (·.1)\/y.1∉N
def g7 (σ:St):EV Fm->St
 |[]=>σ
 |v::vs=>(g7 σ vs).set v FB
theorem iO (σ:St): ∀vs:EV Fm,(g7 σ vs).length=σ.length
 |[]=>rfl
 |v::vs=>by unfold g7;rw[EV.length_set,iO σ vs]
theorem kK {σ:St}{i:Fm}{x:V} : ∀ {vs:EV Fm},(g7 σ vs)[i]?=Fa (Fa x)->σ[i]?=Fa (Fa x)/\i∉vs
 |[],h=>#[h,by simp]
 |v::vs,h=>by
  unfold g7 at h;by_cases hi:v=i
  ·subst hi
   by_cases hv:v<(g7 σ vs).length
   ·rw[NS hv] at h;cases h
   ·rw[IF (by simpa using hv)] at h;cases h
  ·rw[Oq hi] at h
   obtain⟨h1,h2⟩:=kK h;exact#[h1,by simp only[Fi,VH];exact#[λe=>hi e.symm,h2]]
abbrev Cx.Tb (X:Cx) (s:E8) (H:Hp) (scope:Scope) (KY:Env) (fp:EV E4):Cx:= { X with Pz:=s,H_0:=H,env:=KY,outer:=X.stack,ex:=fp,fn:=λx=>scope.names.lookup x == Fa .cell,pn:=[],xe:=λ_ _=>False }
section
variable {X:Cx}{pins:EV (E4×IG)}{σ:St}{H:Hp}{s:E8}
theorem tJ {scope:Scope}{own:EV (FD×Fm)}{fp:EV E4}(I:aE X pins σ H s) (ok:wF X.N X.env.scope scope own) (hN:X.N.Nodup) (hfp: ∀b∈fp,pf X pins H b/\b<s.heap.objs.size):
  aE (X.Tb s H scope (MF scope (HU (s.heap.objs.size+1) scope.names (bZ X.env.cells scope.names [])) s.heap.objs.size X.env) fp) [] (g7 σ (own.map (·.2))) H { s with heap:=Nw (s.heap.push { cls:= .type "dict",data:= .dict [].toArray }) scope.names } :=by
 have Rj: ∀y∈scope.names,y.2= .free-> ∃c,X.env.cells.lookup y.1=Fa c:=λy hy e=>by
  rcases ok.free y hy e with k|k
  ·exact I.ok.has _ (.inl k)
  ·exact I.ok.has _ (.inr k)
 generalize SD:MF scope (HU (s.heap.objs.size+1) scope.names (bZ X.env.cells scope.names [])) s.heap.objs.size X.env=KY;have kp: ∀b o,s.heap.get? b=Fa o->(Nw (s.heap.push { cls:= .type "dict",data:= .dict [].toArray }) scope.names).get? b=Fa o:=λb o e=>OP _ _ _ _ (Fl _ e)
 have hL:KY.locals=s.heap.objs.size:=by rw[<-SD];rfl
 have hcl:KY.cells=HU (s.heap.objs.size+1) scope.names (bZ X.env.cells scope.names []):=by rw[<-SD];rfl
 have hsc:KY.scope=akK scope X.env.scope:=by rw[<-SD];rfl
 rw[<-HC s.heap { cls:= .type "dict",data:= .dict [].toArray }] at hcl;have cm: ∀ {y c},(y,c)∈bZ X.env.cells scope.names []->X.env.cells.lookup y=Fa c/\c<s.heap.objs.size:=λ{y c} hm=>by
  rcases gn hm with hm|⟨h1,rfl⟩
  ·cases hm
  ·obtain⟨c,hc⟩:=Rj _ h1 rfl
   rw[hc];obtain⟨w,z⟩:=I.cell _ _ hc;exact#[Gc,z.lt]
 have mem: ∀ {y c},KY.cells.lookup y=Fa c->(X.env.cells.lookup y=Fa c/\c<s.heap.objs.size)\/(s.heap.objs.size+1<=c/\Bm (Nw (s.heap.push { cls:= .type "dict",data:= .dict [].toArray }) scope.names) c FB):=λ{y c} e=>by
  rw[hcl] at e;rcases gM (GB e) with hm|⟨_,h2,h3⟩
  ·exact .inl (cm hm)
  ·rw[HC] at h2;exact .inr #[h2,h3]
 have look: ∀ {y},scope.names.lookup y=Fa .free-> ∃c,KY.cells.lookup y=Fa c/\X.env.cells.lookup y=Fa c:=λ{y} hl=>by
  have hy:(y,Lm)∈scope.names:=GB hl;obtain⟨c',e'⟩:=jB (iZ (names:=scope.names) (n:=(s.heap.push { cls:= .type "dict",data:= .dict [].toArray }).objs.size) (iP (cells:=X.env.cells) (acc:=[]) hy));rw[<-hcl] at e';refine#[c',e',?_];rw[hcl] at e';rcases gM (GB e') with hm|⟨h1,_,_⟩
  ·exact(cm hm).1
  ·have:=ok.uniq _ h1
   rw[hl] at this;cases this
 have okB:(X.Tb s H scope KY fp).Ok:=by
  refine#[I.ok.mod,by show KY.scope.kind=_;rw[hsc];exact ok.kind,by show KY.globals=_;rw[<-SD];exact I.ok.glob,by show KY.builtins=_;rw[<-SD];exact I.ok.blt,by show s.heap.objs.size<=KY.locals;rw[hL];exact Fq _,
   λy z c e1 e2=>?_,λy hy=>?_,λy c z e=>?_,I.ok.hd,I.ok.frames, .inl rfl,λb hb=>#[?_,λy c e z=>?_],I.bs,FA I.ok.UO I.sz,λb o e hb=>?_,λb hb z=>?_,I.stack,I.Qu]
  ·have e1:KY.cells.lookup y=Fa c:=e1
   have e2:KY.cells.lookup z=Fa c:=e2;rw[hcl] at e1 e2;refine lc (λp hp=>?_) (λy z c a b=>I.ok.inj y z c (cm a).1 (cm b).1) (GB e1) (GB e2)
   rw[HC];exact Jb (cm (y:=p.1) (c:=p.2) hp).2
  ·show∃c,KY.cells.lookup y=Fa c
   have key: ∀k,KY.kindOf y=Fa k->(k= .cell\/k= .free)-> ∃c,KY.cells.lookup y=Fa c:=λk hk hk'=>by
    unfold Env.kindOf at hk;rw[hsc] at hk;obtain⟨k',e,r⟩:=iK hk;have:k'= .cell\/k'= .free:=by
     rcases r with rfl|⟨rfl,_⟩
     ·exact hk'
     ·exact .inr rfl
    rcases this with rfl|rfl
    ·obtain⟨c,hm⟩:=kO (n:=(s.heap.push { cls:= .type "dict",data:= .dict [].toArray }).objs.size) (acc:=bZ X.env.cells scope.names []) (GB e)
     obtain⟨c',e'⟩:=jB hm;exact#[c',by rw[hcl];exact e']
    ·obtain⟨c,h1,_⟩:=look e
     exact#[c,h1]
   rcases hy with hy|hy
   ·exact key _ hy (.inl rfl)
   ·exact key _ hy (.inr rfl)
  ·have z:(scope.names.lookup y == Fa QS)=FM:=z
   have z:scope.names.lookup y=Fa .cell:=by simpa using z
   have e:KY.cells.lookup y=Fa c:=e;rw[hcl] at e;rcases gM (GB e) with hm|⟨_,h2,_⟩
   ·rcases gn hm with hm|⟨h1,_⟩
    ·cases hm
    ·have q:=ok.uniq _ h1
     rw[z] at q;cases q
   ·rw[HC] at h2
    exact Lj h2
  ·show b≠KY.locals
   rw[hL];exact GQ (hfp b hb).2
  ·have e:KY.cells.lookup y=Fa c:=e
   rcases mem e with⟨h1,_⟩|⟨h1,_⟩
   ·exact(hfp b hb).1.2.2.2.2.1 y c h1 z
   ·have h2:s.heap.objs.size+1<=b:=by rw[<-z];exact h1
    exact Fv (FQ (hfp b hb).2 (Lj h2)) (HL _)
  ·rcases(hfp b hb).1.2.2.2.1 with z|z
   ·exact I.ok.Sy b o e z
   ·exact Fv (FQ (FJ e) (FA I.ok.UO z)) (HL _)
  ·rcases Fi.mp (I.RL b z) with z|z
   ·exact(hfp b hb).1.2.1 z
   ·exact(hfp b hb).1.2.2.1 z
 refine#[okB,Gc,I.bare,Un.kept kp,#[λ_=>FB,?_,λi y av e1 e2 e3=>?_],λy c e=>?_,?_,λy c e=>?_,λp hp=>?_,I.Ic.kept kp,by rw[iO];exact I.len]
 ·show GI.Ns _ KY.locals _
  rw[hL];exact GI.Ns.keeps (GI.Ns.new ..) λb o e=>OP _ _ _ _ e
 ·obtain⟨e2,hne⟩:=kK e2
  have RY:scope.names.lookup y=Fa .free/\(KY.kindOf y=Fa .cell\/KY.kindOf y=Fa .free):=by
   have key: ∀k,KY.scope.names.lookup y=Fa k->k= .local\/k= .cell\/k= .free->scope.names.lookup y=Fa .free/\(KY.kindOf y=Fa .cell\/KY.kindOf y=Fa .free):=λk hk hk'=>by
    have hk0:=hk;rw[hsc] at hk;obtain⟨k',e,r⟩:=iK hk
    have no: ¬(k'= .local\/k'= .cell):=λhh=>by
     rcases ok.own _ (GB e) hh with e'|e'
     ·obtain⟨p,hp,hpy⟩:=Lg.mp e'
      have e3:=ok.ix p hp
      have:p.1=y:=hpy;rw[this] at e3;exact hne (Lg.mpr #[p,hp,nY hN e3 e1])
     ·exact e' (GP e1)
    rcases r with rfl|⟨rfl,rfl⟩
    ·rcases hk' with rfl|rfl|rfl
     ·exact Fv (.inl rfl) no
     ·exact Fv (.inr rfl) no
     ·exact#[e, .inr hk0]
    ·exact#[e, .inl hk0]
   have e3:oS KY.scope y:=e3;rcases e3 with e3|e3|e3
   ·exact key _ e3 (.inl rfl)
   ·exact key _ e3 (.inr (.inl rfl))
   ·exact key _ e3 (.inr (.inr rfl))
  obtain⟨m,hn,hl⟩:=I.loc;have akL:oS X.env.scope y:=(ok.free _ (GB RY.1) rfl).elim (λk=> .inr (.inl k)) (λk=> .inr (.inr k))
  obtain⟨w,r,q⟩:=hl i y av e1 e2 akL;refine#[w,r, .inr #[RY.2,?_]];obtain⟨c,h1,h2⟩:=look RY.1;rcases q with⟨k,_⟩|⟨_,c',e',z⟩
  ·have k:X.env.scope.names.lookup y=Fa .local:=k
   rcases ok.free _ (GB RY.1) rfl with k'|k'<;>rw[show X.env.scope.names.lookup y=_ from k'] at k<;>cases k
  ·rw[h2] at e';cases e'
   exact#[c,h1,z.keeps kp]
 ·have e:KY.cells.lookup y=Fa c:=e
  rcases mem e with⟨h1,_⟩|⟨_,z⟩
  ·obtain⟨w,z⟩:=I.cell y c h1
   exact#[w,z.keeps kp]
  ·exact#[_,z]
 ·show H KY.locals=FB
  rw[hL];exact I.Ic.fresh (Fq _)
 ·have e:KY.cells.lookup y=Fa c:=e
  rcases mem e with⟨h1,_⟩|⟨h1,_⟩
  ·exact I.Mb y c h1
  ·exact I.Ic.fresh (Lj h1)
 ·exact Fv (show p∈([]:EV (E4×IG))++[] from hp) (by simp)
theorem aau {E:E3->E8->Prop}{xs:EV V}{y:V}{v:E3}{Q:E3->E8->Prop}(I:aE X pins σ H s) (hD:H D=Fa (.lst xs)) (hz:xs.length<FP) (r:bo y v)
  (h: ∀s',aE X pins σ (aF H D (.lst (xs++[y]))) s'->Q .none s'):FG (model X.prog X.w) X.A (call (.builtin "list.append") [.ref D,v]) Q E s:=by
 obtain⟨hz',Ho,n,ri,e⟩:=I.Ic D _ hD;have hl:=ri.length;refine append_at (hsz:=by rw[F3];lia) e λh' sb Ri=>?_;refine h { s with heap:=h' } (I.write (t':=s.toks) (by rw[hD];trivial) (.inl rfl) (λb u hb q=>(sb.2 b hb).trans q) #[_,Ri] #[by rw[Ft];exact hz,Ho++[v],n+1,ri.append (.cons r .nil),?_]);rw[Ri];simp
def PTs (X:Cx) (ifs:EV Hv) (t:TT):Prop:=
 ∀(pins:EV (E4×IG)) (s:E8) (σ:St) (H:Hp) (Q:Gg->Hp->Prop),aE X pins σ H s->t σ H Q->
  FG (model X.prog X.w) X.A (forIn ifs FM λc r=>if r=FM then do let ok<-isTrue c X.env (eval c X.env);pure (NA ok) else pure (NA r)) (TP X pins σ Q) X.xe s
def EH:TT:=λ_ H Q=>Q FM H
theorem qB:PTs X [] EH:=λ_ _ _ H _ I h=>wpAny_tests_nil #[H,I,h]
end
theorem ya {α:Type}{t:Sem α}{Q Q':α->E8->Prop}{A:GG}{E:E3->E8->Prop}{s:E8}(h:FG M A t Q (λ_ _=>False) s) (hQ: ∀a s,Q a s->Q' a s):FG M A t Q' E s:=Ip h hQ λ_ _ z=>Iz z
theorem qM {prog:FW}{w:Gx}{A:GG}{R:Result->E8->Prop}{s:E8}{elt target iter:Hv}{scope:Scope}{pos:Pos}{it acc:E3}{env:Env}(I:Fm->E8->Prop)
  (turn: ∀n s,I n s->FG (model prog w) A (Rt it) (λr s₁=>match r with
   |none=>R (.ok .next) s₁
   |some v=>FG (model prog w) A (OO target it v) (λ_ s₁'=>FG (model prog w) A (assign target env v) (λ_ s₂=>
     FG (model prog w) A (forIn ifs FM λc r=>if r=FM then do let ok<-isTrue c env (eval c env);pure (NA ok) else pure (NA r)) (λok s₃=>
      if ok=FM then FG (model prog w) A (eval elt env) (λx s₄=>
       FG (model prog w) A (call (.builtin "list.append") [acc,x]) (λ_ s₅=> ∃m,m<n/\I m s₅) (SY (model prog w) A env λe s'=>R (.error e) s') s₄) (SY (model prog w) A env λe s'=>R (.error e) s') s₃
      else∃m,m<n/\I m s₃) (SY (model prog w) A env λe s'=>R (.error e) s') s₂) (SY (model prog w) A env λe s'=>R (.error e) s') s₁') (SY (model prog w) A env λe s'=>R (.error e) s') s₁) (SY (model prog w) A env λe s'=>R (.error e) s') s)
  (n:Fm) (h:I n s):
  Lf (model prog w) A (.compLoop (.ListComp elt [#[target,iter,ifs,0]] scope pos) 0 it acc env) R s:=by
 refine codeAny_loop rfl I (λn s hI=>?_) n h;show FG _ A ((compTurn (.ListComp elt [#[target,iter,ifs,0]] scope pos) 0 it acc env).onRaise (λx=>do PU x env;theTreesLotGoes x)) _ _ s;refine wpAny_noted ?_;rw[compTurn_list];refine Fn (NV (Fn (Ip (turn n s hI) (λr s₁ h₁=>?_) λ_ _ h'=>h')));cases r with
 |none=>exact FT h₁
 |some v=>
  refine Fn (Ip h₁ (λ_ s₁' h₁'=>?_) λ_ _ h'=>h');refine Fn (Ip h₁' (λ_ s₂ h₂=>Fn (Ip h₂ (λok s₃ h₃=>?_) λ_ _ h'=>h')) λ_ _ h'=>h');cases ok with
  |false=>exact FT #[Gc,h₃]
  |true=>
   exact Fn (Fn (Ip h₃ (λx s₄ h₄=>Fn (Ip h₄ (λ_ s₅ h₅=>FT (FT #[Gc,h₅])) λ_ _ h'=>h')) λ_ _ h'=>h'))
section
variable {X:Cx}
def tLc (wi:TI) (g:TG) (tt:TT) (te:TE) (vs:EV Fm):TE:=λσ H Q=>wi σ H λJ H1=> ∀D,H1 D=FB-> ∃W:Fm->Fm->Hp->Prop,(∃m,W 0 m (aF H1 D (.lst [])))/\ ∀i m H,W i m H->
 (J.stop i H/\Q (.ref D) H)\/(J.go i H/\ ∃Nx:Hp->Prop,(∀H',Nx H'-> ∃m',m'<m/\W (i+1) m' H')/\ ∀x H',J.yld i H x H'->g x (g7 σ vs) H' λσ2 H2=>g7 σ2 vs=g7 σ vs/\tt σ2 H2 λb H3=>
  if b=FM then te σ2 H3 λy H4=> ∃acc,H4 D=Fa (.lst acc)/\acc.length<FP/\Nx (aF H4 D (.lst (acc++[y]))) else Nx H3)
theorem D0 {pins:EV (E4×IG)}{s:E8}{σ:St}{H:Hp}{Q:VK}{elt tg iter:Hv}{ifs:EV Hv}{scope:Scope}{own:EV (FD×Fm)}{pos Nt:Pos}{wi:TI}{g:TG}{tt:TT}{te:TE}{use:Fd (E3->Sem MZ)}{Qf:E3->E8->Prop}
  (hc:X.calm=FM) (hN:X.N.Nodup) (I:aE X pins σ H s) (hi:PI X tg iter wi) (ok:wF X.N X.env.scope scope own)
  (hg: ∀(s:E8) (H:Hp) (C:E4) (cl:EV (FD×E4)) (fp:EV E4),PG (X.Tb s H scope (MF scope cl C X.env) fp) tg g) (ht: ∀(s:E8) (H:Hp) (C:E4) (cl:EV (FD×E4)) (fp:EV E4),PTs (X.Tb s H scope (MF scope cl C X.env) fp) ifs tt)
  (he: ∀(s:E8) (H:Hp) (C:E4) (cl:EV (FD×E4)) (fp:EV E4),PE (X.Tb s H scope (MF scope cl C X.env) fp) elt te) (hs: ∀x,LO iter X.env x=pure x)
  (h:tLc wi g tt te (own.map (·.2)) σ H Q)
  (hRR: ∀D C s' m H',aE X pins σ H' s'->Q (.ref D) H'->s'.heap.Ns C m->pf X pins H' C->compPost (model X.prog X.w) X.A X.xe use Qf (.ref D) C (.ok .next) s'):
  FG (model X.prog X.w) X.A (comprehension (.ListComp elt [#[tg,iter,ifs,0]] scope pos) scope X.env Nt (newList []) FS (eval iter X.env) use) Qf X.xe s:=by
 have Rj: ∀y∈scope.names,y.2= .free-> ∃c,X.env.cells.lookup y.1=Fa c:=λy hy e=>by
  rcases ok.free y hy e with k|k
  ·exact I.ok.has _ (.inl k)
  ·exact I.ok.has _ (.inr k)
 refine wpAny_comprehension_free (use:=use) rfl hs (uX Rj) ok.kind (λy hy e=>by rw[ok.uniq y hy,e])
  (b9 (hi pins s σ H _ I h) λxv s1 hx=>b9 hx λitv s2 h2=>?_)
 obtain⟨it,fp,tn,J,H2,e,I2,T,st2,f2,q⟩:=h2;subst e;refine wpAny_newObj_type (sU ?_) (by show 0<=FP;decide);generalize hD:s2.heap.objs.size=D;have hDn:H2 D=FB:=I2.Ic.fresh (J1 hD);obtain⟨W,⟨m0,w0⟩,turn⟩:=q D hDn;generalize hs3:({ s2 with heap:=s2.heap.push { cls:= .type "list",data:= .seq ([]:EV E3).toArray } } :E8)=s3;have I3:aE X pins σ (aF H2 D (.lst [])) s3:=by
  rw[<-hs3];refine I2.laid (t':=s2.toks) (λb o e=>Fl _ e) (J1 hD) #[FI _,[],0, .nil,?_];rw[<-hD];exact GK _ rfl
 have h3:s3.heap=s2.heap.push { cls:= .type "list",data:= .seq ([]:EV E3).toArray } :=by rw[<-hs3]
 have sz: ∀b∈fp,b<s2.heap.objs.size:=λb hb=>by
  obtain⟨o,e,_⟩:=T.obj _ _ st2 b hb;exact FJ e
 have f3: ∀b∈fp,pf X pins (aF H2 D (.lst [])) b/\b<s3.heap.objs.size:=λb hb=>by
  have Uq:=sz b hb;refine#[#[?_,(f2 b hb).2],by rw[h3,HC];exact Jb Uq];rw[ac (by rw[<-hD];exact GQ Uq)];exact(f2 b hb).1
 have st3:tn 0 s3.heap:=T.keep _ _ _ st2 λb _ o e=>by rw[h3];exact Fl _ e
 have I4:=tJ I3 ok hN f3
 have pg:=hg s3 (aF H2 D (.lst [])) s3.heap.objs.size (HU (s3.heap.objs.size+1) scope.names (bZ X.env.cells scope.names [])) fp
 have pt:=ht s3 (aF H2 D (.lst [])) s3.heap.objs.size (HU (s3.heap.objs.size+1) scope.names (bZ X.env.cells scope.names [])) fp
 have pe:=he s3 (aF H2 D (.lst [])) s3.heap.objs.size (HU (s3.heap.objs.size+1) scope.names (bZ X.env.cells scope.names [])) fp
 show Lf _ _ (.compStart (.ListComp elt [#[tg,iter,ifs,0]] scope pos) 0 (.ref it) (.ref D) (MF scope (HU (s3.heap.objs.size+1) scope.names (bZ X.env.cells scope.names [])) s3.heap.objs.size X.env)) (compPost (model X.prog X.w) X.A X.xe use Qf (.ref D) s3.heap.objs.size) { s3 with heap:=Nw (s3.heap.push { cls:= .type "dict",data:= .dict [].toArray }) scope.names }
 have nfp: ∀b∈fp,(aF H2 D (.lst [])) b=FB:=λb hb=>(f3 b hb).1.1
 generalize hce:MF scope (HU (s3.heap.objs.size+1) scope.names (bZ X.env.cells scope.names [])) s3.heap.objs.size X.env=ce at I4 pg pt pe ⊢;have cL:ce.locals=s3.heap.objs.size:=by subst hce;rfl
 generalize hH3:aF H2 D (.lst [])=H3 at I3 I4 pg pt pe w0 nfp f3;generalize hs4:({ s3 with heap:=Nw (s3.heap.push { cls:= .type "dict",data:= .dict [].toArray }) scope.names } :E8)=s4 at I4 ⊢;have st4:tn 0 s4.heap:=T.keep _ _ _ st3 λb _ o e=>by rw[<-hs4];exact OP _ _ _ _ (Fl _ e)
 have TH: ∀ {σ':St}{H':Hp}{s':E8},aE (X.Tb s3 H3 scope ce fp) [] σ' H' s'->(∀b∈fp,H' b=FB)-> ∀b∈fp,pf (X.Tb s3 H3 scope ce fp) [] H' b:=λ{σ' H' s'} I' hn b hb=>
  #[hn b hb,(I'.ok.exf b hb).1,I'.ok.SA b hb, .inl hb,λx c e=>(I'.ok.exf b hb).2 x c e,λp hp=>Fv (show p∈([]:EV (E4×IG))++[] from hp) (by simp)]
 have loop:Lf (model X.prog X.w) X.A (.compLoop (.ListComp elt [⟨tg,iter,ifs,0⟩] scope pos) 0 (.ref it) (.ref D) ce) (compPost (model X.prog X.w) X.A X.xe use Qf (.ref D) s3.heap.objs.size) s4:=by
  refine qM (λn s'=> ∃i H',aE (X.Tb s3 H3 scope ce fp) [] (g7 σ (own.map (·.2))) H' s'/\tn i s'.heap/\(∀b∈fp,H' b=FB)/\W i n H') ?_ m0 #[0,H3,I4,st4,nfp,w0];rintro n s5 ⟨i,H5,I5,st5,n5,w5⟩;rcases turn i n H5 w5 with⟨stop,qq⟩|⟨go,Nx,hNx,step⟩
  ·have td:=T.done (X.Tb s3 H3 scope ce fp) rfl rfl rfl hc i [] s5 _ H5 (λ_ _=>False) I5 (TH I5 n5) st5 stop
   refine ya td λr s6 ⟨hr,I6⟩=>?_;subst hr;have I7:aE X pins σ H5 s6:=I3.V3 (ch:=fp) I6.os I6.base I6.Ic I6.bare λb hb=>#[(f3 b hb).1.2.2.2.1,(f3 b hb).1.2.1,(f3 b hb).1.2.2.2.2.1,(f3 b hb).1.2.2.2.2.2]
   have nC:H5 s3.heap.objs.size=FB:=by
    have z:H5 ce.locals=FB:=I6.free;rw[cL] at z;exact z
   obtain⟨m,hn,_⟩:=I6.loc;have hn:s6.heap.Ns ce.locals m:=hn;rw[cL] at hn;exact hRR D s3.heap.objs.size s6 m H5 I7 qq hn (I3.aaf (Fq _) nC)
  ·have ti:=T.item (X.Tb s3 H3 scope ce fp) rfl rfl rfl hc i [] s5 _ H5 (λ_ _=>False) I5 (TH I5 n5) st5 go
   refine ya ti λr s6 ⟨u,hr,h6⟩=>?_;subst hr;refine ya h6 λ_ s7 ⟨x,H7,I7,r7,y7,st7,n7⟩=>?_;have I7':=I7.pinned (TH I7 n7) (T.obj _ _ st7);refine ya (pg _ s7 _ H7 x u _ I7' r7 (step x H7 y7)) λ_ s8 ⟨σ8,H8,I8,hw8,q8⟩=>?_;refine ya (pt _ s8 σ8 H8 _ I8 q8) λb s9 ⟨H9,I9,q9⟩=>?_;have eN: ∀ {s':E8}{H':Hp},aE (X.Tb s3 H3 scope ce fp) ([]++oo fp s7.heap) σ8 H' s'->Nx H'-> ∃m,m<n/\ ∃i H',aE (X.Tb s3 H3 scope ce fp) [] (g7 σ (own.map (·.2))) H' s'/\tn i s'.heap/\(∀b∈fp,H' b=FB)/\W i m H':=λ{s' H'} I' nx=>by
    obtain⟨m',hm,w'⟩:=hNx H' nx;have afA: ∀b∈fp,∀o,s7.heap.get? b=Fa o->s'.heap.get? b=Fa o/\H' b=FB:=λb hb o e=>
     let z:=I'.pin (b,o) (G8 _ (G8 _ (jF hb e)))
     #[z.1,z.2.1]
    have hl:(g7 σ (own.map (·.2))).length=σ8.length:=by rw[<-hw8,iO]
    refine#[m',hm,i+1,H',(I'.Ph (pins:=[])).weak hl (λj v e=>?_),T.keep _ _ _ st7 λb hb o e=>(afA b hb o e).1,λb hb=>?_,w']
    ·rw[<-hw8] at e
     exact(kK e).1
    ·obtain⟨o,e,_⟩:=T.obj _ _ st7 b hb
     exact(afA b hb o e).2
   cases b with
   |false=>
    simp only[II,ME] at q9 ⊢;exact eN I9 q9
   |true=>
    simp only[SW] at q9 ⊢;refine ya (pe _ s9 σ8 H9 _ I9 q9) λz s10 ⟨yv,H10,I10,r10,acc,akM,akN,nx⟩=>?_;exact aau (X:=X.Tb s3 H3 scope ce fp) I10 akM akN r10 λs11 I11=>eN I11 nx
 exact codeAny_compStart_list loop (T.self X.A 0 _ _ _ st4 loop)
theorem CG {elt tg iter:Hv}{scope:Scope}{pos:Pos}{g:TG}{tt:TT}{te:TE}(hc:X.calm=FM) (hN:X.N.Nodup) (hi:PI X tg iter wi) (ok:wF X.N X.env.scope scope own)
  (hg: ∀(s:E8) (H:Hp) (C:E4) (cl:EV (FD×E4)) (fp:EV E4),PG (X.Tb s H scope (MF scope cl C X.env) fp) tg g) (ht: ∀(s:E8) (H:Hp) (C:E4) (cl:EV (FD×E4)) (fp:EV E4),PTs (X.Tb s H scope (MF scope cl C X.env) fp) ifs tt)
  (he: ∀(s:E8) (H:Hp) (C:E4) (cl:EV (FD×E4)) (fp:EV E4),PE (X.Tb s H scope (MF scope cl C X.env) fp) elt te) (hs: ∀x,LO iter X.env x=pure x:=by intro _;rfl):
  PE X (.ListComp elt [#[tg,iter,ifs,0]] scope pos) (tLc wi g tt te (own.map (·.2))):=by
 rw[01];rw[eval_ListComp];refine D0 hc hN I hi ok hg ht he hs h λD C s' m H' I' q hn f=>#[m,hn,λh'' sb=>?_];obtain⟨f0,f1,f2,f3,f4,f5⟩:=f;exact#[.ref D,H',I'.turned (t':=s'.toks) (λb o hb e=>(sb.2 b hb).trans e) f0 f1 f3 f4 f5,Gc,q]
end
theorem qI {K:E1}{a:E4}{xs:EV V}{g:TG}{tt:TT}{te:TE}{σ:St}{H1:Hp}{Qd:Hp->Prop}(Pv:Fm->Hp->Prop) (h0:Pv 0 (aF H1 D (.lst []))) (hl: ∀i H,i<=xs.length->Pv i H->cC K H a xs)
  (hs: ∀i x H,xs[i]?=Fa x->Pv i H->g x (g7 σ vs) H λσ2 H2=>g7 σ2 vs=g7 σ vs/\tt σ2 H2 λb H3=>
   if b=FM then te σ2 H3 λy H4=> ∃acc,H4 D=Fa (.lst acc)/\acc.length<FP/\Pv (i+1) (aF H4 D (.lst (acc++[y]))) else Pv (i+1) H3) (hd: ∀H,Pv xs.length H->Qd H):
  ∃W:Fm->Fm->Hp->Prop,(∃m,W 0 m (aF H1 D (.lst [])))/\ ∀i m H,W i m H->
   ((X2 K a).stop i H/\Qd H)\/((X2 K a).go i H/\ ∃Nx:Hp->Prop,(∀H',Nx H'-> ∃m',m'<m/\W (i+1) m' H')/\ ∀x H',(X2 K a).yld i H x H'->g x (g7 σ vs) H' λσ2 H2=>g7 σ2 vs=g7 σ vs/\tt σ2 H2 λb H3=>
    if b=FM then te σ2 H3 λy H4=> ∃acc,H4 D=Fa (.lst acc)/\acc.length<FP/\Nx (aF H4 D (.lst (acc++[y]))) else Nx H3):=by
 refine#[λi m H=>m=xs.length-i/\i<=xs.length/\Pv i H,#[xs.length,by simp,FI _,h0],?_];rintro i m H ⟨rfl,hi,p⟩;have q:=hl i H hi p;by_cases Uq:i<xs.length
 ·refine .inr #[#[xs,xs[i],q,by simp [Uq]],Pv (i+1),λH' p'=>#[xs.length-(i+1),by lia,Gc,Uq,p'],λx H' y=>?_]
  obtain⟨e,y⟩:=y;subst e;exact hs i x _ (y xs q) p
 ·have e:i=xs.length:=by lia
  subst e;exact .inl #[#[xs,q,Fq _],hd H p]
def Cv (N:EV FD) (sc scope:Scope) (own:EV (FD×Fm)):Gg:=
 (match scope.kind with| .function=>FM|_=>FS)&&(scope.names.all λy=>decide (scope.names.lookup y.1=Fa y.2))&&(own.all λp=>decide (N[p.2]?=Fa p.1))&&
  (scope.names.all λy=>match y.2 with
   | .free=>(match sc.names.lookup y.1 with|some .cell=>FM|some .free=>FM|_=>FS)
   | .local=>decide (y.1∈own.map (·.1))||decide (y.1∉N)
   | .cell=>decide (y.1∈own.map (·.1))||decide (y.1∉N)
   |_=>FM)
theorem nh {sc scope:Scope}(h:Cv N sc scope own=FM):wF N sc scope own:=by
 unfold Cv at h;simp only[GC,LJ,NT] at h;obtain⟨⟨⟨h1,h2⟩,h3⟩,h4⟩:=h;refine#[?_,h2,h3,λy hy e=>?_,λy hy e=>?_]
 ·split at h1
  ·assumption
  ·cases h1
 ·have q:=h4 y hy
  simp only[e] at q;split at q<;>first|exact .inl (by assumption)|exact .inr (by assumption)|cases q
 ·have q:=h4 y hy
  rcases e with e|e<;>(simp only[e,Mh,NT] at q;exact q)
section
variable {κ:Type} [DecidableEq κ]
def bO (aD:EV (κ×V)) (k:κ):Fd V:=(aD.find? λkv=>decide (kv.1=k)).map (·.2)
def dy (aD:EV (κ×V)) (k:κ) (v:V):EV (κ×V):=
 if(aD.any λkv=>decide (kv.1=k))=FM then aD.map (λkv=>if kv.1=k then(kv.1,v) else kv) else aD++[(k,v)]
def fE (aD:EV (κ×V)) (k:κ):EV (κ×V):=aD.filter λkv=>decide (kv.1≠k)
theorem cg {p:κ×V}{r:EV (κ×V)}{k:κ}(e:p.1=k):bO (p::r) k=Fa p.2:=by simp [bO,G6,e]
theorem b7 {p:κ×V}{r:EV (κ×V)}{k:κ}(e: ¬p.1=k):bO (p::r) k=bO r k:=by simp [bO,G6,e]
theorem kc (k:κ): ∀aD:EV (κ×V),(aD.any λkv=>decide (kv.1=k))=(bO aD k).isSome
 |[]=>rfl
 |p::r=>by
  rw[Nz];by_cases e:p.1=k
  ·simp only[cg e,Gy e,S6,T7]
  ·rw[b7 e,FU e,RR];exact kc k r
theorem tj (k j:κ) (y:V): ∀aD:EV (κ×V),bO (aD.map λkv=>if kv.1=k then(kv.1,y) else kv) j=(bO aD j).map λx=>if j=k then y else x
 |[]=>rfl
 |p::r=>by
  have ih:=tj k j y r;rw[FC];by_cases h:p.1=k
  ·rw[E7 h]
   by_cases e:p.1=j
   ·rw[cg (p:=(p.1,y)) e,cg e,L0,E7 (e.symm.trans h)]
   ·rw[b7 (p:=(p.1,y)) e,b7 e,ih]
  ·rw[E5 h]
   by_cases e:p.1=j
   ·rw[cg (p:=p) e,cg e,L0,E5 (λz=>h (e.trans z))]
   ·rw[b7 (p:=p) e,b7 e,ih]
theorem pC (k j:κ) (y:V): ∀aD:EV (κ×V),bO aD k=FB->bO (aD++[(k,y)]) j=if j=k then Fa y else bO aD j
 |[],_=>by
  by_cases e:k=j
  ·rw[E7 e.symm];exact cg (p:=(k,y)) e
  ·rw[E5 (λz=>e z.symm)];exact b7 (p:=(k,y)) e
 |p::r,hn=>by
  rw[Wc];have hk: ¬p.1=k:=λz=>by rw[cg z] at hn;cases hn
  rw[b7 hk] at hn;have ih:=pC k j y r hn;by_cases e:p.1=j
  ·rw[cg e,cg e,E5 (λz=>hk (e.trans z))]
  ·rw[b7 e,b7 e,ih]
theorem gE (aD:EV (κ×V)) (k j:κ) (y:V):bO (dy aD k y) j=if j=k then Fa y else bO aD j:=by
 unfold dy;by_cases a:(aD.any λkv=>decide (kv.1=k))=FM
 ·rw[E7 a,tj]
  rw[kc] at a;by_cases e:j=k
  ·obtain⟨x,hx⟩:=Ky.mp a
   rw[E7 e,e,hx,L0,E7 rfl]
  ·rw[E5 e]
   cases bO aD j with
   |none=>rfl
   |some x=>rw[L0,E5 e]
 ·rw[E5 a]
  refine pC k j y aD ?_;rw[kc] at a;cases q:bO aD k with
  |none=>rfl
  |some x=>rw[q] at a;exact(a rfl).elim
theorem cD (aD:EV (κ×V)) (k:κ) (v:V):(dy aD k v).length<=aD.length+1:=by
 unfold dy;split
 ·rw[Fh];lia
 ·rw[Ft,Fj,J5];lia
theorem fU.Mj {o:Fd V}{u:Fd E3}(r:fU o u):o.isSome=u.isSome:=by
 cases o with
 |none=>cases u with
  |none=>rfl
  |some _=>exact(show False from r).elim
 |some _=>cases u with
  |none=>exact(show False from r).elim
  |some _=>rfl
theorem KV.val {aD:EV (κ×V)}(r:KV aD vs) (k:κ):fU (bO aD k) (PZ vs k):=by
 unfold KV at r
 induction r with
 |nil=>exact G7
 | @cons p q ps qs h t ih=>
  obtain⟨h1,h2⟩:=h;by_cases e:p.1=k
  ·have e':q.1=k:=h1.symm.trans e
   have b:PZ (q::qs) k=Fa q.2:=by simp [PZ,G6,e']
   rw[cg e,b];exact h2
  ·have e': ¬q.1=k:=λz=>e (h1.trans z)
   have b:PZ (q::qs) k=PZ qs k:=by simp [PZ,G6,e']
   rw[b7 e,b];exact ih
theorem KV.any {aD:EV (κ×V)}(r:KV aD vs) (k:κ):(aD.any λkv=>decide (kv.1=k))=vs.any λkv=>decide (kv.1=k):=by
 unfold KV at r
 induction r with
 |nil=>rfl
 |cons h t ih=>rw[Nz,Nz,ih,h.1]
theorem KV.aav {aD:EV (κ×V)}(r:KV aD vs) (k:κ) {y:V}{u:E3}(ry:bo y u):
  KV (aD.map λkv=>if kv.1=k then(kv.1,y) else kv) (vs.map λkv=>if kv.1=k then(kv.1,u) else kv):=by
 unfold KV at r ⊢
 induction r with
 |nil=>exact .nil
 | @cons p q ps qs h t ih=>
  rw[FC,FC];refine .cons ?_ ih;obtain⟨h1,h2⟩:=h;by_cases e:p.1=k
  ·rw[E7 e,E7 (h1.symm.trans e)];exact#[h1,ry]
  ·rw[E5 e,E5 (λz=>e (h1.trans z))];exact#[h1,h2]
theorem KV.put {aD:EV (κ×V)}(r:KV aD vs) (k:κ) {y:V}{u:E3}(ry:bo y u):KV (dy aD k y) (stored vs k u):=by
 unfold dy stored;rw[r.any k];by_cases e:(vs.any λkv=>decide (kv.1=k))=FM
 ·rw[E7 e,E7 e];exact r.aav k ry
 ·rw[E5 e,E5 e];exact YY r #[Gc,ry]
theorem KV.drop {aD:EV (κ×V)}(r:KV aD vs) (k:κ):KV (fE aD k) (without vs k):=by
 unfold KV at r ⊢;unfold fE without
 induction r with
 |nil=>exact .nil
 | @cons p q ps qs h t ih=>
  obtain⟨h1,h2⟩:=h;rw[Qq,Qq];by_cases e:p.1=k
  ·have a: ¬decide (p.1≠k)=FM:=by simp [e]
   have b: ¬decide (q.1≠k)=FM:=by simp [h1.symm.trans e]
   rw[E5 a,E5 b];exact ih
  ·have e': ¬q.1=k:=λz=>e (h1.trans z)
   have a:decide (p.1≠k)=FM:=by simp [e]
   have b:decide (q.1≠k)=FM:=by simp [e']
   rw[E7 a,E7 b];exact .cons #[h1,h2] ih
theorem KV.length {aD:EV (κ×V)}(r:KV aD vs):aD.length=vs.length:=Q9 r
theorem AO (aD:EV (κ×V)) (k:κ):(fE aD k).length<=aD.length:=Od _ _
end
theorem oH {P:FW}{w:Gx}{k:a8}{u:E3}(r:bo (kV k) u):(aT P w).is k u=FM:=by
 cases k with
 |inl i=>obtain⟨t,e⟩:=(show∃t,u=J6 i t from r);subst e;exact ui P w i t
 |inr x=>obtain⟨t,e⟩:=(show∃t,u=Ov x t from r);subst e;exact su P w x t
theorem pK {P:FW}{w:Gx} : ∀ {ks:EV a8}{us:EV E3},aY (ks.map kV) us->ItemsAre (aT P w) ks us
 |[],_,r=>by rw[PY] at r;cases r;exact .nil
 |k::ks,_,r=>by
  rw[FC] at r;cases r with
  |cons h t=>exact .cons (oH h) (pK t)
abbrev KT (H:Hp):EV (EV a8×V)->EV (EV a8×E4×E3)->Prop:=Paired λp q=>p.1=q.1/\H q.2.1=Fa (.tup (p.1.map kV))/\bo p.2 q.2.2
theorem KT.val {H:Hp}{aD:EV (EV a8×V)}{xs:EV (EV a8×E4×E3)}(r:KT H aD xs) (k:EV a8):fU (bO aD k) ((QW xs k).map (·.2)):=by
 induction r with
 |nil=>exact G7
 | @cons p q ps qs h t ih=>
  obtain⟨h1,_,h2⟩:=h;by_cases e:p.1=k
  ·have e':q.1=k:=h1.symm.trans e
   have b:QW (q::qs) k=Fa q.2:=by simp [QW,G6,e']
   rw[cg e,b];exact h2
  ·have e': ¬q.1=k:=λz=>e (h1.trans z)
   have b:QW (q::qs) k=QW qs k:=by simp [QW,G6,e']
   rw[b7 e,b];exact ih
theorem KT.aav {H:Hp}{aD:EV (EV a8×V)}{xs:EV (EV a8×E4×E3)}(r:KT H aD xs) (k:EV a8) {y:V}{u:E3}(ry:bo y u):
  KT H (aD.map λkv=>if kv.1=k then(kv.1,y) else kv) (xs.map (putAt k u)):=by
 induction r with
 |nil=>exact .nil
 | @cons p q ps qs h t ih=>
  rw[FC,FC];refine .cons ?_ ih;obtain⟨h1,h2,h3⟩:=h;unfold putAt;by_cases e:p.1=k
  ·rw[E7 e,E7 (h1.symm.trans e)];exact#[h1,h2,ry]
  ·rw[E5 e,E5 (λz=>e (h1.trans z))];exact#[h1,h2,h3]
theorem KT.put {H:Hp}{aD:EV (EV a8×V)}{xs:EV (EV a8×E4×E3)}(r:KT H aD xs) (k:EV a8) {b:E4}{y:V}{u:E3}(hb:H b=Fa (.tup (k.map kV))) (ry:bo y u):
  KT H (dy aD k y) (storedH xs k b u):=by
 have e:(aD.any λkv=>decide (kv.1=k))=(QW xs k).isSome:=by
  rw[kc,(r.val k).Mj,HR]
 unfold dy storedH;rw[e];by_cases q:(QW xs k).isSome=FM
 ·rw[E7 q,E7 q];exact r.aav k ry
 ·rw[E5 q,E5 q];exact YY r #[Gc,hb,ry]
theorem KT.keeps {H H':Hp}{aD:EV (EV a8×V)}{xs:EV (EV a8×E4×E3)}(r:KT H aD xs) (ht: ∀b ys,H b=Fa (.tup ys)->H' b=Fa (.tup ys)):KT H' aD xs:=
 Paired.Np r λ_ _ z=>#[z.1,ht _ _ z.2.1,z.2.2]
section
variable {P:FW}{w:Gx}{H:Hp}{h:GI}{a:E4}
theorem X7 {u:HO}(ok:ia P w H h) (e:Rd H a u):cu P w H h a u:=e.ok ok
theorem ox {aD:EV (a8×V)}(ok:ia P w H h) (e:Rd H a (.dK aD)):aD.length<=FP/\(a == Io)=FS/\ ∃vs,KV aD vs/\h.DictOf (aT P w) a vs:=
 show cu P w H h a (.dK aD) from X7 ok e
theorem X8 {aD:EV (a8×V)}(ok:ia P w H h) (e:H a=Fa (.dK aD)):aD.length<=FP/\(a == Io)=FS/\ ∃vs,KV aD vs/\h.DictOf (aT P w) a vs:=ox ok (.inl e)
theorem jv {ks:EV a8}(ok:ia P w H h) (e:H a=Fa (.tup (ks.map kV))):(Nv (aT P w)).is h ks a:=by
 obtain⟨_,Ho,r,o,h1,h2,n,h3⟩:=(show cu P w H h a (.tup (ks.map kV)) from ok a _ e);exact#[o,Ho.toArray,n,h1,h2,h3,by simpa using pK r]
theorem pz {aD:EV (EV a8×V)}(ok:ia P w H h) (e:Rd H a (.dT aD)):aD.length<=FP/\(a == Io)=FS/\
  ∃xs,KT H aD xs/\h.DictOfH (Nv (aT P w)) a xs:=by
 obtain⟨z,y,xs,r,o,es,ep,h1,h2,h3,h4,h5⟩:=(show cu P w H h a (.dT aD) from X7 ok e);refine#[z,y,xs,r,o,es,ep,h1,h2,h3,h4,λx hx=>?_,h5];have all: ∀ {l:EV (EV a8×V)}{m:EV (EV a8×E4×E3)},KT H l m-> ∀x∈m,(Nv (aT P w)).is h x.1 x.2.1:=by
  intro l m q
  induction q with
  |nil=>intro x hx;exact nomatch hx
  | @cons p q ps qs hq t ih=>
   intro x hx;rcases Fi.mp hx with e|hx
   ·subst e
    exact jv ok (by rw[<-hq.1];exact hq.2.1)
   ·exact ih x hx
 exact all r x hx
theorem afB {aD:EV (EV a8×V)}(ok:ia P w H h) (e:H a=Fa (.dT aD)):aD.length<=FP/\(a == Io)=FS/\
  ∃xs,KT H aD xs/\h.DictOfH (Nv (aT P w)) a xs:=pz ok (.inl e)
end
def gy (H:Hp) (a:E4) (y:V) (r:Fd V):Prop:=
 (∃aD k,Rd H a (.dK aD)/\y=kV k/\r=bO aD k)\/ ∃aD k b,Rd H a (.dT aD)/\y= .ref b/\H b=Fa (.tup (k.map kV))/\r=bO aD k
def ug (H:Hp) (a:E4) (y v:V) (H':Hp):Prop:=
 (∃aD k,H a=Fa (.dK aD)/\y=kV k/\aD.length<FP/\H'=aF H a (.dK (dy aD k v)))\/
 ∃aD k b,H a=Fa (.dT aD)/\y= .ref b/\H b=Fa (.tup (k.map kV))/\aD.length<FP/\H'=aF H a (.dT (dy aD k v))
theorem gy.k {H:Hp}{a:E4}{aD:EV (a8×V)}{k:a8}(e:H a=Fa (.dK aD)):gy H a (kV k) (bO aD k):= .inl #[aD,k, .inl e,Gc,Gc]
theorem ug.k {H:Hp}{a:E4}{aD:EV (a8×V)}{k:a8}{v:V}(e:H a=Fa (.dK aD)) (hl:aD.length<FP):ug H a (kV k) v (aF H a (.dK (dy aD k v))):= .inl #[aD,k,e,Gc,hl,Gc]
section
variable {X:Cx}{pins:EV (E4×IG)}{σ:St}{H:Hp}{s:E8}{a:E4}{y v:V}{u r:E3}{o:Fd V}{A:GG}{E:E3->E8->Prop}
theorem aE.big (I:aE X pins σ H s):Io<s.heap.objs.size:=by
 have h:Jc<s.heap.objs.size:=(I.mod.glob.keeps I.bk).lt;exact Fm.lt_trans [01] h
theorem yW {Q:E3->E8->Prop}(hu:A.units+1<Px) (I:aE X pins σ H s) (g:gy H a y (Fa v)) (ry:bo y u) (h: ∀w' s',aE X pins σ H s'->bo v w'->Q w' s'):
  FG (model X.prog X.w) A (SV (.ref a) u) Q E s:=by
 rcases g with⟨aD,k,e,ey,l⟩|⟨aD,k,b,e,ey,eb,l⟩
 ·subst ey
  obtain⟨z,hd,vs,rel,dd⟩:=ox I.Ic e;obtain⟨w',hw,TJ⟩:=fU.some_of (v:=v) (o:=PZ vs k) (by rw[l];exact rel.val k);exact wpAny_getItem_of (oH ry) dd.mapOf hw (h w' _ (I.tok _) TJ)
 ·subst ey
  cases (show u=FL b from ry);obtain⟨z,hd,xs,rel,dd⟩:=pz I.Ic e;obtain⟨w',hw,TJ⟩:=fU.some_of (v:=v) (o:=(QW xs k).map (·.2)) (by rw[l];exact rel.val k);obtain⟨p,hp,hp2⟩:=F4.mp hw;refine YO (J8 hu) (jv I.Ic eb) dd hp ?_;rw[hp2];exact h w' _ (I.tok _) TJ
theorem akO {Q:E3->E8->Prop}(hu:A.units+1<Px) (I:aE X pins σ H s) (g:gy H a y o) (ry:bo y u) (h: ∀s',aE X pins σ H s'->Q (.bool o.isSome) s'):
  FG (model X.prog X.w) A (Ij .In u (.ref a)) Q E s:=by
 rcases g with⟨aD,k,e,ey,l⟩|⟨aD,k,b,e,ey,eb,l⟩
 ·subst ey
  obtain⟨z,hd,vs,rel,dd⟩:=ox I.Ic e;refine wpAny_in_of (oH ry) hd dd.mapOf ?_;rw[<-(rel.val k).Mj,<-l];exact h _ (I.tok _)
 ·subst ey
  cases (show u=FL b from ry);obtain⟨z,hd,xs,rel,dd⟩:=pz I.Ic e;refine wpAny_in_heap (J8 hu) (jv I.Ic eb) hd dd ?_;have q:=(rel.val k).Mj;rw[HR] at q;rw[<-q,<-l];exact h _ (I.tok _)
theorem DT {Q:E3->E8->Prop}(hu:A.units+1<Px) (I:aE X pins σ H s) (g:gy H a y o) (ry:bo y u) (h: ∀s',aE X pins σ H s'->Q (.bool (!o.isSome)) s'):
  FG (model X.prog X.w) A (Ij .NotIn u (.ref a)) Q E s:=by
 rcases g with⟨aD,k,e,ey,l⟩|⟨aD,k,b,e,ey,eb,l⟩
 ·subst ey
  obtain⟨z,hd,vs,rel,dd⟩:=ox I.Ic e;refine wpAny_notIn_of (oH ry) hd dd.mapOf ?_;rw[<-(rel.val k).Mj,<-l];exact h _ (I.tok _)
 ·subst ey
  cases (show u=FL b from ry);obtain⟨z,hd,xs,rel,dd⟩:=pz I.Ic e;refine wpAny_notIn_heap (J8 hu) (jv I.Ic eb) hd dd ?_;have q:=(rel.val k).Mj;rw[HR] at q;rw[<-q,<-l];exact h _ (I.tok _)
theorem rc {h':GI}(I:aE X pins σ H s) (mu:eU (H a)) (hs:My a s.heap h') (he: ∃q,h'.get? a=Fa q) (new:cu X.prog X.w (aF H a ob) h' a ob):
  aE X pins σ (aF H a ob) { s with heap:=h',toks:=t' } :=
 I.write (x:=a) (e:=a) mu (.inl rfl) (λb q hb z=>(hs.2 b hb).trans z) he new
theorem uE {P:FW}{w:Gx}{H':Hp}{h':GI}{aD:EV (a8×V)}(z:aD.length<=FP) (hd:(a == Io)=FS) (rel:KV aD vs) (dd:h'.DictOf (aT P w) a vs):
  cu P w H' h' a (.dK aD):=#[z,hd,vs,rel,dd]
theorem yk {H':Hp}{Q:MZ->E8->Prop}(hu:A.units+1<Px) (I:aE X pins σ H s) (g:ug H a y v H') (ry:bo y u) (rv:bo v r) (h: ∀s',aE X pins σ H' s'->Q () s'):
  FG (model X.prog X.w) A (setItem (.ref a) u r) Q E s:=by
 rcases g with⟨aD,k,e,ey,l,eH⟩|⟨aD,k,b,e,ey,eb,l,eH⟩
 ·subst ey eH
  obtain⟨z,hd,vs,rel,dd⟩:=X8 I.Ic e;have hz:vs.length<=FP:=by rw[<-rel.length];exact z
  have hl:(dy aD k v).length<=FP:=by have:=cD aD k v;lia
  refine wpAny_setItem_pairs (hsz:=hz) (oH ry) dd λh' Wu hs=>h _ ?_;have he: ∃q,h'.get? a=Fa q:=let ⟨q,_,_,hq,_⟩:=Wu;#[q,hq];exact rc I (by rw[e];exact G7) hs he (uE hl hd (rel.put k rv) Wu)
 ·subst ey eH
  cases (show u=FL b from ry);obtain⟨z,hd,xs,rel,dd⟩:=afB I.Ic e;have hz:xs.length<=FP:=by rw[<-Q9 rel];exact z
  have hl:(dy aD k v).length<=FP:=by have:=cD aD k v;lia
  refine wpAny_setItem_heap (hsz:=hz) (J8 hu) (jv I.Ic eb) dd λh' Wu hs=>h _ ?_;obtain⟨q,es,ep,hq,h2,h3,h4,_,h5⟩:=Wu;refine rc I (by rw[e];exact G7) hs #[q,hq] #[hl,hd,_,(rel.put k eb rv).keeps λc ys ec=>?_,q,es,ep,hq,h2,h3,h4,h5];rw[ac (qa ec e (λz=>nomatch z))]
  exact ec
end
section
variable {X:Cx}{pins:EV (E4×IG)}{σ:St}{H:Hp}{s:E8}{a:E4}{aD:EV (a8×V)}{k:a8}{u:E3}{A:GG}{E:E3->E8->Prop}
theorem afC {v:V}{Q:E3->E8->Prop}(I:aE X pins σ H s) (e:H a=Fa (.dK aD)) (ry:bo (kV k) u) (l:bO aD k=Fa v) (hm:more=[]\/ ∃x,more=[x])
  (h: ∀w' s',aE X pins σ (aF H a (.dK (fE aD k))) s'->bo v w'->Q w' s'):FG (model X.prog X.w) A (call (.builtin "dict.pop") (.ref a::u::more)) Q E s:=by
 obtain⟨z,hd,vs,rel,dd⟩:=X8 I.Ic e;obtain⟨w',hw,TJ⟩:=fU.some_of (v:=v) (o:=PZ vs k) (by rw[<-l];exact rel.val k);have hp:(keyPart u).isSome=FM:=by
  cases k with
  |inl i=>obtain⟨t,q⟩:=(show∃t,u=J6 i t from ry);subst q;rfl
  |inr x=>obtain⟨t,q⟩:=(show∃t,u=Ov x t from ry);subst q;rfl
 have ha:argsOk "dict.pop" ⟨.ref a::u::more,[]⟩:=by
  rcases hm with q|⟨x,q⟩
  ·subst q;exact PySem.F.args_dict_pop_2 _ _
  ·subst q;exact PySem.F.args_dict_pop_3 _ _ _
 refine call_meetsIn RO dd.typeIs PySem.F.entry_dict_pop ha (meets_dict_pop_there (aT X.prog X.w) a (oH ry) more hm hp)
  #[vs,w',dd,by rw[<-rel.length];exact z,hw,λh' Wu hs=>h w' _ ?_ TJ]
 have he: ∃q,h'.get? a=Fa q:=let ⟨q,_,_,hq,_⟩:=Wu;#[q,hq];exact rc I (by rw[e];exact G7) hs he (uE (FA (AO aD k) z) hd (rel.drop k) Wu)
theorem afD {Q:E3->E8->Prop}(I:aE X pins σ H s) (e:Rd H a (.dK aD)) (h: ∀t s',aE X pins σ H s'->Q (.int aD.length t) s'):FG (model X.prog X.w) A (call (.builtin "len") [.ref a]) Q E s:=by
 obtain⟨z,hd,vs,rel,dd⟩:=ox I.Ic e;refine call_len_dict hd dd (by rw[<-rel.length];rw[HP] at z;lia) ?_;rw[<-rel.length];exact h _ _ (I.tok _)
end
def Ee (i:Hv):Prop:= ∀ov iv,subscripted i FS ov iv=operate [ov,iv] (SV ov iv)
theorem wu {prog:FW}{w:Gx}{A:GG}{E:E3->E8->Prop}{s:E8}{env:Env}{J7 slice:Hv}{pos:Pos}{T id:String}{Q:E3->E8->Prop}
  (hl:HD (.type T) "__getitem__"=pure (Fa (.builtin id))) (hs:Ee slice)
  (h:FG (model prog w) A (eval J7 env) (λo s₁=>FG (model prog w) A (eval slice env) (λi s₂=>s₂.TypeIs o T/\FG (model prog w) A (SV o i) Q E s₂) E s₁) E s):
  FG (model prog w) A (eval (.Subscript J7 slice pos) env) Q E s:=by
 refine YT (Ip h (λo s₁ h₁=>Ip h₁ (λi s₂ h₂=>?_) λ_ _ x=>x) λ_ _ x=>x);obtain⟨hT,h₂⟩:=h₂;unfold UG;refine Fn ?_;rw[getitemInPython_of_ne hT.not_modules];refine Fn (wpAny_specialOf hT hl ?_);have eN:FG (model prog w) A (subscripted slice FS o i) (λr s₃=>FG (model prog w) A (letTemporaryGo J7 o r>>=λ_=>pure r) Q E s₃) E s₂:=by
  rw[hs o i];exact wpAny_operating (Ip h₂ (λr s₃ h₃=>Fn (wpAny_letTemporaryGo (FT h₃))) λ_ _ x=>x)
 first
  |exact FT (Fn eN)
  |exact Fn (FT (Fn eN))
  |exact Fn eN
theorem rK {X:Cx}{pins:EV (E4×IG)}{σ:St}{H:Hp}{s:E8}{a:E4}{y:V}{o:Fd V}(I:aE X pins σ H s) (g:gy H a y o):s.TypeIs (.ref a) "dict":=by
 rcases g with⟨aD,k,e,_,_⟩|⟨aD,k,b,e,_,_,_⟩
 ·obtain⟨_,_,vs,_,dd⟩:=ox I.Ic e
  exact dd.typeIs
 ·obtain⟨_,_,xs,_,dd⟩:=pz I.Ic e
  exact dd.typeIs
def afE (td ty:TE):TE:=λσ H Q=>td σ H λx H1=>ty σ H1 λy H2=> ∃a v,x= .ref a/\gy H2 a y (Fa v)/\Q v H2
inductive AR (y:V) (R:Fd V->Hp->Prop) (x:V) (H2:Hp):Prop
 |mk (a:E4) (o:Fd V) (_:x= .ref a) (_:gy H2 a y o) (_:R o H2):AR y R x H2
def akP (ty td:TE):TE:=λσ H Q=>ty σ H λy H1=>td σ H1 (AR y (λo H2=>Q (.bl o.isSome) H2))
def ER (ty td:TE):TE:=λσ H Q=>ty σ H λy H1=>td σ H1 (AR y (λo H2=>Q (.bl (!o.isSome)) H2))
def afF (td ty tv:TE):TS:=λD σ H=>tv σ H λv H1=>td σ H1 λx H2=>ty σ H2 λy H3=> ∃a H4,x= .ref a/\ug H3 a y v H4/\D.nx σ H4
section
variable {X:Cx}{o i e J7:Hv}{pos Nt afq:Pos}{td ty tv:TE}
theorem jO (hu:X.A.units+1<Px) (ho:PE X o td) (hi:PE X i ty) (hs:Ee i):PE X (.Subscript o i pos) (afE td ty):=by
 rw[01];refine wu QO.lookup hs (b9 (ho pins s σ H _ I h) λu s1 ⟨x,H1,I1,rx,q1⟩=>b9 (hi pins s1 σ H1 _ I1 q1) λiv s2 ⟨y,H2,I2,ry,a,v,ex,g,q2⟩=>?_);subst ex;obtain rfl:u=FL a:=rx;exact#[rK I2 g,yW hu I2 g ry λw' s3 I3 TJ=>#[v,H2,I3,TJ,q2]]
theorem nZ (hu:X.A.units+1<Px) (hi:PE X i ty) (ho:PE X o td):PC X .In i o (akP ty td):=by
 rw[01];refine b9 (hi pins s σ H _ I h) λiv s1 ⟨y,H1,I1,ry,q1⟩=>b9 (ho pins s1 σ H1 _ I1 q1) λu s2 ⟨x,H2,I2,rx,a,ov,ex,g,q2⟩=>?_;subst ex;obtain rfl:u=FL a:=rx;exact akO hu I2 g ry λs3 I3=>#[.bl ov.isSome,H2,I3,Gc,q2]
theorem iV (hu:X.A.units+1<Px) (hi:PE X i ty) (ho:PE X o td):PC X .NotIn i o (ER ty td):=by
 rw[01];refine b9 (hi pins s σ H _ I h) λiv s1 ⟨y,H1,I1,ry,q1⟩=>b9 (ho pins s1 σ H1 _ I1 q1) λu s2 ⟨x,H2,I2,rx,a,ov,ex,g,q2⟩=>?_;subst ex;obtain rfl:u=FL a:=rx;exact DT hu I2 g ry λs3 I3=>#[.bl (!ov.isSome),H2,I3,Gc,q2]
theorem hZ (hu:X.A.units+1<Px) (ho:PE X o td) (hi:PE X i ty) (hv:PE X J7 tv) (hs:Lx J7 (Fa (.Subscript o i Nt)) pos.line X.env=pure FS):
  PS X (.Assign [.Subscript o i Nt] J7 pos) (afF td ty tv):=by
 intro pins s σ H D I h;refine wpAny_Assign_Subscript (b9 (hv pins s σ H _ I h) λr s1 ⟨v,H1,I1,rv,q1⟩=>b9 (ho pins s1 σ H1 _ I1 q1) λu s2 ⟨x,H2,I2,rx,q2⟩=>b9 (hi pins s2 σ H2 _ I2 q2) λiv s3 ⟨y,H3,I3,ry,a,H4,ex,g,q3⟩=>?_) hs;subst ex;obtain rfl:u=FL a:=rx;exact yk hu I3 g ry rv λs4 I4=>#[σ,H4,I4,q3]
end
theorem AW {P:FW}{w:Gx}{H:Hp}(h:GI) (hb:Io<h.objs.size):cu P w H (h.push { cls:= .type "dict",data:= .dict [].toArray }) h.objs.size (.dK []):=
 #[FI _,beq_eq_false_iff_ne.mpr (Iu (GQ hb)),[], .nil,S9 h]
def aaw:TE:=λ_ H Q=> ∀p,H p=FB->Q (.ref p) (aF H p (.dK []))
section
variable {X:Cx}{pos:Pos}
theorem fm:PE X (.Dict [] [] pos) aaw:=λpins s σ H Q I h=>
 wpAny_Dict_empty #[.ref s.heap.objs.size,_,I.laid (a:=s.heap.objs.size) (o:= .dK []) (t':=s.toks) (λ_ _ q=>Fl _ q) (Fq _) (AW s.heap I.big),Gc,h _ (I.Ic.fresh (Fq _))]
end
def fR (aD more:EV (a8×V)):EV (a8×V):=more.foldl (λacc kv=>dy acc kv.1 kv.2) aD
theorem KV.merge: ∀ {more:EV (a8×V)}{rs:EV (a8×E3)}{aD:EV (a8×V)}{vs:EV (a8×E3)},KV more rs->KV aD vs->KV (fR aD more) (merged vs rs):=by
 intro more rs aD vs r;unfold KV at r
 induction r generalizing aD vs with
 |nil=>intro q;exact q
 | @cons p q ps qs h t ih=>
  intro r0;have e:KV (dy aD p.1 p.2) (stored vs q.1 q.2):=by
   have:=r0.put p.1 h.2;rw[<-h.1];exact this
  exact ih e
theorem gu: ∀(more aD:EV (a8×V)),(fR aD more).length<=aD.length+more.length
 |[],aD=>by show aD.length<=aD.length+0;lia
 |p::r,aD=>by
  have h1:=gu r (dy aD p.1 p.2)
  have h2:=cD aD p.1 p.2
  show(fR (dy aD p.1 p.2) r).length<=_
  rw[Fj];lia
structure M1 (X:Cx) (o:Hv) (m:FD) (KZ:Pos) (e:Hv) (Lu:Pos):Prop where
 base:Im o m X.env (eval o X.env)=eval o X.env
 few:((IE Lu (Fy [e] X.env)).all (λx=>!x.1)&&(KH Lu (Jd [] X.env)).all (λx=>x.1.isSome)
  &&decide (([e]:EV Hv).length+([]:EV Keyword).length+(if([]:EV Keyword).isEmpty then 0 else 1)<30))=FM
 line:(KZ.endLine == Lu.line)=FM
 trees:IE Lu (Fy [e] X.env)=[[001]]
def IsD (H:Hp) (a:E4):Prop:=(∃aD,Rd H a (.dK aD))\/ ∃aD,Rd H a (.dT aD)
theorem aax {X:Cx}{pins:EV (E4×IG)}{σ:St}{H:Hp}{s:E8}{a:E4}(I:aE X pins σ H s) (d:IsD H a):
  s.TypeIs (.ref a) "dict"/\(∀b,FL a= .ref b-> ∃ob,s.heap.get? b=Fa ob/\ob.dict=FB)/\(a == Io)=FS:=by
 rcases d with⟨aD,e⟩|⟨aD,e⟩
 ·obtain⟨_,hd,vs,_,dd⟩:=ox I.Ic e
  refine#[dd.typeIs,λb q=>?_,hd];cases q;obtain⟨ob,_,_,h1,h2,_⟩:=dd;exact#[ob,h1,h2.2.1]
 ·obtain⟨_,hd,xs,_,dd⟩:=pz I.Ic e
  refine#[dd.typeIs,λb q=>?_,hd];cases q;obtain⟨ob,_,_,h1,h2,_⟩:=dd;exact#[ob,h1,h2.2.1]
def aay (td ty:TE):TE:=λσ H Q=>td σ H λx H1=> ∃a,x= .ref a/\IsD H1 a/\ty σ H1 λy H2=> ∃aD k v,H2 a=Fa (.dK aD)/\y=kV k/\bO aD k=Fa v/\Q v (aF H2 a (.dK (fE aD k)))
section
variable {X:Cx}{o e f:Hv}{KZ Lu:Pos}{td ty tx:TE}
theorem AU (ho:PE X o td) (he:PE X e ty) (m:M1 X o "pop" KZ e Lu):PE X (.Call (.Attribute o "pop" KZ) [e] [] Lu) (aay td ty):=by
 rw[01];refine wpAny_Call_method m.base m.few m.line PySem.F.plainAttrs_dict RO PySem.F.type_dict_pop (b9 (ho pins s σ H _ I h) λu s1 ⟨x,H1,I1,rx,a,ex,d,q1⟩=>?_);subst ex;obtain rfl:u=FL a:=rx;obtain⟨t1,t2,_⟩:=aax I1 d;refine#[t1,t2,?_];rw[m.trees];refine La rfl (Of (KR (b9 (he pins s1 σ H1 _ I1 q1) λiv s2 ⟨y,H2,I2,ry,aD,k,v,ea,ey,l,q2⟩=>Lb ?_)));subst ey;exact afC I2 ea ry l (.inl rfl) λw' s3 I3 TJ=>#[v,_,I3,TJ,q2]
end
theorem sr:entryFor table "dict.update.loop"=Fa Builtin.«dict.update.loop»:=entryFor_of_tree (by kernel_rfl)
theorem iG:plainId "dict.update.loop"=FM:=by decide+kernel
theorem zw:KQ "zip"=Fa (.type "zip"):=by decide+kernel
end L2
namespace TL
open PySem PySem.Builtin PySem.Builtin.Str PySem.StrLaws
abbrev tl (x:FD):EV Fm:=x.cps.toList
theorem aaz {x y:FD}(h:tl x=tl y):x=y:=FD.ext' (Jk.toList_inj.mp h)
theorem pL (x y:FD):tl (x++y)=tl x++tl y:=by
 show(x++y).cps.toList=_
 rw[FD.cps_append,Jk.toList_append]
def SE (S:EV Fm):EV (EV Fm)->EV Fm
 |[]=>[]
 |[p]=>p
 |p::q::r=>p++(S++SE S (q::r))
theorem Ut (y:FD): ∀parts:EV FD,tl (YZ y parts)=SE (tl y) (parts.map tl)
 |[]=>rfl
 |[_]=>rfl
 |x::z::r=>by
  show tl (x++y++YZ y (z::r))=tl x++(tl y++SE (tl y) ((z::r).map tl))
  rw[pL,pL,Ut y (z::r),Gr]
theorem join_eq (y:FD) (parts:EV FD):UM y parts=YZ y parts:=glued_eq_join y parts
end TL
namespace L2
open PySem PySem.Spec PyProof.Rows
theorem hU: ∀ {ys:EV FD}{us:EV E3},aY (ys.map V.str) us->StrsAre us ys
 |[],_, .nil=> .nil
 |y::ys,_, .cons r t=>by
  obtain⟨k,rfl⟩:=r;exact .cons y k (hU t)
section
variable {X:Cx}
theorem EO:MtR X "str.join" (λx xs H Q=> ∃a p,∃ys:EV FD,x= .str a/\xs=[.ref p]/\(cC X.K H p (ys.map V.str)\/qG X.K H p (ys.map V.str))/\
  (ys.map (·.length)).sum+ys.length*a.length<=16777216/\Q (.str (UM a ys)) H):=by
 intro pins s σ H x xs v us Q I rx rs h;obtain⟨a,p,ys,rfl,rfl,hp,hz,h⟩:=h;obtain⟨t,rfl⟩:=rx;cases rs with
 |cons r1 rs=>
  cases rs;cases r1;rcases hp with hp|hp
  ·obtain⟨Ho,r,⟨o,n,ho,hc,_,hd⟩,_⟩:=I.list hp
   exact PyProof.Rows.join_list (items:=Ho.toArray) #[o,ho,hc,n,hd] (by rw[UA];exact hU r) hz λt' k=>#[.str _,H,I.tok k,#[t',Gc],h]
  ·obtain⟨Ho,r,ht,_⟩:=I.tuple hp
   exact PyProof.Rows.join_tuple (items:=Ho.toArray) ht (by rw[UA];exact hU r) hz λt' k=>#[.str _,H,I.tok k,#[t',Gc],h]
end
section
variable {X:Cx}{o e:Hv}{to te:TE}
def tM1 (r:V->EV V->Hp->VK->Prop) (to te:TE):TE:=λσ H Q=>to σ H λx H1=>(∃a,x= .str a)/\te σ H1 λy H2=>r x [y] H2 Q
theorem afG {id:String}{name:FD}{KZ pos:Pos}{r:V->EV V->Hp->VK->Prop}(slot:Slot "str" name id) (ty:typeOf (.builtin id)=pure (.type "method_descriptor")) (rule:MtR X id r) (ho:PE X o to) (he:PE X e te)
  (hs:Fy [e] X.env=[[001]]:=by rfl) (QL:Im o name X.env (eval o X.env)=eval o X.env:=by rfl) (QM:(KZ.endLine == pos.line)=FM:=by rfl):
  PE X (.Call (.Attribute o name KZ) [e] [] pos) (tM1 r to te):=by
 rw[01];refine PySem.Call_method1 QL hs QM (b9 (ho pins s σ H _ I h) λv s1 ⟨x,H1,I1,r1,q1⟩=>?_);obtain⟨⟨a,rfl⟩,q1⟩:=q1;obtain⟨t,rfl⟩:=_root_.id r1;refine#["str",_,F.plainAttrs_str,slot,ty,YU _ _ _,(λ_ e=>nomatch e),La rfl (Of (KR ?_))]
 exact b9 (he pins s1 σ H1 _ I1 q1) λu s2 ⟨y,H2,I2,r2,q2⟩=>Lb (rule pins s2 σ H2 _ [y] _ [u] Q I2 r1 (.cons r2 .nil) q2)
theorem EN {KZ pos:Pos}(ho:PE X o to) (he:PE X e te) (hs:Fy [e] X.env=[[001]]:=by rfl) (QL:Im o "join" X.env (eval o X.env)=eval o X.env:=by rfl) (QM:(KZ.endLine == pos.line)=FM:=by rfl):
  PE X (.Call (.Attribute o "join" KZ) [e] [] pos) (tM1 (λx xs H Q=> ∃a p,∃ys:EV FD,x= .str a/\xs=[.ref p]/\(cC X.K H p (ys.map V.str)\/qG X.K H p (ys.map V.str))/\
   (ys.map (·.length)).sum+ys.length*a.length<=16777216/\Q (.str (UM a ys)) H) to te):=
 afG F.slot_str_join F.type_str_join EO ho he hs QL QM
end
abbrev E0:XK:=λ_ _ _=>False
theorem aV {X:Cx} :dg wH X E0:=λ_ _ _ _ _ _ _ h=>h.elim
section
variable {P:FW}{w:Gx}{K:E1}{mg:FD->Fd E3}{base:GI}
theorem oU.ok {x GU:FD}{st:Stmt}{f:E4}{fd:Gb}{N ps:EV FD}{k:Fm}{sp:Sp}(F:oU K x GU st f fd) (S:az N ps (af st)) (len: ∀vs H Q E,sp vs H Q E->vs.length=ps.length)
  (Jv: ∀(GF:E3) (A:GG) (outer:EV Env) (s:E8) (H:Hp) (vs:EV V) (Q:VK) (E:XK),bX k (A.deeper (Jz GU (af st) s.heap.objs.size f GF))->sp vs H Q E->
   Bd (e8 wH P w K mg base N GU (af st) f GF A outer s H E).nox (be st) { nx:=λ_ H'=>Q .Iw H',rt:=Q } (start N vs) H):bU P w K mg base wH (k+1) f fd ps sp:=by
 obtain⟨oc,od,kV,doc,pm,an,GF,ct,Wo,rfl,lk,Sf⟩:=F.ex;refine X5 lk Sf S len λA outer s H vs Q E hr Tt=>?_;obtain⟨t,h,q⟩:=Jv GF A outer s H vs Q E hr Tt;exact#[t,h.nox,q]
end
theorem dn {A:GG}{k:Fm}(hr:bX k A):A.units+1<Px:=F9 (Mu (by decide:1<=64) _) hr.units
section
variable {X:Cx}
theorem pv (i:Fm) {x:FD}{pos:Pos}(hN:X.N[i]?=Fa x:=by rfl) (hv:oS X.env.scope x:=by first|exact GO rfl|exact Or.inr (GO rfl)|exact Or.inr (Or.inr rfl)) (hd:(x == [003])=FS:=by decide)
  (Sf:(x == ("__classdict__":FD))=FS:=by decide):PE X (.Name x pos) (kQ i):=dR hN hv hd Sf
theorem zD:gG X (.builtin "len") (λxs H Q=> ∃a aD,xs=[V.ref a]/\H a=Fa (.dK aD)/\Q (.int aD.length) H):=by
 intro pins s σ H xs us Q I r h;obtain⟨a,aD,rfl,ha,q⟩:=h;obtain⟨u,rfl,ru⟩:=mM r;cases ru;exact afD I (.inl ha) λt s' I'=>#[.int aD.length,H,I',#[t,Gc],q]
end
theorem bN {A B:Prop}(h:B):if FS=FM then A else B:=by
 rw[E5 EZ];exact h
theorem cc {A B:Prop}(h:A):if FM=FM then A else B:=by
 rw[E7 rfl];exact h
def aW (H H':Hp):Prop:= ∀b o,H b=Fa o->H' b=Fa o
theorem aW.refl (H:Hp):aW H H:=λ_ _ h=>h
theorem aW.trans {H H1 H2:Hp}(a:aW H H1) (b:aW H1 H2):aW H H2:=λc o h=>b c o (a c o h)
theorem aW.seq {K:E1}{H H':Hp}{a:E4}{xs:EV V}(e:aW H H') (h:cC K H a xs):cC K H' a xs:=by
 rcases h with(h|⟨o,h⟩)|h
 ·exact .inl (.inl (e _ _ h))
 ·exact .inl (.inr #[o,e _ _ h])
 ·exact .inr h
end L2
namespace OS
open PySem
structure yS (l:EV E4) (ch:EV E4) (a:E4) (oe:IG) (h h':GI):Prop where
 keep: ∀b o,b∉l->b∉ch->h.get? b=Fa o->h'.get? b=Fa o
 slot: ∀b o,b∈l->b∉ch->h.get? b=Fa o-> ∃sl,h'.get? b=Fa { o with slots:=sl }
 there: ∀b o,h.get? b=Fa o-> ∃u,h'.get? b=Fa u
 fly: ∃vs T oT ts,h'.get? a=Fa #[oe.cls,oe.dict, .fields vs,oe.slots]/\vs[1]?=Fa (.ref T)/\h.objs.size<=T/\T≠a/\h'.get? T=Fa oT/\oT.data= .fields ts/\ts[3]?=Fa .none
theorem rp {o:IG}{vs:Jk E3}(hd:o.data= .fields vs) (f:Jk E3->Jk E3):o.mapFields f=#[o.cls,o.dict, .fields (f vs),o.slots]:=by
 obtain⟨c,d,dt,sl⟩:=o;cases hd
 rfl
section
variable {E:E3->E8->Prop}{base:GI}{a:E4}{Q:MZ->E8->Prop}
theorem nW {head:E3}{Xg:Gg}(RY:A.frames=Fa (env::outer)) (hl:s.heap.FunFrames base (env::outer)) (hf:env.frame=Fa L)
  (he:s.heap.get? a=Fa oe) (hd:oe.data= .fields vs) (hsz:1<vs.size)
  (h: ∀h',yS ((env::outer).filterMap (·.frame)) [a] a oe s.heap h'->Q () { s with heap:=h' }):
  FG M A (frameOf env>>=λx=>entryPlaceOf L Xg>>=λpl=>Rr head x .none (NX L) .none pl>>=λb=>setField (.ref a) 1 b) (λ_ s'=>FG M A (Rq (.ref a) FB) Q E s') E s:=by
 have na:a∉(env::outer).filterMap (·.frame):=λhm=>by
  obtain⟨_,o,ho,hn⟩:=hl.mem hm;rw[he] at ho;cases ho;exact hn vs hd
 refine Fn (wpAny_frameOf_fun RY hl hf λh1 S=>Fn (wpAny_entryPlaceOf λpl MJ=>?_));unfold Rr newFields;refine Fn (wpAny_newObj_type ?_ (MJ.sizeOk5 _ _ _ _ _));have e1:h1.get? a=Fa oe:=(S.2.1 a na).trans he;generalize ht:({ cls:= .type "traceback",dict:=FB,data:= .fields ([head, .ref L, .none,NX L, .none]++(if pl.isEmpty then IX 6 HK else pl)).toArray } :IG)=tb
 have td:tb.data= .fields ([head, .ref L, .none,NX L, .none]++(if pl.isEmpty then IX 6 HK else pl)).toArray:=by rw[<-ht]
 have tf:tb.isFreed=FS:=LI td
 have e2:(h1.push tb).get? a=Fa oe:=Fl tb e1;refine Tj e2 hd hsz ?_
 have ne:h1.objs.size≠a:=Lk (FJ e1)
 have hd3:=Pu hd (·.setIfInBounds 1 (FL h1.objs.size))
 have e3:=Jn (Ia (·.setIfInBounds 1 (FL h1.objs.size))) e2 (LI hd3)
 have t3:((h1.push tb).update a (Ia (·.setIfInBounds 1 (FL h1.objs.size)))).get? h1.objs.size=Fa tb:=
  (GV (h1.push tb) _ (Iu ne)).trans (GK h1 tf)
 unfold Rq;refine Fn (wpAny_field e3 hd3 (x:= .ref h1.objs.size) (by simp [hsz]) ?_);rw[E7 (show(FL h1.objs.size !=HK)=FM from by simp)];have sz3:3<([head, .ref L, .none,NX L, .none]++(if pl.isEmpty then IX 6 HK else pl)).toArray.size:=by
  simp only[F3,Ft,Fj,J5];lia
 refine Tj t3 td sz3 (h _ ?_);have other: ∀b,b≠a->b≠h1.objs.size-> ∀f,(((h1.push tb).update a (Ia (·.setIfInBounds 1 (FL h1.objs.size)))).update h1.objs.size f).get? b=(h1.push tb).get? b:=λb x y f=>by
  rw[GV _ _ (Iu y),GV _ _ (Iu x)]
 have old: ∀b o,s.heap.get? b=Fa o->b≠h1.objs.size:=λb o q=>by
  rw[S.1];exact GQ (FJ q)
 have d4:=Pu td (·.setIfInBounds 3 ((FB:Fd E4).elim HK λf=>NX f))
 have t4:=Jn (Ia (·.setIfInBounds 3 ((FB:Fd E4).elim HK λf=>NX f))) t3 (LI d4)
 have a4:(((h1.push tb).update a (Ia (·.setIfInBounds 1 (FL h1.objs.size)))).update h1.objs.size (Ia (·.setIfInBounds 3 ((FB:Fd E4).elim HK λf=>NX f)))).get? a=Fa #[oe.cls,oe.dict, .fields (vs.setIfInBounds 1 (FL h1.objs.size)),oe.slots]:=by
  rw[GV _ _ ne,e3,rp hd]
 refine#[λb o nl nc q=>?_,λb o hb nc q=>?_,λb o q=>?_,?_]
 ·rw[other b (λz=>nc (by rw[z];exact Fb)) (old b o q)]
  exact Fl tb ((S.2.1 b nl).trans q)
 ·obtain⟨sl,z⟩:=S.2.2 b o q
  exact#[sl,by rw[other b (λy=>nc (by rw[y];exact Fb)) (old b o q)];exact Fl tb z]
 ·by_cases ba:b=a
  ·rw[ba];exact#[_,a4]
  ·obtain⟨sl,z⟩:=S.2.2 b o q
   exact#[_,by rw[other b ba (old b o q)];exact Fl tb z]
 ·refine#[_,h1.objs.size,_,_,a4,by simp [hsz],J1 S.1.symm,ne,t4,d4,?_]
  simp
theorem xM (RY:A.frames=Fa (env::outer)) (hl:s.heap.FunFrames base (env::outer)) (hf:env.frame=Fa L)
  (he:s.heap.get? a=Fa oe) (hd:oe.data= .fields vs) (h1:vs[1]?=Fa .none)
  (h: ∀h',yS ((env::outer).filterMap (·.frame)) [a] a oe s.heap h'->Q () { s with heap:=h' }):FG M A (leaving env (.ref a)) Q E s:=by
 unfold leaving PU;simp only[hf];refine Fn (Fn (wpAny_field he hd h1 ?_));rw[E5 [01]];exact nW RY hl hf he hd (Ke.mp h1).1 h
theorem wX (RY:A.frames=Fa (env::outer)) (hl:s.heap.FunFrames base (env::outer)) (hf:env.frame=Fa L)
  (he:s.heap.get? a=Fa oe) (hd:oe.data= .fields vs) (h1:vs[1]?=Fa (.ref T)) (ne:T≠a) (hT:s.heap.get? T=Fa oT) (hdT:oT.data= .fields ts) (h3:ts[3]?=Fa .none)
  (h: ∀h',yS ((env::outer).filterMap (·.frame)) [a,T] a oe s.heap h'->Q () { s with heap:=h' }):FG M A (PU (.ref a) env) (λ_ s'=>FG M A (Rq (.ref a) FB) Q E s') E s:=by
 unfold PU;simp only[hf];refine Fn (wpAny_field he hd h1 ?_);rw[E7 (show(FL T !=HK)=FM from by simp)];refine Fn (wpAny_field hT hdT h3 ?_);rw[E5 (show¬((HK == NX L)=FM) from by simp [NX])];refine Fn (Tj hT hdT (Ke.mp h3).1 ?_);have other: ∀b,b≠T->(s.heap.update T (Ia (·.setIfInBounds 3 HK))).get? b=s.heap.get? b:=λb hb=>GV _ _ (Iu hb)
 have nT:T∉(env::outer).filterMap (·.frame):=λhm=>by
  obtain⟨_,o,ho,hn⟩:=hl.mem hm;rw[hT] at ho;cases ho;exact hn ts hdT
 have sT:=Jn (Ia (·.setIfInBounds 3 HK)) hT (LI (Pu hdT _));refine nW (s:= { s with heap:=s.heap.update T (Ia (·.setIfInBounds 3 HK)) }) RY (hl.of_keeps λb o hb hn=>#[o,(other b λq=>by rw[q,hT] at hb;cases hb;exact hn ts hdT).trans hb,Gc]) hf ((other a (Iu ne)).trans he) hd (Ke.mp h1).1 λh' X=>h h' ?_
 have size:(s.heap.update T (Ia (·.setIfInBounds 3 HK))).objs.size=s.heap.objs.size:=GI.size_after_update ..;refine#[λb o nl nc q=>X.keep b o nl (λz=>nc (by rcases Fi.mp z with z|z;rw[z];exact Fb;cases z)) ((other b λz=>nc (by rw[z];simp)).trans q),
  λb o hb nc q=>X.slot b o hb (λz=>nc (by rcases Fi.mp z with z|z;rw[z];exact Fb;cases z)) ((other b λz=>nc (by rw[z];simp)).trans q),λb o q=>?_,?_]
 ·by_cases bT:b=T
  ·rw[bT];exact X.there T _ sT
  ·exact X.there b o ((other b bT).trans q)
 ·obtain⟨ws,T',oT',ts',x1,x2,x3,x4⟩:=X.fly
  exact#[ws,T',oT',ts',x1,x2,by rw[<-size];exact x3,x4]
theorem CY (RY:A.frames=Fa (env::outer)) (hl:s.heap.FunFrames base (env::outer)) (hf:env.frame=Fa L)
  (he:s.heap.get? a=Fa oe) (hd:oe.data= .fields vs) (h1:vs[1]?=Fa (.ref T)) (ne:T≠a) (hT:s.heap.get? T=Fa oT) (hdT:oT.data= .fields ts) (h3:ts[3]?=Fa .none)
  (h: ∀h',yS ((env::outer).filterMap (·.frame)) [a,T] a oe s.heap h'->Q () { s with heap:=h' }):FG M A (leaving env (.ref a)) Q E s:=by
 unfold leaving;exact Fn (wX RY hl hf he hd h1 ne hT hdT h3 h)
end
end OS
namespace OS
open PySem
section
variable {prog:FW}{w:Gx}{A:GG}{E:E3->E8->Prop}{h:GI}{g:Jk QV}{d:Drawn}{t:Fm}{os:OsState}
variable {nm q:FD}{C N:E4}{bs bm bmB:EV E3}{SG:Gg}{sn:EV FD}{sub:EV E3}{ab:Gg}{col:Fd Gg}{dd:Fd E4}{k0 k1 k2 k3 k5:Fd E3}{B JX Ob:String}
def LA (h:GI) (l:EV E3) (name:FD) (y:Fd E3):Prop:= ∀(M:Model) (A:GG) (E:E3->E8->Prop) (g:Jk QV) (d:Drawn) (t:Fm) (os:OsState) (Q:Fd E3->E8->Prop),Q y #[h,g,d,t,os]->FG M A (lookupAlong l name) Q E #[h,g,d,t,os]
theorem LA.of (m:mroOf (.type B)=pure l) (k:HD (.type B) name=pure y):LA h l name y:=by
 rw[typeLookup_eq,m] at k;intro M A E g d t os Q q;rw[show lookupAlong l name=pure y from k];exact FT q
theorem LA.own {a:E4}{mA:FD->Fd E3}(o:h.get? a=Fa #[c0,da, .cls cd,sl]) (n:h.Ns cd.ns mA) (z:mA name=FB) (k:LA h l name y):LA h (.ref a::l) name y:=by
 intro M A E g d t os Q q;rw[lookupAlong_cons];refine Fn (wpAny_classOwn_cls o n ?_);rw[z];exact k M A E g d t os Q q
theorem g8 {mN:FD->Fd E3}{Q:Fd E3->E8->Prop}(hC:h.get? C=Fa (Ib nm q C N bs bm SG sn sub ab col dd k0 k1 k2 k3 k5 JX)) (n:h.Ns N mN) (k:mN name=FB->LA h bm name y)
  (q:Q (match mN name with|some v=>Fa v|none=>y) #[h,g,d,t,os]):FG M A (HD (.ref C) name) Q E #[h,g,d,t,os]:=by
 rw[typeLookup_eq];refine Fn (wpAny_mroOf_exc hC ?_);rw[lookupAlong_cons];refine Fn (wpAny_classOwn_exc hC n ?_);cases z:mN name with
 |some v=>rw[z] at q;exact FT q
 |none=>rw[z] at q;exact k z M A E g d t os Q q
abbrev dh (C T:E4):IG:= { cls:= .ref C,data:= .fields [.ref T, .none, .none, .none, .bool FS, .none].toArray }
abbrev eF (l:EV E3):IG:= { cls:= .type "tuple",data:= .seq l.toArray }
def xm (x:E4) (Q:E3->E8->Prop) (E:E3->E8->Prop) (r:Result) (s':E8):Prop:=match r with
 | .ok (.ret v)=>v= .none/\Q (.ref x) s'
 | .ok _=>False
 | .error e=>E e s'
structure Up (bm l:EV E3) (B:String):Prop where
 b:l.contains (.type B)=FM
 a:l.contains (.type "AttributeError")=FS
 n:l.contains (.type "NameError")=FS
theorem zW (F:M9 B JX Ob bmB) (U:Up bm (.ref C::bm) B) {Q:MZ->E8->Prop}(hC:h.get? C=Fa (Ib nm q C N bs bm SG sn sub ab col dd k0 k1 k2 k3 k5 JX)) (z:Q () #[h,g,d,t,os]):FG M A (Jr JX #[.ref C::rest,[]]) Q E #[h,g,d,t,os]:=by
 have u:=U.b
 have st:=F.noStar;simp only[F.newRow,F.newSplit,F.newKind,Jr]
 repeat (first|(refine wpAny_isSubtype_exc hC ?_;rw[u])|refine Gk hC ?_|refine wpAny_madeBy_exc hC ?_|refine wpAny_staticBase_exc hC ?_|simp only[bne_self_eq_false,II,ME]|wp_step)
 exact z
theorem Ak (F:M9 B JX Ob bmB) (U:Up bm (.ref C::bm) B) {R:Result->E8->Prop}(hC:h.get? C=Fa (Ib nm q C N bs bm SG sn sub ab col dd k0 k1 k2 k3 k5 JX)) (z:R (.ok (.ret (.ref (h.objs.size+1)))) #[(h.push (eF rest)).push (dh C h.objs.size),g,d,t,os]) (Uu:rest.length<=FP):
  Lf (model prog w) A (.builtin JX #[.ref C::rest,[]]) R #[h,g,d,t,os]:=by
 have amn:=F.ends
 have u1:=U.b
 have u2:=U.a
 have u3:=U.n;refine codeAny_builtinAt F.entry ?_;unfold Builtin.«BaseException.__new__»;refine wpAt_bind ?_
 show wpAt _ _ _ (stack>>=_) _ _ _
 refine wpAt_bind (wpAt_stack λ_ _=>wpAt_of_wpAny ?_)
 wp_walk
 refine wpAt_of_wpAny ?_;rw[F.owner]
 repeat (first|(with_reducible refine wpAny_isSubtype_exc hC ?_;first|rw[u1]|rw[u2]|rw[u3])|with_reducible refine wpAny_madeHere_exc F.canon hC ?_|with_reducible refine Gk hC ?_|wp_step)
 show R _ _
 rw[HC];exact z
theorem xY (F:M9 B JX Ob bmB) (U:Up bm (.ref C::bm) B) {Q:MZ->E8->Prop}
  (hC:h.get? C=Fa (Ib nm q C N bs bm SG sn sub ab col dd k0 k1 k2 k3 k5 JX)) (he:h.get? e=Fa oe) (aab:oe.cls= .ref C) (z:Q () #[h,g,d,t,os]):FG M A (Jr Ob #[.ref e::rest,[]]) Q E #[h,g,d,t,os]:=by
 have u:=U.b
 have st:=F.noStar;simp only[F.initRow,F.initSplit,F.initKind,Jr]
 repeat (first|(with_reducible refine wpAny_isSubtype_exc hC ?_;rw[u])|(with_reducible refine Gk he ?_;rw[aab])|with_reducible refine Gk hC ?_|wp_step)
 refine wpAny_onRaise ?_;rw[show∀(a b:String) (n:Fm),Bind.check #[.positional,"*",B, .self,[#["args", .varPos,FS]]] a b n (EV.map (λx=>x.1) ({ pos:=FL e::rest } :Args).kw)=pure () from λ_ _ _=>check_star_args _ _ _ _ _ _];exact FT z
theorem pi (F:M9 B JX Ob bmB) (U:Up bm (.ref C::bm) B) {mN:FD->Fd E3}{Q:Fin->E8->Prop}
  (hC:h.get? C=Fa (Ib nm q C N bs bm SG sn sub ab col dd k0 k1 k2 k3 k5 JX)) (hn:h.Ns N mN) (Xh:mN "__init__"=Fa (.ref fI)) (hI:h.get? fI=Fa oI) (hIc:oI.cls= .type "function")
  (hq:Lf (model prog w) A (.call (.ref fI) #[.ref (h.objs.size+1)::rest,[]]) (xm (h.objs.size+1) (λv s'=>Q (.done (.ret v)) s') E) #[(h.push (eF rest)).push (dh C h.objs.size),g,d,t,os])
  (Uu:rest.length<=FP):
  FG (model prog w) A (Builtin.«type.__call__» #[.ref C::rest,[]]) Q E #[h,g,d,t,os]:=by
 repeat (first|with_reducible refine Gk hC ?_|with_reducible refine wpAny_madeBy_exc hC ?_|wp_step)
 refine codeAny_call_builtin_code (U6 _ F.quiet) (zW F U hC ?_);refine Ak F U hC ?_ Uu;show FG _ _ _ _ _ _;have c1:((h.push (eF rest)).push (dh C h.objs.size)).get? C=Fa (Ib nm q C N bs bm SG sn sub ab col dd k0 k1 k2 k3 k5 JX):=Fl _ (Fl _ hC);have n1:((h.push (eF rest)).push (dh C h.objs.size)).Ns N mN:=
  let ⟨o,es,ep,e,r⟩:=hn;#[o,es,ep,Fl _ (Fl _ e),r]
 have i1:((h.push (eF rest)).push (dh C h.objs.size)).get? fI=Fa oI:=Fl _ (Fl _ hI)
 have e1:((h.push (eF rest)).push (dh C h.objs.size)).get? (h.objs.size+1)=Fa (dh C h.objs.size):=by heap_get
 have hcC:(FL C::bm).contains (.ref C)=FM:=by simp
 unfold YV
 repeat (first|with_reducible refine Gk e1 ?_|(with_reducible refine wpAny_isSubtype_exc c1 ?_;rw[hcC])|wp_step)
 show FG _ _ (HD (.ref C) _) _ _ _
 refine g8 (y:=FB) c1 n1 (λz=>by rw[Xh] at z;cases z) ?_;rw[Xh];refine NW ?_;unfold bindSpecial;refine Fn (Fn ?_);have hT:(⟨(h.push (eF rest)).push (dh C h.objs.size),g,d,t,os⟩:E8).TypeIs (.ref fI) "function":=#[_,i1,hIc];refine Vv hT (FT (Fn (Qx (M8 hq λr s' z=>?_))));rcases r with e|(v|_|_|_)
 ·exact z
 ·exact z.elim
 ·exact z.elim
 ·exact z.elim
 ·obtain⟨rfl,z⟩:=z
  exact FT (FT z)
theorem BI (F:M9 B JX Ob bmB) (U:Up bm (.ref C::bm) B) {mN:FD->Fd E3}{R:Result->E8->Prop}
  (hC:h.get? C=Fa (Ib nm q C N bs bm SG sn sub ab col dd k0 k1 k2 k3 k5 JX)) (hn:h.Ns N mN) (Xh:mN "__init__"=Fa (.ref fI)) (hI:h.get? fI=Fa oI) (hIc:oI.cls= .type "function")
  (hq:Lf (model prog w) (A.under (.builtin "type.__call__" #[.ref C::rest,[]])) (.call (.ref fI) #[.ref (h.objs.size+1)::rest,[]]) (xm (h.objs.size+1) (λv s'=>R (.ok (.ret v)) s') (λe s'=>R (.error e) s')) #[(h.push (eF rest)).push (dh C h.objs.size),g,d,t,os])
  (Uu:rest.length<=FP):
  Lf (model prog w) A (.call (.ref C) #[rest,[]]) R #[h,g,d,t,os]:=by
 have f1:=tc_lookup
 have f2:=tc_bind (.ref C)
 have hT:(⟨h,g,d,t,os⟩:E8).TypeIs (.ref C) "type":=#[_,hC,Gc];refine codeAny_of_tree ?_
 show FG _ _ (callAny (.ref C) _) _ _ _
 repeat (any_goals (first|assumption|with_reducible refine Gk hC ?_|wp_step))
 refine#[Gc,?_];refine codeAny_call_builtin_at (U6 _ [00]) entry_typeCall (wpAny_check_type_call_sub hC (pi F U hC hn Xh hI hIc ?_ Uu));exact hq
theorem xU (F:M9 B JX Ob bmB) (U:Up bm (.ref C::bm) B) {R:Result->E8->Prop}
  (hC:h.get? C=Fa (Ib nm q C N bs bm SG sn sub ab col dd k0 k1 k2 k3 k5 JX)) (he:h.get? e=Fa (dh C T))
  (hq:R (.ok (.ret .none)) #[(h.push (eF [])).update e (Ia (·.setIfInBounds 0 (.ref h.objs.size))),g,d,t,os]):
  Lf (model prog w) A (.call (.builtin Ob) #[[.ref e],[]]) R #[h,g,d,t,os]:=by
 refine Pq F.init.plain F.initEntry (xY F U hC he rfl ?_);unfold Builtin.«BaseException.__init__»
 wp_walk
 exact hq
end
theorem afH:HD (.type "Exception") "__getattribute__"=pure (Fa (.builtin "BaseException.__getattribute__")):=by rw[Ki,IV];kernel_rfl
theorem afI:HD (.type "Exception") "__getattr__"=pure FB:=by rw[Ki,IV];kernel_rfl
theorem wO:Slot "Exception" "__getattribute__" "BaseException.__getattribute__":=
 .of (owner:="BaseException") (n:="__getattribute__") (by rw[Ki,IV];kernel_rfl) [00] [00] [00]
  (by first|exact .inl [00]|exact .inr [00]) (by rw[isSubtype_type];kernel_rfl)
section
open Builtin Builtin.ObjectAttr
variable {prog:FW}{w:Gx}{A:GG}{E:E3->E8->Prop}{h:GI}{g:Jk QV}{d:Drawn}{t:Fm}{os:OsState}
variable {nm q:FD}{C N x:E4}{bs bm:EV E3}{sn:EV FD}{sub:EV E3}{ab:Gg}{col:Fd Gg}{dd:Fd E4}{k0 k1 k2 k3 k5:Fd E3}{JX:String}
 {mN mA:FD->Fd E3}{name:FD}{v:E3}
theorem yg {Q:VJ->E8->Prop}
  (hC:h.get? C=Fa (Ib nm q C N bs bm FM sn sub ab col dd k0 k1 k2 k3 k5 JX)) (hn:h.Ns N mN) (hna:mN name=FB)
  (hB:LA h bm name FB) (I:h.Inst x C mA) (hv:mA name=Fa v) (hq:Q (.done (.ret v)) #[h,g,d,t,os]):
  FG (model prog w) A (Builtin.«object.__getattribute__» #[[.ref x, .str name tk],[]]) Q E #[h,g,d,t,os]:=by
 obtain⟨o,hx,hc,hnc,hd⟩:=I;rcases hd with⟨_,hmA⟩|⟨dx,UZ,hne,hns⟩
 ·rw[hmA name] at hv;cases hv
 unfold Builtin.«object.__getattribute__»
 repeat (first|(with_reducible refine Gk hx ?_;rw[hc])|(with_reducible refine g8 hC hn (λ_=>hB) ?_;rw[hna])|wp_step)
 split
 ·rename_i c Sf
  exact Fv Sf (hnc c)
 unfold instanceDict
 repeat (first|(with_reducible refine Gk hx ?_;rw[hc])|with_reducible refine Gk hC ?_|wp_step)
 rw[UZ]
 repeat (first|(with_reducible refine wpAny_nsGet hns.ns ?_;rw[hv])|wp_step)
 exact hq
theorem yR (hcB:(FL C::bm).contains (.type "BaseException")=FM) {Q:MZ->E8->Prop}(hC:h.get? C=Fa (Ib nm q C N bs bm FM sn sub ab col dd k0 k1 k2 k3 k5 JX))
  (hx:h.get? x=Fa o) (hc:o.cls= .ref C) (hq:Q () #[h,g,d,t,os]):FG M A (Jr "BaseException.__getattribute__" #[[.ref x,ig],[]]) Q E #[h,g,d,t,os]:=by
 have hk:builtinKind "BaseException.__getattribute__"=Fa .slot:=by decide+kernel
 have aaA:splitId "BaseException.__getattribute__"=Fa ("BaseException","__getattribute__"):=by decide+kernel
 have ha:=PySem.F.args_bexc_ga (.ref x) ig;simp only[Jr,hk,aaA];refine Fn ?_;unfold YV
 repeat (first|(with_reducible refine Gk hx ?_;rw[hc])|(with_reducible refine wpAny_isSubtype_exc hC ?_;rw[hcB])|wp_step)
 exact hq
theorem Dy (hcB:(FL C::bm).contains (.type "BaseException")=FM) (l1:LA h bm "__getattribute__" (Fa (.builtin "BaseException.__getattribute__"))) (l2:LA h bm "__getattr__" FB) {Q:E3->E8->Prop}
  (hC:h.get? C=Fa (Ib nm q C N bs bm FM sn sub ab col dd k0 k1 k2 k3 k5 JX)) (hn:h.Ns N mN) (hng:mN "__getattribute__"=FB) (hnh:mN "__getattr__"=FB) (hna:mN name=FB)
  (hB:LA h bm name FB) (I:h.Inst x C mA) (hv:mA name=Fa v) (hh:handedOut v=pure v) (hq:Q v #[h,g,d,t+1,os]):
  FG (model prog w) A (SR (.ref x) name expr) Q E #[h,g,d,t,os]:=by
 obtain⟨o,hx,hc,_⟩:=id I;have f3:=wO.bind (.ref x);have hx0:(expr&&onTheHeap (LM "BaseException.__getattribute__"))=FS:=by cases expr<;>rfl
 have hx2:(LM "BaseException.__getattribute__" == LM "object.__getattribute__")=FS:=by decide+kernel
 have hx1:(onTheHeap (FL C)&&LM "BaseException.__getattribute__" == LM "object.__getattribute__")=FS:=by rw[hx2];rfl
 have hx3:onTheHeap (FL C)=FM:=rfl;unfold SR getAttrBy
 repeat (any_goals (first|assumption|(with_reducible refine Gk hx ?_;rw[hc])|(with_reducible refine g8 hC hn (λ_=>l1) ?_;rw[hng])|(with_reducible refine g8 hC hn (λ_=>l2) ?_;rw[hnh])|wp_step))
 exact Pq wO.plain PySem.F.entry_bexc_ga (yR hcB hC hx hc (yg hC hn hna hB I hv (by show FG _ _ (handedOut v) _ _ _;rw[hh];exact FT hq)))
end
end OS
namespace OS
open PySem
section
open Builtin Builtin.ObjectAttr
variable {prog:FW}{w:Gx}{A:GG}{E:E3->E8->Prop}{h:GI}{g:Jk QV}{d:Drawn}{t:Fm}{os:OsState}
variable {nm q:FD}{C N x R:E4}{bs bm:EV E3}{sn:EV FD}{sub:EV E3}{ab:Gg}{col:Fd Gg}{dd:Fd E4}{k0 k1 k2 k3 k5:Fd E3}{JX:String}
 {mN mA:FD->Fd E3}{name:FD}{v:E3}{o:IG}{vs:Jk E3}{sa owner B:String}
theorem DL {Q:MZ->E8->Prop}(SF:Mm B bm sa owner) (hC:h.get? C=Fa (Ib nm q C N bs (.ref R::bm) FM sn sub ab col dd k0 k1 k2 k3 k5 JX)) (hx:h.get? x=Fa o) (hc:o.cls= .ref C) (z:Q () #[h,g,d,t,os]):
  FG M A (Jr sa #[[.ref x,y,v],[]]) Q E #[h,g,d,t,os]:=by
 have u:(FL C:: .ref R::bm).contains (.type owner)=FM:=by rw[Gn,Gn,SF.hasOwner,P0,P0]
 have ha:=SF.args (.ref x) y v;simp only[SF.split,SF.kind,Jr];refine Fn ?_;unfold YV
 repeat (first|(with_reducible refine wpAny_isSubtype_exc hC ?_;rw[u])|(with_reducible refine Gk hx ?_;rw[hc])|wp_step)
 cases hs:Manifest.signature? sa with
 |none=>exact FT z
 |some r=>
  simp only[argsOk,hs] at ha;show FG M A (Xq sa r #[[.ref x,y,v],[]]) Q E _;rw[show Xq sa r #[[.ref x,y,v],[]]=pure () from ha];exact FT z
theorem zN {Q:VJ->E8->Prop}(SF:Mm B bm sa owner) (hC:h.get? C=Fa (Ib nm q C N bs (.ref R::bm) FM sn sub ab col dd k0 k1 k2 k3 k5 JX)) (hn:h.Ns N mN) (hna:mN name=FB)
  (hB:LA h (.ref R::bm) name FB) (hx:h.get? x=Fa o) (hc:o.cls= .ref C) (hdn:o.dict=FB) (hfd:o.data= .fields vs)
  (hq: ∀h' TN,(∀b ob,b≠x->h.get? b=Fa ob->h'.get? b=Fa ob)->h'.get? x=Fa #[o.cls,Fa h.objs.size,o.data,o.slots]->h'.Ns1 h.objs.size (λy=>if y=name then Fa v else FB)->
   Q (.done (.ret .none)) #[h',g,d,TN,os]):
  FG (model prog w) A (Builtin.«object.__setattr__» #[[.ref x, .str name tk,v],[]]) Q E #[h,g,d,t,os]:=by
 have V6:=SF.passes (.ref x);unfold Builtin.«object.__setattr__»
 repeat (first|rw[refuse_eq]|(rw[refuseLoop_ref,refuseLoop_ref,V6])|(with_reducible refine Gk hx ?_;rw[hc])|with_reducible refine wpAny_mroOf_exc hC ?_|(with_reducible refine g8 hC hn (λ_=>hB) ?_;rw[hna])|wp_step)
 rw[hdn,E5 (by simp [typeHasDict])];split
 ·rename_i z
  cases z
 split
 ·rename_i c z
  rw[hfd] at z;cases z
 ·have x1:(h.push { cls:= .type "dict",data:= .dict [].toArray }).get? x=Fa o:=Fl _ hx
  have ne:x≠h.objs.size:=GQ (FJ hx);refine Fn (wpAny_alloc' ?_);refine Fn (wpAny_update' x1 ?_);refine FT ?_
  have hgd:((h.push { cls:= .type "dict",data:= .dict [].toArray }).update x λo=> { cls:=o.cls,dict:=Fa h.objs.size,data:=o.data,slots:=o.slots }).get? h.objs.size
    =Fa { cls:= .type "dict",data:= .dict [].toArray } :=
   (UC _ _ _ _ ne.symm).trans (GI.get?_push_at rfl rfl)
  have Dj:((h.push { cls:= .type "dict",data:= .dict [].toArray }).update x λo=> { cls:=o.cls,dict:=Fa h.objs.size,data:=o.data,slots:=o.slots }).Ns h.objs.size (λ_=>FB):=
   #[_, [].toArray,_,hgd,Gc,λe he=>Fv he (by simp),λ_=>rfl]
  show FG _ _ (storeInDict h.objs.size (.str name tk) name v) _ _ _
  unfold storeInDict newKeyGuard;refine Fn (FT (Fn (Vu (OQ Dj) λh' XY hs=>?_)));obtain⟨oD,esD,epD,hoD,hdD,hcD⟩:=XY.count (Y0 name v Within.nil);refine Fn (Rm hoD (by rw[hdD];exact Rn (FA hcD (by rw[Fj,J5,HP];lia))) ?_)
  wp_walk
  refine hq h' _ (λb ob hb e=>?_) ?_ XY
  ·exact(hs.2 b (GQ (FJ e))).trans ((UC _ _ _ _ hb).trans (Fl _ e))
  ·refine(hs.2 x ne).trans (Jn _ x1 ?_)
   have RY:=(GI.get?_some_iff.mp hx).2;obtain⟨oc,od,odt,Wo⟩:=o;cases odt<;>first|rfl|exact RY
theorem Bu {Q:VJ->E8->Prop}(SF:Mm B bm sa owner) (hC:h.get? C=Fa (Ib nm q C N bs (.ref R::bm) FM sn sub ab col dd k0 k1 k2 k3 k5 JX)) (hn:h.Ns N mN) (hna:mN name=FB)
  (hB:LA h (.ref R::bm) name FB) (hx:h.get? x=Fa o) (hc:o.cls= .ref C) (UZ:o.dict=Fa dx) (hd:h.Ns1 dx mA) (hw:Within mA ns) (hsz:ns.length<=1000)
  (hq: ∀h' TN,(∀b ob,b≠dx->h.get? b=Fa ob->h'.get? b=Fa ob)->h'.Ns1 dx (λy=>if y=name then Fa v else mA y)->Q (.done (.ret .none)) #[h',g,d,TN,os]):
  FG (model prog w) A (Builtin.«object.__setattr__» #[[.ref x, .str name tk,v],[]]) Q E #[h,g,d,t,os]:=by
 have V6:=SF.passes (.ref x);unfold Builtin.«object.__setattr__»
 repeat (first|rw[refuse_eq]|(rw[refuseLoop_ref,refuseLoop_ref,V6])|(with_reducible refine Gk hx ?_;rw[hc])|with_reducible refine wpAny_mroOf_exc hC ?_|(with_reducible refine g8 hC hn (λ_=>hB) ?_;rw[hna])|wp_step)
 rw[UZ];refine FT ?_;show FG _ _ (storeInDict dx (.str name tk) name v) _ _ _;unfold storeInDict newKeyGuard;refine Fn (FT (Fn (Vu hd λh' n' hs=>?_)));obtain⟨o1,es1,ep1,h1,d1,c1⟩:=n'.count (Y0 name v hw);refine Fn (Rm h1 (by rw[d1];exact Rn (FA c1 (by rw[Fj,HP];lia))) ?_)
 wp_walk
 exact hq h' _ (λb ob hb e=>(hs.2 b hb).trans e) n'
theorem xq {Q:MZ->E8->Prop}(SF:Mm B bm sa owner) (hC:h.get? C=Fa (Ib nm q C N bs (.ref R::bm) FM sn sub ab col dd k0 k1 k2 k3 k5 JX)) (hn:h.Ns N mN) (hns:mN "__setattr__"=FB) (l:LA h (.ref R::bm) "__setattr__" (Fa (.builtin sa))) (hx:h.get? x=Fa o) (hc:o.cls= .ref C)
  (hq: ∀tk t,FG (model prog w) A.in1 (Builtin.«object.__setattr__» #[[.ref x, .str name tk,v],[]]) (λf s'=>f= .done (.ret .none)/\Q () s') (λ_ _=>False) #[h,g,d,t,os]):
  FG (model prog w) A (SS (.ref x) name v) Q E #[h,g,d,t,os]:=by
 have f3:=SF.slot.bind (.ref x);unfold SS callSpecial? specialOf
 repeat (any_goals (first|assumption|(with_reducible refine Gk hx ?_;rw[hc])|(with_reducible refine g8 hC hn (λ_=>l) ?_;rw[hns])|wp_step))
 refine Pq SF.slot.plain SF.entry (DL SF hC hx hc (Ip (hq _ _) (λf s' z=>?_) λ_ _ z=>z.elim));obtain⟨rfl,z⟩:=z
 repeat (any_goals (first|assumption|wp_step))
end
end OS
namespace OS
open PySem PySem.Spec L2
open PyProof.Rows hiding St
def Dn (H:Hp) (ch:EV E4):Hp:=λb=>if b∈ch then FB else H b
theorem e6 {H:Hp}(h:b∉ch):Dn H ch b=H b:=E5 h
theorem nF {H:Hp}(h:b∈ch):Dn H ch b=FB:=E7 h
theorem zM {H:Hp}(h: ∀b∈ch,H b=FB):Dn H ch=H:=by
 funext b
 by_cases hb:b∈ch
 ·rw[nF hb,h b hb]
 ·exact e6 hb
theorem DF {H:Hp}{a:E4}(I:aE X pins σ H s) (hex:X.ex=[])
  (L:yS (rG X.stack) ch a oe s.heap h') (TF: ∀b∈ch,X.Pz.heap.objs.size<=b) (htr: ∀b∈ch,H b=FB\/ ∃φ,H b=Fa (.ext φ)):
  Un X.fs [] X.H_0 (Dn H ch) X.Pz.heap h'/\ia X.prog X.w (Dn H ch) h':=by
 have old: ∀b o,X.Pz.heap.get? b=Fa o->b∉ch:=λb o e hb=>Fv (FQ (FJ e) (TF b hb)) (HL _)
 have nex: ∀b,b∉X.ex:=λb hb=>by rw[hex] at hb;exact nomatch hb
 have nst: ∀b o,X.Pz.heap.get? b=Fa o->b∉X.fs->b∉rG X.stack:=λb o e hb hs=>by
  rcases Fi.mp (I.RL b hs) with z|z
  ·rw[z] at e
   exact Fv (FQ (FJ e) I.ok.above) (HL _)
  ·exact hb z
 have Cc: ∀b u,H b=Fa u->(∀φ,u≠ .ext φ)->b∉ch:=λb u e ne hb=>by
  rcases htr b hb with z|⟨φ,z⟩
  ·rw[e] at z;cases z
  ·rw[e] at z;exact ne φ (Fs z)
 have eN: ∀b,b∈X.fs->b∈rG X.stack:=λb hb=>by
  rcases I.ok.XU with e|⟨e,hf⟩
  ·rw[e];exact hb
  ·rw[e];unfold rG;rw[Kz,hf];exact E9 _ hb
 refine#[#[λb o e n hb _=>?_,λb o e n hb _=>?_,λb o e n _=>?_,λb o e _=>?_,λb xs e=>?_,λb o u e=>?_,λb ps e=>?_],λx u q=>?_]
 ·exact L.keep b o (nst b o e hb) (old b o e) (I.base.keep b o e n hb (nex b))
 ·obtain⟨sl,z⟩:=I.base.slot b o e n hb (nex b)
  obtain⟨sl',z'⟩:=L.slot b _ (eN b hb) (old b o e) z;exact#[sl',z']
 ·rw[e6 (old b o e)]
  exact I.base.free b o e n (nex b)
 ·obtain⟨o',z⟩:=I.base.there b o e (nex b)
  exact L.there b o' z
 ·have z:=I.base.QX b xs e
  rw[e6 (Cc b _ z λφ y=>nomatch y)]
  exact z
 ·have z:=I.base.QA b o u e
  rw[e6 (Cc b _ z λφ y=>nomatch y)]
  exact z
 ·obtain⟨more,z⟩:=I.base.QY b ps e
  exact#[more,by rw[e6 (Cc b _ z λφ y=>nomatch y)];exact z]
 ·have hx:x∉ch:=λz=>by rw[nF z] at q;cases q
  rw[e6 hx] at q;refine(I.Ic x u q).RK (λb v hb e=>?_) (λb e=>?_) λb xs e=>?_
  ·refine L.keep b v (λz=>?_) (λz=>?_) e
   ·have y:=I.Qu b z
    rcases hb with rfl|hb
    ·rw[q] at y;cases y
    ·rw[hb] at y;cases y
   ·rcases hb with rfl|hb
    ·exact hx z
    ·exact Cc b _ hb (λφ y=>nomatch y) z
  ·rw[e6 (Cc b _ e λφ y=>nomatch y)];exact e
  ·rw[e6 (Cc b _ e λφ y=>nomatch y)];exact e
def afJ (C d a:E4) (n:Fm) (H:Hp) (h:GI):Prop:= ∃oe vs T oT ts,h.get? a=Fa oe/\oe.cls= .ref C/\oe.dict=Fa d/\oe.data= .fields vs/\vs[1]?=Fa (.ref T)/\n<=T/\T≠a/\H T=FB/\
 h.get? T=Fa oT/\oT.data= .fields ts/\ts[3]?=Fa .none
def fY (P:FW) (w:Gx):pw:=λouter H s E e s'=> ∃(C a d:E4) (H':Hp),e= .ref a/\s'.os=s.os/\PX s'.gens/\Un (rG outer) [] H H' s.heap s'.heap/\ia P w H' s'.heap/\
 s.heap.objs.size<=a/\H' a=FB/\afJ C d a s.heap.objs.size H' s'.heap/\E (.ref C) (Fa d) H'
section
variable {P:FW}{w:Gx}{K:E1}{mg:FD->Fd E3}{base:GI}{H0:Hp}{E:XK}{CX:pw}
theorem tZ {H:Hp}{a d:E4}(I:aE (e8 CX P w K mg base N GU scope f cd A outer s0 H0 E) pins σ H s)
  (L:yS (rG (Jz GU scope s0.heap.objs.size f cd::outer)) ch a oe s.heap h') (TF: ∀b∈ch,s0.heap.objs.size<=b) (htr: ∀b∈ch,H b=FB\/ ∃φ,H b=Fa (.ext φ)) (ha:a∈ch)
  (hc:oe.cls= .ref C) (hd:oe.dict=Fa d) (hE:E (.ref C) (Fa d) (Dn H ch)):fY P w outer H0 s0 E (.ref a) { s with heap:=h' } :=by
 obtain⟨u,k⟩:=DF I rfl L TF htr;obtain⟨vs,T,oT,ts,x1,x2,x3,x4,x5,x6,x7⟩:=L.fly;refine#[C,a,d,Dn H ch,Gc,I.os,I.bare,u,k,TF a ha,nF ha,#[_,vs,T,oT,ts,x1,hc,hd,Gc,x2,FA I.sz x3,x4,?_,x5,x6,x7],hE];have z:=I.Ic.fresh x3;by_cases hT:T∈ch
 ·exact nF hT
 ·rw[e6 hT];exact z
theorem aA:dg (fY P w) (e8 (fY P w) P w K mg base N GU scope f cd A outer s0 H0 E) E:=by
 intro pins σ H s e s' I h;obtain⟨C,a,d,H',rfl,os,bare,un,Ic,za,ha,⟨oe,vs,T,oT,ts,x1,x2,x3,x4,x5,x6,x7,x8,x9,x10,x11⟩,hE⟩:=h;have J:=I.V3 (ch:=[]) os un Ic bare (λb z=>nomatch z)
 have sz:=I.sz
 have ck: ∀b∈[a,T],H' b=FB:=λb hb=>by
  rcases Fi.mp hb with z|z
  ·rw[z];exact ha
  ·rw[Fz.mp z];exact x8
 refine CY (base:=base) J.ok.frames J.stack rfl x1 x4 x5 x7 x9 x10 x11 λh' L=>?_;refine tZ J L (λb hb=>?_) (λb hb=> .inl (ck b hb)) Fb x2 x3 (by rw[zM ck];exact hE);rcases Fi.mp hb with z|z
 ·rw[z];exact FA sz za
 ·rw[Fz.mp z];exact FA sz x6
end
theorem fQ {P:FW}{w:Gx}{K:E1}{mg:FD->Fd E3}{base:GI}{x GU:FD}{st:Stmt}{f:E4}{fd:Gb}{N ps:EV FD}{k:Fm}{sp:Sp}(F:oU K x GU st f fd)
  (S:az N ps (af st)) (len: ∀vs H Q E,sp vs H Q E->vs.length=ps.length)
  (Jv: ∀(GF:E3) (A:GG) (outer:EV Env) (s:E8) (H:Hp) (vs:EV V) (Q:VK) (E:XK),bX k (A.deeper (Jz GU (af st) s.heap.objs.size f GF))->sp vs H Q E->
   Bd (e8 (fY P w) P w K mg base N GU (af st) f GF A outer s H E) (be st) { nx:=λ_ H'=>Q .Iw H',rt:=Q } (start N vs) H):bU P w K mg base (fY P w) (k+1) f fd ps sp:=by
 obtain⟨oc,od,kV,doc,pm,an,GF,ct,Wo,rfl,lk,Sf⟩:=F.ex;exact X5 lk Sf S len λA outer s H vs Q E hr Tt=>Jv GF A outer s H vs Q E hr Tt
theorem afK {R C:E4} :Up (.ref R::c7) (.ref C:: .ref R::c7) "Exception":=
 #[by rw[Gn,Gn];rfl,by rw[Gn,Gn];rfl,by rw[Gn,Gn];rfl]
theorem CL {R C:E4} :(FL C:: .ref R::c7).contains (.type "BaseException")=FM:=by rw[Gn,Gn];rfl
theorem px {E:E3->E8->Prop}{Q:Flow->E8->Prop}(hh:A.handled=FB)
  (H:FG M A y (λv s1=> ∃e oe vs R C fI,v= .ref e/\XAt s1.heap R C fI/\s1.heap.get? e=Fa oe/\oe.cls= .ref C/\oe.data= .fields vs/\vs[1]?=Fa .none/\E (.ref e) s1) E s):
  FG M A (raiseStmt env (Fa y) FB) Q E s:=by
 unfold raiseStmt;refine Fn (Ip H (λv s1 h1=>?_) λ_ _ x=>x);obtain⟨e,oe,vs,R,C,fI,rfl,⟨Nn,mN,oI,NR,mR,⟨nm,q,bs,sn,sub,ab,col,dd,k0,k1,k2,k3,k5,hC⟩,_⟩,he,hc,hd,h1,hE⟩:=h1;have hcB:=CL (R:=R) (C:=C);obtain⟨hp,g,d,tk,os⟩:=s1
 repeat (first|(with_reducible refine Gk he ?_;rw[hc])|with_reducible refine Gk hC ?_|(with_reducible refine wpAny_isSubtype_exc hC ?_;rw[hcB])|with_reducible refine wpAny_field he hd h1 ?_|wp_step)
 exact wpAny_raiseNew_none hh hE
def qT (C p:E4):HO:= .ext λh=> ∃T,h.get? p=Fa (dh C T)
def ki (C d p:E4):HO:= .ext λh=> ∃o vs,h.get? p=Fa o/\o.cls= .ref C/\o.dict=Fa d/\o.data= .fields vs/\vs[1]?=Fa .none
def cn (d:E4) (fs:EV (FD×V)):HO:= .ext λh=> ∃mA,h.Ns1 d mA/\(∀f,fU (fs.lookup f) (mA f))/\NQ mA (fs.map (·.1))
def dU (C:E4) (g:EV V->EV (FD×V)->Prop):Sp:=λvs H Q _=> ∃(p:E4) (us:EV V) (fs:EV (FD×V)),vs= .ref p::us/\g us fs/\H p=Fa (qT C p)/\
 ∀d,H d=FB->Q .Iw (aF (aF H d (cn d fs)) p (ki C d p))
def A4 (C:E4) (g:EV V->EV (FD×V)->Prop) (E:XK) (t:TA):TS:=λ_ σ H=>t σ H λvs H1=>vs.length<=9/\ ∃fs,g vs fs/\ ∀d,H1 d=FB->E (.ref C) (Fa d) (aF H1 d (cn d fs))
def qt (X:Cx) (E:XK):Prop:= ∀(pins:EV (E4×IG)) (σ:St) (H:Hp) (s:E8) (C d a:E4),aE X pins σ H s->H a=Fa (ki C d a)->X.Pz.heap.objs.size<=a->E (.ref C) (Fa d) (Dn H [a])->X.xe (.ref a) s
theorem eB {P:FW}{w:Gx}{K:E1}{mg:FD->Fd E3}{base:GI}{H0:Hp}{E:XK} :qt (e8 (fY P w) P w K mg base N GU scope f cd A outer s0 H0 E) E:=by
 intro pins σ H s C d a I h z hE;obtain⟨⟨o,ws,x1,x2,x3,x4,x5⟩,_⟩:=I.Ic _ _ h;refine xM (base:=base) I.ok.frames I.stack rfl x1 x4 x5 λh' L=>?_;refine tZ I L (λb hb=>?_) (λb hb=>?_) Fb x2 x3 hE
 ·rw[Fz.mp hb]
  exact z
 ·rw[Fz.mp hb]
  exact .inr #[_,h]
section
variable {E:XK}{g:EV V->EV (FD×V)->Prop}
theorem mX {H1:Hp}(XR:qt X E) (XC:dz X.K R C fI) (F:bU X.prog X.w X.K X.mg X.base wH k fI fdI ps (dU C g)) (hr:bX (k+1) X.A) (hb:f7 X.K fdI ps [])
  (I1:aE X pins σ H1 s1) (r:aY vs us) (lv:vs.length<=9) (hg:g vs fs) (qE: ∀d,H1 d=FB->E (.ref C) (Fa d) (aF H1 d (cn d fs))):
  FG (model X.prog X.w) X.A (call (.ref C) us) (λv s1=> ∃e oe vs R C fI,v= .ref e/\XAt s1.heap R C fI/\s1.heap.get? e=Fa oe/\oe.cls= .ref C/\oe.data= .fields vs/\vs[1]?=Fa .none/\X.xe (.ref e) s1) X.xe s1:=by
 obtain⟨h1,g1,d1,t1,V7⟩:=s1;obtain⟨Nn,mN,oI,NR,mR,⟨nm,q,bs,sn,sub,ab,col,dd,k0,k1,k2,k3,k5,hC⟩,hn,Xh,Wv,hI,hIc,_⟩:=XC.at_ h1 I1.Nq;have lu:us.length<=9:=by rw[<-r.length];exact lv
 have fr:H1 (h1.objs.size+1)=FB:=I1.Ic.fresh (K8 _)
 have ge:((h1.push (eF us)).push (dh C h1.objs.size)).get? (h1.objs.size+1)=Fa (dh C h1.objs.size):=by heap_get
 have I2:aE X pins σ (aF H1 (h1.objs.size+1) (qT C (h1.objs.size+1))) ⟨(h1.push (eF us)).push (dh C h1.objs.size),g1,d1,t1,V7⟩:=
  I1.laid (t':=t1) (λb u z=>Fl _ (Fl _ z)) (K8 _) #[#[_,ge],#[_,ge],λ_ _ ⟨T,z⟩ y=>#[T,y _ z]]
 have r2:aY (V.ref (h1.objs.size+1)::vs) (FL (h1.objs.size+1)::us):= .cons rfl r
 have Tt:dU C g (V.ref (h1.objs.size+1)::vs) (aF H1 (h1.objs.size+1) (qT C (h1.objs.size+1)))
   (λv H'=>v= .Iw/\ ∃d,(aF H1 (h1.objs.size+1) (qT C (h1.objs.size+1))) d=FB/\H'=aF (aF (aF H1 (h1.objs.size+1) (qT C (h1.objs.size+1))) d (cn d fs)) (h1.objs.size+1) (ki C d (h1.objs.size+1))) E0:=
  #[_,vs,fs,Gc,hg,ae,λd hd=>#[Gc,d,hd,Gc]]
 have hl:(FL (h1.objs.size+1)::us++[]).length=ps.length:=by
  have z:=r2.length;rw[F.len _ _ _ _ Tt] at z;rw[GL];exact z.symm
 have bb:=hb #[(h1.push (eF us)).push (dh C h1.objs.size),g1,d1,t1,V7] (FL (h1.objs.size+1)::us) I2.Nq hl;rw[GL] at bb;refine Qx (BI QP afK hC hn Xh hI hIc (M8 (F.run _ X.stack _ _ #[FL (h1.objs.size+1)::us,[]] (FL (h1.objs.size+1)::us) _ _ E0 (hr.make C us []) (I2.aak.make C us []) bb r2 Tt) λr s' Ur=>?_) (by rw[HP];lia))
 cases r with
 |error e=>exact Ur.elim
 |ok fl=>
  cases fl with
  |next=>exact Ur.elim
  |brk=>exact Ur.elim
  |cont=>exact Ur.elim
  |ret u=>
   obtain⟨v,H',I3,rv,ev,d,hd,eH⟩:=I2.after Ur;subst ev;have np:d≠h1.objs.size+1:=λz=>by rw[z,ae] at hd;cases hd
   rw[ac np] at hd;have at3:H' (h1.objs.size+1)=Fa (ki C d (h1.objs.size+1)):=by rw[eH];exact ae
   obtain⟨⟨o,ws,x1,x2,x3,x4,x5⟩,_⟩:=I3.Ic _ _ at3;refine#[rv,_,o,ws,R,C,fI,Gc,XC.at_ _ I3.Nq,x1,x2,x4,x5,XR pins σ H' _ C d _ I3 at3 (FA I1.sz (K8 _)) ?_];have z:Dn H' [h1.objs.size+1]=aF H1 d (cn d fs):=by
    funext b
    by_cases hb:b=h1.objs.size+1
    ·rw[nF (by rw[hb];exact Fb),hb,ac np.symm,fr]
    ·rw[e6 (by simpa using hb),eH,ac hb]
     by_cases hbd:b=d
     ·rw[hbd,ae,ae]
     ·rw[ac hbd,ac hbd,ac hb]
   rw[z];exact qE d hd
theorem tR (XR:qt X E) (XC:dz X.K R C fI) (F:bU X.prog X.w X.K X.mg X.base wH k fI fdI ps (dU C g)) (hr:bX (k+1) X.A) (hg:Gl X x) (hm:X.mg x=Fa (.ref C)) (hb:f7 X.K fdI ps []) (ha:PA X (e::es) t)
  (RM:(x == [003])=FS:=by decide) (he:Fy (e::es) X.env=[001]::Fy es X.env:=by rfl) (MJ:(IE Lu (Fy es X.env)).any (·.1)=FS:=by rfl):
  PS X (.Raise (Fa (.Call (.Name x np) (e::es) [] Lu)) FB pos) (A4 C g E t):=by
 intro pins s σ H D I h;rw[arm_exec_Raise];refine Fn (NV (px hr.hd (Fn (b9 ?_ λv s1 hv=>Fn (NV (FT hv))))));refine Jy (fZ I hg hm ?_ RM);refine KG (h₀:=X.base) I.ok.mod.Vk XC.kp (b9 (ha Lu pins s σ H _ I h) λus s1 z=>?_) he MJ;obtain⟨vs,H1,I1,r,lv,fs,hgv,qE⟩:=z;exact#[I1.Nq,mX XR XC F hr hb I1 r lv hgv qE]
theorem eW (XR:qt X E) (XC:dz X.K R C fI) (F:bU X.prog X.w X.K X.mg X.base wH k fI fdI ps (dU C g)) (hr:bX (k+1) X.A) (hg:Gl X x) (hm:X.mg x=Fa (.ref C)) (hb:f7 X.K fdI ps [])
  (RM:(x == [003])=FS:=by decide):PS X (.Raise (Fa (.Call (.Name x np) [] [] Lu)) FB pos) (A4 C g E CN):=by
 intro pins s σ H D I h;obtain⟨lv,fs,hgv,qE⟩:=h;rw[arm_exec_Raise];refine Fn (NV (px hr.hd (Fn (b9 ?_ λv s1 hv=>Fn (NV (FT hv))))));refine Jy (fZ I hg hm ?_ RM);exact Oh (I.Nq) XC.kp (mX XR XC F hr hb I .nil lv hgv qE)
end
end OS
namespace OS
open Vbemac
def bR (c:IP):Gg:=letter c||digit c
def eO (c:IP):Gg:=c !=10
def aZ (p:IP->Gg) (bs:F7) (i:Fm):Fm:=i+((bs.drop i).takeWhile p).length
theorem eZ {bs:F7}{i:Fm}{c:IP}(h:bs[i]?=Fa c):bs.drop i=c::bs.drop (i+1):=by
 obtain⟨hi,e⟩:=FZ.mp h;rw[Hd hi,e]
theorem j4 {p:IP->Gg}{bs:F7}{i:Fm}{c:IP}(h:bs[i]?=Fa c) (hp:p c=FM):aZ p bs i=aZ p bs (i+1):=by
 unfold aZ;rw[eZ h,JI,E7 hp,Fj];lia
theorem oO {p:IP->Gg}{bs:F7}{i:Fm}{c:IP}(h:bs[i]?=Fa c) (hp:p c=FS):aZ p bs i=i:=by
 unfold aZ;rw[eZ h,JI,E5 (by rw[hp];exact EZ)]
 rfl
theorem ly {p:IP->Gg}{bs:F7}{i:Fm}(h:bs.length<=i):aZ p bs i=i:=by
 unfold aZ;rw[SJ h]
 rfl
theorem nP {p:IP->Gg}{bs:F7}{i:Fm}(h:i<=bs.length):aZ p bs i<=bs.length:=by
 unfold aZ;have:=(EV.takeWhile_sublist p (l:=bs.drop i)).length_le;rw[LK] at this;lia
def part (bs:F7) (i j:Fm):F7:=(bs.drop i).take (j-i)
theorem vY {p:IP->Gg} : ∀l:F7,l.takeWhile p=l.take (l.takeWhile p).length
 |[]=>rfl
 |a::l=>by
  rw[JI];split
  ·rw[Fj,UD,<-vY l]
  ·rfl
theorem kD (p:IP->Gg) (bs:F7) (i:Fm):(bs.drop i).takeWhile p=part bs i (aZ p bs i):=by
 unfold part aZ;rw[HI];exact vY _
theorem mB (p:IP->Gg) (bs:F7) (i:Fm):(bs.drop i).drop ((bs.drop i).takeWhile p).length=bs.drop (aZ p bs i):=by
 rw[Ot]
 rfl
theorem iy: ∀(w:F7) (p:Pos),(∀c∈w,c≠10)->moved p w=(p.1,p.2+w.length)
 |[],p,_=>rfl
 |c::w,p,h=>by
  show moved (advance p c) w=_
  rw[iy w _ λd hd=>h d (E9 _ hd)];unfold advance;rw[E5 (h c Fb),Fj];show(p.1,p.2+1+w.length)=_;rw[Sb,Ku 1]
theorem rb {p:IP->Gg} : ∀(l:F7),∀c∈l.takeWhile p,p c=FM
 |[],c,h=>nomatch h
 |a::l,c,h=>by
  rw[JI] at h;split at h
  ·rename_i q
   rcases Fi.mp h with e|h
   ·rw[e];exact q
   ·exact rb l c h
  ·exact nomatch h
theorem oE {p:IP->Gg}(hp:p 10=FS) (bs:F7) (i:Fm) (q:Pos):moved q ((bs.drop i).takeWhile p)=(q.1,q.2+(aZ p bs i-i)):=by
 rw[iy _ _ λc hc e=>by
  have:=rb _ c hc;rw[e,hp] at this;cases this]
 unfold aZ;rw[HI]
section
variable {bs:F7}{i k:Fm}{c:IP}{q:Pos}
theorem k9 (h:bs[i]?=Fa c) (hb:blank c=FM):lex (k+1) q (bs.drop i)=lex k (advance q c) (bs.drop (i+1)):=by
 rw[eZ h,lex,E7 hb]
theorem iB (h:bs[i]?=Fa c) (hb:blank c=FS) (Pp:c=35):
  lex (k+1) q (bs.drop i)=lex k (q.1,q.2+(aZ eO bs i-i)) (bs.drop (aZ eO bs i)):=by
 have e:=eZ h
 have m:=oE (p:=eO) rfl bs i q
 have d:=mB eO bs i;rw[e] at m d;rw[e,lex,E5 (by rw[hb];exact EZ),E7 Pp]
 show lex k (moved q ((c::bs.drop (i+1)).takeWhile eO)) ((c::bs.drop (i+1)).drop ((c::bs.drop (i+1)).takeWhile eO).length)=_
 rw[m,d]
theorem jR (h:bs[i]?=Fa c) (hb:blank c=FS) (Pp: ¬c=35) (hl:letter c=FM):
  lex (k+1) q (bs.drop i)=if 24<aZ bR bs i-i then [(.bad,q)] else(.word (part bs i (aZ bR bs i)),q)::lex k (q.1,q.2+(aZ bR bs i-i)) (bs.drop (aZ bR bs i)):=by
 have e:=eZ h
 have m:=oE (p:=bR) [01] bs i q
 have d:=mB bR bs i
 have t:=kD bR bs i
 have n:((bs.drop i).takeWhile bR).length=aZ bR bs i-i:=by unfold aZ;rw[HI]
 rw[e] at m d t n;rw[e,lex,E5 (by rw[hb];exact EZ),E5 Pp,E7 hl];show(if 24<((c::bs.drop (i+1)).takeWhile bR).length then _ else(Tok.word ((c::bs.drop (i+1)).takeWhile bR),q)::lex k (moved q ((c::bs.drop (i+1)).takeWhile bR)) ((c::bs.drop (i+1)).drop ((c::bs.drop (i+1)).takeWhile bR).length))=_
 rw[m,d,n,t]
def pR (bs:F7) (j:Fm):Gg:=(bs[j]?).any letter
theorem xZ (bs:F7) (j:Fm):(bs.drop j).head?=bs[j]?:=EV.head?_drop
theorem ms (h:bs[i]?=Fa c) (hb:blank c=FS) (Pp: ¬c=35) (hl:letter c=FS) (hd:digit c=FM):
  lex (k+1) q (bs.drop i)=if 18<aZ digit bs i-i\/pR bs (aZ digit bs i)=FM then [(.bad,q)] else(.num (valueOf (part bs i (aZ digit bs i))),q)::lex k (q.1,q.2+(aZ digit bs i-i)) (bs.drop (aZ digit bs i)):=by
 have e:=eZ h
 have m:=oE (p:=digit) [01] bs i q
 have d:=mB digit bs i
 have t:=kD digit bs i
 have n:((bs.drop i).takeWhile digit).length=aZ digit bs i-i:=by unfold aZ;rw[HI]
 rw[e] at m d t n;rw[e,lex,E5 (by rw[hb];exact EZ),E5 Pp,E5 (by rw[hl];exact EZ),E7 hd];show(if 18<((c::bs.drop (i+1)).takeWhile digit).length\/((((c::bs.drop (i+1)).drop ((c::bs.drop (i+1)).takeWhile digit).length).head?).any letter)=FM then _
  else(Tok.num (valueOf ((c::bs.drop (i+1)).takeWhile digit)),q)::lex k (moved q ((c::bs.drop (i+1)).takeWhile digit)) ((c::bs.drop (i+1)).drop ((c::bs.drop (i+1)).takeWhile digit).length))=_
 rw[m,d,n,t,xZ]
 rfl
theorem nA {n:Fm}{x:F7} : ∀(L:EV F7),(∀s∈L,s.length=n)->L.find? (λs=>x.take s.length == s)=if x.take n∈L then Fa (x.take n) else FB
 |[],_=>by simp
 |a::L,h=>by
  have ha:=h a Fb
  have ih:=nA (n:=n) (x:=x) L λs hs=>h s (E9 _ hs)
  rw[G6,ha];by_cases e:x.take n=a
  ·rw[show(x.take n == a)=FM from by rw[e];exact GN a,E7 (by rw[e];exact Fb),e]
  ·rw[show(x.take n == a)=FS from beq_eq_false_iff_ne.mpr e]
   show L.find? _=_
   rw[ih];by_cases m:x.take n∈L
   ·rw[E7 m,E7 (E9 _ m)]
   ·rw[E5 m,E5 (λz=>(Fi.mp z).elim e m)]
def zo:EV F7:=SIGNS.take 7
def zX:EV F7:=SIGNS.drop 7
theorem gi:SIGNS=zo++zX:=(Td 7 SIGNS).symm
theorem iz: ∀s∈zo,s.length=2:=by decide
theorem nG: ∀s∈zX,s.length=1:=by decide
theorem ut: ∀s∈SIGNS,∀d∈s,d≠10:=by decide
def bA (bs:F7) (i:Fm):Fm:=if part bs i (i+2)∈SIGNS then i+(part bs i (i+2)).length else i+1
theorem gO (x:F7):x∈SIGNS ↔ x∈zo\/x∈zX:=by rw[gi];exact FK
theorem zi (h:bs[i]?=Fa c):(SIGNS.find? λs=>(bs.drop i).take s.length == s)=if part bs i (bA bs i)∈SIGNS then Fa (part bs i (bA bs i)) else FB:=by
 have e2:(bs.drop i).take 2=part bs i (i+2):=by unfold part;rw[HI]
 have e1:(bs.drop i).take 1=part bs i (i+1):=by unfold part;rw[HI]
 have l1:(part bs i (i+1)).length=1:=by rw[<-e1,eZ h];rfl
 rw[gi,Vw,nA zo iz,nA zX nG,e2,e1];by_cases m2:part bs i (i+2)∈zo
 ·have n2:=iz _ m2
  have s2:part bs i (i+2)∈SIGNS:=(gO _).mpr (.inl m2)
  have se:bA bs i=i+2:=by unfold bA;rw[E7 s2,n2]
  rw[E7 m2,se,<-gi,E7 s2]
  rfl
 ·have se:bA bs i=i+1:=by
   unfold bA;by_cases s2:part bs i (i+2)∈SIGNS
   ·rw[E7 s2,nG _ (((gO _).mp s2).resolve_left m2)]
   ·rw[E5 s2]
  have n1: ¬part bs i (i+1)∈zo:=λz=>by
   have:=iz _ z;lia
  rw[E5 m2,se,<-gi,Fd.none_or];by_cases m1:part bs i (i+1)∈zX
  ·rw[E7 m1,E7 ((gO _).mpr (.inr m1))]
  ·rw[E5 m1,E5 λz=>((gO _).mp z).elim n1 m1]
theorem o9 (h:bs[i]?=Fa c) (m:part bs i (bA bs i)∈SIGNS):(part bs i (bA bs i)).length=bA bs i-i:=by
 have e1:(part bs i (i+1)).length=1:=by unfold part;rw[HI,eZ h];rfl
 unfold bA at m ⊢;split
 ·rename_i s2
  rw[E7 s2] at m;rcases(gO _).mp s2 with z|z
  ·rw[iz _ z,iz _ z];lia
  ·rw[nG _ z,e1];lia
 ·rw[e1];lia
theorem jT (h:bs[i]?=Fa c) (hb:blank c=FS) (Pp: ¬c=35) (hl:letter c=FS) (hd:digit c=FS):
  lex (k+1) q (bs.drop i)=if part bs i (bA bs i)∈SIGNS then(.sign (part bs i (bA bs i)),q)::lex k (q.1,q.2+(bA bs i-i)) (bs.drop (bA bs i)) else [(.bad,q)]:=by
 have f:=zi h
 have e:=eZ h
 have hle:i<=bA bs i:=by unfold bA;split<;>lia
 have dd: ∀n,(bs.drop i).drop n=bs.drop (i+n):=λn=>Ot
 rw[e] at f;rw[e,lex,E5 (by rw[hb];exact EZ),E5 Pp,E5 (by rw[hl];exact EZ),E5 (by rw[hd];exact EZ),f];by_cases m:part bs i (bA bs i)∈SIGNS
 ·rw[E7 m,E7 m]
  show _::lex k (moved q (part bs i (bA bs i))) ((c::bs.drop (i+1)).drop (part bs i (bA bs i)).length)=_
  rw[iy _ _ (ut _ m),o9 h m,<-e,dd,show i+(bA bs i-i)=bA bs i by lia]
 ·rw[E5 m,E5 m]
theorem EM (h:bs.length<=i):lex (k+1) q (bs.drop i)=[(.eof,q)]:=by
 rw[SJ h,lex]
end
end OS
namespace OS
open Vbemac
open PySem (Str)
def gb:Tok->Prop
 | .word w=>w≠[]/\ ∀c∈w,bR c=FM
 | .sign s=>s∈SIGNS
 |_=>True
def Mid (x:Tok×Pos):Prop:=x.1≠ .eof/\x.1≠ .bad/\gb x.1
def jH (x:Tok×Pos):Prop:=x.1= .eof\/x.1= .bad
def fT (t:MI):Prop:= ∃Xi x,t=Xi++[x]/\jH x/\ ∀y∈Xi,Mid y
theorem fT.one (h:jH x):fT [x]:=#[[],x,Gc,h,λ_ z=>nomatch z]
theorem fT.cons (h:Mid x) (w:fT t):fT (x::t):=by
 obtain⟨Xi,y,rfl,f,a⟩:=w;refine#[x::Xi,y,Gc,f,λz hz=>?_];rcases Fi.mp hz with e|hz
 ·rw[e];exact h
 ·exact a z hz
theorem fT.tail (w:fT (x::t)) (h: ¬jH x):Mid x/\fT t:=by
 obtain⟨Xi,y,e,f,a⟩:=w;cases Xi with
 |nil=>
  injection e with e1 e2;exact Fv (e1▸f) h
 |cons z Xi=>
  injection e with e1 e2;exact#[e1▸a z Fb,Xi,y,e2,f,λv hv=>a v (E9 _ hv)]
theorem fT.ne (w:fT t):t≠[]:=by
 obtain⟨Xi,y,rfl,_⟩:=w;simp
theorem fK: ∀(k:Fm) (q:Pos) (b:F7),fT (lex k q b)
 |0,q,b=>by rw[lex];exact .one (.inl rfl)
 |k+1,q,[]=>by rw[lex];exact .one (.inl rfl)
 |k+1,q,c::r=>by
  have z:(c::r)[0]?=Fa c:=rfl
  have d0:(c::r).drop 0=c::r:=rfl;rw[<-d0];by_cases hb:blank c=FM
  ·rw[k9 z hb];exact fK k _ _
  ·have hb:blank c=FS:=by simpa using hb
   by_cases Pp:c=35
   ·rw[iB z hb Pp];exact fK k _ _
   ·by_cases hl:letter c=FM
    ·rw[jR z hb Pp hl]
     split
     ·exact .one (.inr rfl)
     ·refine .cons #[by simp,by simp,?_,?_] (fK k _ _)
      ·rw[<-kD,d0,JI,E7 (by unfold bR;rw[hl];rfl)]
       simp
      ·rw[<-kD];exact rb _
    ·have hl:letter c=FS:=by simpa using hl
     by_cases hd:digit c=FM
     ·rw[ms z hb Pp hl hd]
      split
      ·exact .one (.inr rfl)
      ·exact .cons #[by simp,by simp,G7] (fK k _ _)
     ·have hd:digit c=FS:=by simpa using hd
      rw[jT z hb Pp hl hd];split
      ·rename_i m
       exact .cons #[by simp,by simp,m] (fK k _ _)
      ·exact .one (.inr rfl)
theorem dQ: ∀(k:Fm) (q:Pos) (b:F7),(lex k q b).length<=k+1
 |0,q,b=>by rw[lex];simp
 |k+1,q,[]=>by rw[lex];simp
 |k+1,q,c::r=>by
  have z:(c::r)[0]?=Fa c:=rfl
  have d0:(c::r).drop 0=c::r:=rfl;rw[<-d0];by_cases hb:blank c=FM
  ·rw[k9 z hb];exact FA (dQ k _ _) (by lia)
  ·have hb:blank c=FS:=by simpa using hb
   by_cases Pp:c=35
   ·rw[iB z hb Pp];exact FA (dQ k _ _) (by lia)
   ·by_cases hl:letter c=FM
    ·rw[jR z hb Pp hl]
     split
     ·simp
     ·rw[Fj];exact Hu (dQ k _ _)
    ·have hl:letter c=FS:=by simpa using hl
     by_cases hd:digit c=FM
     ·rw[ms z hb Pp hl hd]
      split
      ·simp
      ·rw[Fj];exact Hu (dQ k _ _)
     ·have hd:digit c=FS:=by simpa using hd
      rw[jT z hb Pp hl hd];split
      ·rw[Fj];exact Hu (dQ k _ _)
      ·simp
theorem ee {a b:F7}(h:sb a=sb b):a=b:=by
 have e:(a.map M7).toArray=(b.map M7).toArray:=Ga FD.cps h
 have e:a.map M7=b.map M7:=by simpa using e
 exact U7 (λx y q=>Qy.mp q) |>.mp e
theorem wB: ∀a∈SIGNS,∀b∈SIGNS,dI a=dI b->a=b:=by decide+kernel
theorem yC: ∀a∈SIGNS,∀c,(dI a).cps[0]?=Fa c-> ∀d:Fm,d<256->d=c->bR (Om d)=FS:=by
 have h: ∀a∈SIGNS,∀d:Fm,d<256->(dI a).cps[0]?=Fa d->bR (Om d)=FS:=by decide+kernel
 intro a ha c hc d hd e;subst e;exact h a ha d hd hc
theorem sG {w s:F7}(h0:w≠[]) (hw: ∀c∈w,bR c=FM) (hs:s∈SIGNS):sb w≠dI s:=λe=>by
 obtain⟨c,r,rfl⟩: ∃c r,w=c::r:=by cases w with|nil=>exact Fv rfl h0|cons c r=>exact#[c,r,Gc]
 have f:=yC s hs c.toNat (by rw[<-e];rfl) c.toNat (WE c) rfl;rw[U8,hw c Fb] at f;cases f
def uD:Tok->Fd FD
 | .word w=>Fa (sb w)
 | .sign s=>Fa (dI s)
 | .num _=>FB
 | .eof=>Fa (sb [])
 | .bad=>Fa (sb [])
def cX (x:FD) (w:F7):Prop:=x=sb w/\w≠[]/\ ∀c∈w,bR c=FM
def d7 (x:FD) (s:F7):Prop:=x=dI s/\s∈SIGNS
theorem By: ∀s∈SIGNS,dI s≠sb []:=by decide+kernel
theorem Cs (ok:gb k) {w:F7}(h:cX x w):uD k=Fa x ↔ k= .word w:=by
 obtain⟨rfl,h0,h1⟩:=h;constructor
 ·intro e
  cases k with
  |word v=>exact Ga Tok.word (ee (Fs e))
  |sign s=>exact Fv (Fs e).symm (sG h0 h1 ok)
  |num n=>cases e
  |eof=>exact Fv (ee (Fs e)).symm h0
  |bad=>exact Fv (ee (Fs e)).symm h0
 ·intro e;subst e;rfl
theorem t8 (ok:gb k) (h:d7 x s):uD k=Fa x ↔ k= .sign s:=by
 obtain⟨rfl,hs⟩:=h;constructor
 ·intro e
  cases k with
  |word v=>exact Fv (Fs e) (sG ok.1 ok.2 hs)
  |sign r=>exact Ga Tok.sign (wB r ok s hs (Fs e))
  |num n=>cases e
  |eof=>exact Fv (Fs e).symm (By s hs)
  |bad=>exact Fv (Fs e).symm (By s hs)
 ·intro e;subst e;rfl
end OS
namespace OS
abbrev ip (p q:PySem.Pos):Prop:=(p.endLine == q.line)=FM
open PySem PySem.Spec L2
open PyProof.Rows hiding St
theorem aR {X:Cx}{i:Int}{pos:Pos}(hg:Gl X x) (hm: ∃t,X.mg x=Fa (.int i t)) (hd:(x == [003])=FS:=by decide):PE X (.Name x pos) (tC (.int i)):=by
 obtain⟨t,hm⟩:=hm;exact qL hg hm #[t,Gc] hd
theorem afL {X:Cx}{i:FD}{pos:Pos}(hg:Gl X x) (hm: ∃t,X.mg x=Fa (.str i t)) (hd:(x == [003])=FS:=by decide):PE X (.Name x pos) (tC (.str i)):=by
 obtain⟨t,hm⟩:=hm;exact qL hg hm #[t,Gc] hd
theorem o5.sq {K:E1}{a:E4}{H:Hp}(h:o5 K a xs):qG K H a xs:= .inr h
theorem w6 (r:Paired (λ(p:EV a8×V) (q:EV a8×E4×E3)=>p.1=q.1/\bo p.2 q.2.2) aD xs) (k:EV a8):fU (bO aD k) ((QW xs k).map (·.2)):=by
 induction r with
 |nil=>exact G7
 | @cons p q ps qs hq t ih=>
  unfold bO QW at*;rw[G6,G6];by_cases e:q.1=k
  ·rw[show decide (p.1=k)=FM from Gy (hq.1.trans e),show decide (q.1=k)=FM from Gy e]
   exact hq.2
  ·rw[show decide (p.1=k)=FS from FU (λz=>e (hq.1.symm.trans z)),show decide (q.1=k)=FS from FU e]
   exact ih
section
variable {td ty:TE}
def afM (P:FW) (w:Gx) (K:E1) (ty td:TE):TE:=λσ H Q=>ty σ H λy H1=>td σ H1 λx H2=> ∃a b k aD,x= .ref a/\zH P w K a aD/\y= .ref b/\H2 b=Fa (.tup (k.map kV))/\Q (.bl (bO aD k).isSome) H2
def aaB (P:FW) (w:Gx) (K:E1) (td ty:TE):TE:=λσ H Q=>td σ H λx H1=>ty σ H1 λy H2=> ∃a b k aD v,x= .ref a/\zH P w K a aD/\y= .ref b/\H2 b=Fa (.tup (k.map kV))/\bO aD k=Fa v/\Q v H2
theorem wT (hu:X.A.units+1<Px) (hi:PE X i ty) (ho:PE X o td):PC X .In i o (afM X.prog X.w X.K ty td):=by
 rw[01];refine bin hi ho I h λv u s2 x y H2 I2 rx ry q=>?_;obtain⟨a,b,k,aD,ey,kd,ex,eb,q⟩:=q;subst ex;subst ey;cases rx;cases ry;obtain⟨xs,dd,rel⟩:=kd.at_;refine wpAny_in_heap (J8 hu) (jv I2.Ic eb) kd.no (dd _ I2.Nq) ?_;have z:=(w6 rel k).Mj;rw[HR] at z;rw[<-z];exact#[.bl _,H2,I2.tok _,Gc,q]
theorem BC (hu:X.A.units+1<Px) (ho:PE X o td) (hi:PE X i ty) (hs:Ee i):PE X (.Subscript o i pos) (aaB X.prog X.w X.K td ty):=by
 rw[01];refine wu QO.lookup hs (b9 (ho pins s σ H _ I h) λu s1 ⟨x,H1,I1,rx,q1⟩=>b9 (hi pins s1 σ H1 _ I1 q1) λiv s2 ⟨y,H2,I2,ry,a,b,k,aD,v',ex,kd,ey,eb,l,q⟩=>?_);subst ex;subst ey;obtain rfl:u=FL a:=rx;obtain rfl:iv=FL b:=ry;obtain⟨xs,dd,rel⟩:=kd.at_;have z:=w6 rel k;rw[l] at z;obtain⟨w',hw,TJ⟩:=fU.some_of z;obtain⟨p,hp,hp2⟩:=F4.mp hw;have D:=dd _ I2.Nq;refine#[D.typeIs,YO (J8 hu) (jv I2.Ic eb) D hp ?_];rw[hp2];exact#[v',H2,I2.tok _,TJ,q]
end
section
variable {X:Cx}{st:Stmt}{t:TS}
def afN (t:TS):TS:=λD σ H=> ∃J:L2.St->Hp->Prop,t { D with nx:=J } σ H/\ ∀σ' H',J σ' H'->D.nx σ' H'
theorem EI (h:PS X st t):PS X st (afN t):=by
 intro pins s σ H D I h0;obtain⟨J,h1,h2⟩:=h0;refine b9 (h pins s σ H { D with nx:=J } I h1) λf s1 q=>?_;cases f with
 |next=>
  obtain⟨σ',H',I',q⟩:=q;exact#[σ',H',I',h2 _ _ q]
 |brk=>exact q
 |cont=>exact q
 |ret u=>exact q
end
theorem lD:gG X (.builtin "isinstance") (λxs H Q=> ∃(x:V) (C:E4) (t:E3) (b:Gg),xs=[x, .ref C]/\jL X.K H x t/\Hy X.K t (.ref C)=Fa b/\Q (.bl b) H):=by
 intro pins s σ H xs us Q I r h;obtain⟨x,C,t,b,rfl,ty,e,q⟩:=h;obtain⟨u1,u2,rfl,r1,r2⟩:=vals2 r;cases r2;exact zt I r1 ty e λtk=>#[.bl b,H,I.tok _,Gc,q]
theorem yo.of {K:E1}{H:Hp}(t:yo K C) (e:H p=Fa (.ins C dx fs)):jL K H (.ref p) (.ref C):= .ins e t.cl t.ha t.hn t.htk t.hm
theorem bj {α β:Type}{F:α->β->Prop} : ∀ {l:EV α}{m:EV β},Paired F l m->l.length=m.length
 |_,_, .nil=>rfl
 |_,_, .cons r t=>Ga (· +1) (bj t)
def aaC (N P:EV FD) (sc:Scope):Prop:=sc.kind= .function/\sc.isCoroutine=FS/\sc.isGenerator=FS/\N.Nodup/\N.take P.length=P/\(∀x∈P,sc.names.lookup x=Fa .local\/sc.names.lookup x=Fa .cell)/\ ∀y∈sc.names,y.2≠ .free
instance (N P:EV FD) (sc:Scope):Decidable (aaC N P sc):=by unfold aaC;infer_instance
theorem aw {N P:EV FD}(h:aaC N P sc):az N P sc:=#[h.1,h.2.1,h.2.2.1,h.2.2.2.1,h.2.2.2.2.1,h.2.2.2.2.2.1,h.2.2.2.2.2.2]
end OS
namespace OS
open PySem PySem.Spec L2
open PyProof.Rows hiding St
def _root_.L2.d8.to (D:d8) (X:Cx) (ss:EV Stmt):d8:= { D with nx:=λσ H=>Bd X ss D σ H }
theorem d9 {x m:FD}{p1 p2 p4:Pos}(hp:ip p2 p4) (hf:methodCallForm (args.length+0) (IE p4 (Fy args env)) (KH p4 (Jd [] env))=FM):
  eval (.Call (.Attribute (.Name x p1) m p2) args [] p4) env=(do
   let ov<-eval (.Name x p1) env
   standAt p2.atName
   let (f,first)<-holding [ov] (KU ov m (do return (<-Pw (.Name x p1) env).getD FM))
   NC p4 f first (IE p4 (Fy args env)) (KH p4 (Jd [] env))):=by
 show(do
   let ov<-eval (.Name x p1) env
   standAt p2.atName
   methodCall (.Name x p1) m p2 p4 env ov (args.length+0) (IE p4 (Fy args env)) (KH p4 (Jd [] env)))=_
 unfold methodCall calleeOf methodCallPos;rw[hf,hp]
 rfl
section
variable {H:Hp}{t:TS}
theorem iH:uk X ss (λD σ H=>Bd X ss D σ H):=λpins s σ H D I h=>by
 obtain⟨t,h,q⟩:=h;exact h pins s σ H D I q
theorem aQ (h:PS X s t) (q:t (D.to X ss) σ H):Bd X (s::ss) D σ H:=#[_,ax h iH,q]
theorem eu (h:PS X s t) (q:t D σ H):Bd X [s] D σ H:=#[_,ai h,q]
theorem cf (q:D.nx σ H):Bd X [] D σ H:=#[_,br,q]
end
inductive Pe (X:Cx) (e:Hv) (σ:L2.St) (H:Hp) (Q:VK):Prop
 |mk (t:TE) (_:PE X e t) (_:t σ H Q):Pe X e σ H Q
inductive Pt (X:Cx) (e:Hv) (σ:L2.St) (H:Hp) (Q:Gg->Hp->Prop):Prop
 |mk (t:TT) (_:PT X e t) (_:t σ H Q):Pt X e σ H Q
inductive Pa (X:Cx) (e:EV Hv) (σ:L2.St) (H:Hp) (Q:EV V->Hp->Prop):Prop
 |mk (t:TA) (_:PA X e t) (_:t σ H Q):Pa X e σ H Q
section
variable {H:Hp}{t:TS}{Q:VK}{R:Gg->Hp->Prop}
theorem dq:PE X e (λσ H Q=>Pe X e σ H Q):=λpins s σ H Q I h=>by
 obtain⟨t,h,q⟩:=h;exact h pins s σ H Q I q
theorem jr:PT X e (λσ H Q=>Pt X e σ H Q):=λpins s σ H Q I h=>by
 obtain⟨t,h,q⟩:=h;exact h pins s σ H Q I q
theorem sY:PA X es (λσ H Q=>Pa X es σ H Q):=λpos pins s σ H Q I h=>by
 obtain⟨t,h,q⟩:=h;exact h pos pins s σ H Q I q
structure Sl (X:Cx) (i:Fm) (y:FD):Prop where
 hi:X.N[i]?=Fa y
 hx:Loc X.env.scope y
 hf:X.fn y=FM
theorem aN (i:Fm) (nd:X.N.Nodup) (q:Pe X e σ H λv H'=>Bd X ss D (σ.set i (Fa v)) H') (h:Sl X i y:=by exact#[Gc,GO rfl,Gc]) (hs:Lx e (Fa (.Name y p0)) p5.line X.env=pure FS:=by rfl):Bd X (.Assign [.Name y p0] e p5::ss) D σ H:=
 aQ (cB nd h.hi h.hx dq hs (.inl h.hf)) q
theorem bE (q:Pe X e σ H λ_ H'=>Bd X ss D σ H') (hs:Lx e FB p5.line X.env=pure FS:=by rfl):Bd X (.Expr e p5::ss) D σ H:=aQ (bh dq hs) q
theorem aL (q:Pe X e σ H D.rt):Bd X (.Return (Fa e) p5::ss) D σ H:=aQ (aI dq) q
theorem bH (q:Pt X e σ H λb H'=>if b=FM then Bd X A (D.to X ss) σ H' else Bd X ss D σ H'):Bd X (.If e A [] p5::ss) D σ H:=aQ (cx jr iH br) q
theorem gc (N:L2.St->Hp->Prop) (rest: ∀σ H,N σ H->Bd X ss D σ H) (q:Pt X e σ H λb H'=>if b=FM then Bd X A { D with nx:=N } σ H' else N σ H'):Bd X (.If e A [] p5::ss) D σ H:=aQ (EI (cx jr iH br)) #[N,q,rest]
theorem vh (q:Bd X ss D σ H):Bd X [] (D.to X ss) σ H:=cf q
theorem dv (q:Pe X e σ H (vG R)) (he: ∀whole,isTrue e X.env whole=(do let v<-whole;standAt e.pos;holding [v] (truthy v)):=by intro _;rfl):Pt X e σ H R:=#[_,cZ dq he,q]
theorem jk (q:Pt X e σ H λb H'=>R (!b) H'):Pt X (.UnaryOp .Not e p1) σ H R:=#[_,lf jr,q]
theorem Ai {f:Hv}(q:Pt X e σ H λb H'=>if b=FM then Pt X f σ H' R else R FS H'):Pt X (.BoolOp .And [e,f] p1) σ H R:=#[_,(rg jr (mq jr)).pt,q]
theorem afO {f:Hv}(q:Pt X e σ H λb H'=>if b=FM then R FM H' else Pt X f σ H' R):Pt X (.BoolOp .Or [e,f] p1) σ H R:=#[_,(wP jr (qJ jr)).pt,q]
theorem X9 {x:FD}(q:Q (.str x) H):Pe X (.Constant (.str x) j p1) σ H Q:=#[_,dJ,q]
theorem cN {x:Int}(q:Q (.int x) H):Pe X (.Constant (.int x) j p1) σ H Q:=#[_,ak,q]
theorem mY (q:Q .Iw H):Pe X (.Constant .none j p1) σ H Q:=#[_,aac,q]
theorem cH {Q:EV V->Hp->Prop}(q:Q [] H):Pa X [] σ H Q:=#[_,ag,q]
theorem aO {Q:EV V->Hp->Prop}(q:Pe X e σ H λv H1=>Pa X es σ H1 λvs H2=>Q (v::vs) H2) (hs:Fy (e::es) X.env=[001]::Fy es X.env:=by rfl):Pa X (e::es) σ H Q:=#[_,aa dq sY hs,q]
theorem bC (i:Fm) {x:FD}(q:kQ i σ H Q) (hN:X.N[i]?=Fa x:=by rfl) (hv:oS X.env.scope x:=by exact GO rfl) (hd:(x == [003])=FS:=by decide) (Sf:(x == ("__classdict__":FD))=FS:=by decide):Pe X (.Name x p1) σ H Q:=#[_,dR hN hv hd Sf,q]
end
theorem Pt.mono {X:Cx}{e:Hv}{σ:L2.St}{H:Hp}{Q Q':Gg->Hp->Prop}(h:Pt X e σ H Q) (im: ∀b H,Q b H->Q' b H):Pt X e σ H Q':=by
 obtain⟨t,ht,q⟩:=h;refine#[λσ H Q'=> ∃Q:Gg->Hp->Prop,(∀b H,Q b H->Q' b H)/\t σ H Q,λpins s σ H Q' I h=>?_,Q,im,q];obtain⟨Q,im,q⟩:=h;exact b9 (ht pins s σ H Q I q) λc s' ⟨H',I',q⟩=>#[H',I',im _ _ q]
theorem Pe.mono {X:Cx}{e:Hv}{σ:L2.St}{H:Hp}{Q Q':VK}(h:Pe X e σ H Q) (im: ∀b H,Q b H->Q' b H):Pe X e σ H Q':=by
 obtain⟨t,ht,q⟩:=h;refine#[λσ H Q'=> ∃Q:VK,(∀b H,Q b H->Q' b H)/\t σ H Q,λpins s σ H Q' I h=>?_,Q,im,q];obtain⟨Q,im,q⟩:=h;exact b9 (ht pins s σ H Q I q) λc s' ⟨v,H',I',r,q⟩=>#[v,H',I',r,im _ _ q]
inductive aaD (I:Fm->L2.St->Hp->Prop) (m:Fm) (σ:L2.St) (H:Hp):Prop
 |mk (k:Fm) (_:k<m) (_:I k σ H):aaD I m σ H
def _root_.L2.d8.lp (D:d8) (X:Cx) (ss:EV Stmt) (N:L2.St->Hp->Prop):d8:= { D.to X ss with nx:=N,ct:=N,bk:=(D.to X ss).nx }
inductive isApp (L:E4) (R:Hp->Prop) (v:V) (H:Hp):Prop
 |mk (xs:EV V) (_:H L=Fa (.lst xs)) (_:xs.length<FP) (_:R (aF H L (.lst (xs++[v])))):isApp L R v H
section
variable {X:Cx}{ss A:EV Stmt}{D:d8}{σ:L2.St}{H:Hp}{e f c:Hv}{es:EV Hv}{Q:VK}{R:Gg->Hp->Prop}{N:L2.St->Hp->Prop}{x y:FD}{p0 p1 p2 p3 p4 p5:Pos}{i:Fm}{L:E4}{xs:EV V}{te:TE}
theorem fW (hp:PR (model X.prog X.w) X.A X.env X.xe) (I:Fm->L2.St->Hp->Prop) (m:Fm) (h0:I m σ H) (hs: ∀m σ H,I m σ H->Pt X c σ H λb H1=>if b=FM then Bd X A (D.lp X ss (aaD I m)) σ H1 else Bd X ss D σ H1):Bd X (.While c A [] p5::ss) D σ H:=by
 refine aQ (iD hp jr iH) #[I,#[m,h0],λm σ H h=>(hs m σ H h).mono λb H1 z=>?_];cases b with
 |true=>exact#[aaD I m,λσ' H' ⟨k,h1,h2⟩=>#[k,h1,h2],z]
 |false=>exact z
theorem ga (q:N σ H):Bd X [] (D.lp X ss N) σ H:=cf q
theorem Ao (q:D.bk σ H):Bd X (.Break p5::A) D σ H:=aQ CK q
theorem jW (i:Fm) (hp:PR (model X.prog X.w) X.A X.env X.xe) (nd:X.N.Nodup) (he:PE X e te) (hv: ∀R:VK,R (.ref L) H->te σ H R) (I:Fm->L2.St->Hp->Prop) (h0:I 0 σ H) (hL: ∀j σ H,j<=xs.length->I j σ H->H L=Fa (.lst xs))
  (hs: ∀j x σ H,xs[j]?=Fa x->I j σ H->Bd X A (D.lp X ss (I (j+1))) (σ.set i (Fa x)) H) (hd: ∀σ H,I xs.length σ H->Bd X ss D σ H) (hc:X.calm=FM:=by rfl) (h:Sl X i y:=by exact#[Gc,GO rfl,Gc]) (hf: ∀x,LO e X.env x=pure x:=by intro _;rfl):Bd X (.For (.Name y p0) e A [] p5::ss) D σ H:=
 aQ (qx hp hc (iU he) (gZ nd h.hi h.hx (.inl h.hf)) iH hf) (hv _ #[L,Gc,#[_,cC.of (hL 0 σ H (FI _) h0)],oJ I h0 (λj σ H hj h=>cC.of (hL j σ H hj h)) hs hd])
theorem uC (q:Pa X es σ H (Bz Q)):Pe X (.List es p1) σ H Q:=#[_,fM sY,q]
theorem mr (q: ∀L,H L=FB->Q (.ref L) (aF H L (.lst []))):Pe X (.List [] p1) σ H Q:=uC (cH #[FI _,q])
theorem iA (hl:X.mg "len"=FB) (hL:H L=Fa (.lst xs)) (he:PE X e te) (hv: ∀Q:VK,Q (.ref L) H->te σ H Q) (q:Q (.int xs.length) H) (hg:Gl X "len":=by rfl) (Kd:Fy [e] X.env=[[001]]:=by rfl):Pe X (.Call (.Name "len" p1) [e] [] p2) σ H Q:=
 #[_,bv bB hg hl Hr (aa he ag Kd) [01] [01] Kd rfl,hv _ #[L,xs,Gc, .inl (cC.of hL),q]]
theorem cR {r:R2}(ho:kJ X (Ij op) r) (q:Pe X e σ H λx H1=>Pe X f σ H1 λy H2=>r x y H2 (vG R)) (hm:behindInMarks op f=FS:=by exact aM _):Pt X (.Compare e [op] [f] p1) σ H R:=#[_,a9 ho dq dq hm,q]
theorem CJ {r:R2}(ho:kJ X (Oj op) r) (q:Pe X e σ H λx H1=>Pe X f σ H1 λy H2=>r x y H2 Q):Pe X (.BinOp e op f p1) σ H Q:=#[_,bW ho dq dq,q]
theorem iJ (he:PE X e te) (hv: ∀R:VK,R (.ref L) H->te σ H R) (hL:H L=Fa (.lst xs)) (q:Pe X f σ H (isApp L λH'=>Bd X ss D σ H')) (hb:Im e "append" X.env (eval e X.env)=eval e X.env:=by rfl) (Kd:Fy [f] X.env=[(FS,eval f X.env)]:=by rfl) (hp:ip p2 p4:=by rfl):
  Bd X (.Expr (.Call (.Attribute e "append" p2) [f] [] p4) p5::ss) D σ H:=by
 refine bE #[_,r8 Ie Kr Ks jb he (aa dq ag Kd) hb (by rw[Kd];rfl) hp Kd rfl,hv _ #[.inl #[Gc,_,cC.of hL],q.mono λv H1 z=>?_]];obtain⟨xs',h1,h2,h3⟩:=z;exact#[L,xs',v,Gc,Gc,h1,h2,h3]
end
theorem okL {P:FW}{w:Gx}{K:E1}{mg:FD->Fd E3}{base:GI}{x GU:FD}{st:Stmt}{f:E4}{fd:Gb}{N ps:EV FD}{k:Fm}{sp:Sp}(F:oU K x GU st f fd)
  (S:az N ps (af st)) (len: ∀vs H Q E,sp vs H Q E->vs.length=ps.length)
  (Jv: ∀(GF:E3) (A:GG) (outer:EV Env) (s:E8) (H:Hp) (vs:EV V) (Q:VK) (E:XK),bX k (A.deeper (Jz GU (af st) s.heap.objs.size f GF))->sp vs H Q E->
   let X:=e8 (fY P w) P w K mg base N GU (af st) f GF A outer s H E
   let D:d8:= { nx:=λ_ H'=>Q .Iw H',rt:=Q }
   Bd X (be st) D (start N vs) H):bU P w K mg base (fY P w) (k+1) f fd ps sp:=fQ F S len Jv
section
variable {H:Hp}{Q:VK}{R:Gg->Hp->Prop}{sp:Sp}{CX:pw}{E:XK}
theorem cw (q:Pt X e σ H λb H'=>if b=FM then Bd X A D σ H' else Bd X B D σ H'):Bd X [.If e A B p5] D σ H:=eu (cx jr iH iH) q
theorem aaE {Z:Prop}(TQ:Z->Bd X B D σ H) (q:(Z->Bd X B D σ H)->Pt X e σ H λb H'=>if b=FM then Bd X A D σ H' else Bd X B D σ H'):Bd X [.If e A B p5] D σ H:=cw (q TQ)
theorem fk (q:Pe X e σ H λ_ H'=>D.nx σ H') (hs:Lx e FB p5.line X.env=pure FS):Bd X [.Expr e p5] D σ H:=eu (bh dq hs) q
theorem ci (q:Pe X e σ H (dB X.K y Q)) (hb:Im e y X.env (eval e X.env)=eval e X.env):Pe X (.Attribute e y p1) σ H Q:=#[_,ah dq hb,q]
theorem li (q:Pe X e σ H λv H1=>Pe X f σ H1 λu H2=>Cl X.K v u H2 Q) (hs:ra f):Pe X (.Subscript e f p1) σ H Q:=#[_,cM bD dq dq hs,q]
theorem bL (q:Pa X (e::es) σ H λvs H1=>sp (vs++[]) H1 Q E) (G:bU X.prog X.w X.K X.mg X.base CX k fa fd ps sp) (hr:bX k X.A) (d:CD X.K X.mg x fa fd ps) (up:dg CX X E) (hg:Gl X x:=by rfl) (hx:(x == [003])=FS:=by decide) (he:Fy (e::es) X.env=[001]::Fy es X.env:=by rfl) (MJ:(IE p4 (Fy es X.env)).any (·.1)=FS:=by rfl):
  Pe X (.Call (.Name x p1) (e::es) [] p4) σ H Q:=#[_,aJ G hr hg d up sY hx he MJ,q]
theorem jm (q:Pe X e σ H λv H1=>Pe X f σ H1 λu H2=> ∃i j,v= .int i/\u= .int j/\R (decide (i=j)) H2):Pt X (.Compare e [.Eq] [f] p1) σ H R:=cR b8 (q.mono λv H1 q=>q.mono λu H2 ⟨i,j,h1,h2,q'⟩=>by
 subst h1 h2;exact#[Gc,_,Gc,by rw[show decide (V.int i=V.int j)=decide (i=j) from decide_eq_decide.mpr #[λy=>V.int.inj y,λy=>by rw[y]]];exact q']) (aM _)
end
theorem dC {c:Prop} [Decidable c] {A B:Prop}(h1:c->A) (h2: ¬c->B):if decide c=FM then A else B:=by
 by_cases h:c
 ·rw[E7 (Gy h)];exact h1 h
 ·rw[E5 (by rw[FU h];exact EZ)];exact h2 h
abbrev lh:=E4×HO
structure Ow (B:Hp) (L:EV lh) (H:Hp):Prop where
 same:aW B H
 at_: ∀x∈L,H x.1=Fa x.2/\B x.1=FB
 nd:(L.map λx:lh=>x.1).Nodup
section
variable {B H H':Hp}
theorem Ow.get (O:Ow B L H) (i:Fm) {x:lh}(h:L[i]?=Fa x):H x.1=Fa x.2:=(O.at_ x (GP h)).1
theorem Ow.grow (O:Ow B L H) (k:aW H H'):Ow B L H':=#[λb o e=>k b o (O.same b o e),λx h=>#[k _ _ (O.at_ x h).1,(O.at_ x h).2],O.nd]
theorem Ow.sub (O:Ow B L H) (h:L'.Sublist L):Ow B L' H:=#[O.same,λx z=>O.at_ x (h.subset z),O.nd.sublist (h.map _)]
theorem Ow.perm (O:Ow B L H) (h:L.Perm L'):Ow B L' H:=#[O.same,λx z=>O.at_ x (h.mem_iff.mpr z),(h.map _).nodup_iff.mp O.nd]
theorem Ow.set (O:Ow B (L1++(p,o)::L2) H) (e:H' p=Fa o') (k: ∀b u,H b=Fa u->b≠p->H' b=Fa u):Ow B (L1++(p,o')::L2) H':=by
 have nd:=O.nd;rw[GS,FC] at nd
 have z:=Ld.mp nd
 have bp:=(O.at_ (p,o) (G8 _ Fb)).2;refine#[λb u h=>k b u (O.same b u h) λz=>(by rw[z,bp] at h;cases h),λx h=>?_,by rw[GS,FC];exact nd]
 rcases FK.mp h with h|h
 ·have h1:=O.at_ x (LX _ h)
  exact#[k _ _ h1.1 λy=>z.2.2 x.1 (KA h) p Fb y,h1.2]
 ·rcases Fi.mp h with h|h
  ·rw[h];exact#[e,bp]
  ·have h1:=O.at_ x (G8 _ (E9 _ h))
   exact#[k _ _ h1.1 λy=>(F6.mp z.2.1).1 (by have h3:=KA (f:=λx:lh=>x.1) h;rw[y] at h3;exact h3),h1.2]
theorem mL: ∀b u,H b=Fa u->b≠p->aF H p o b=Fa u:=λb u e n=>by rw[ac n];exact e
theorem Ow.put (O:Ow B (L1++(p,o)::L2) H):Ow B (L1++(p,o')::L2) (aF H p o'):=O.set ae mL
theorem Ow.adds (O:Ow B L H) (k:aW H H') (h: ∀x∈N,H x.1=FB/\H' x.1=Fa x.2) (nd:(N.map λx:lh=>x.1).Nodup):Ow B (N++L) H':=by
 have hB: ∀ {b:E4},H b=FB->B b=FB:=λ{b} e=>by
  cases z:B b with
  |none=>rfl
  |some o=>rw[O.same b o z] at e;cases e
 refine#[λb o e=>k b o (O.same b o e),λx z=>?_,?_]
 ·rcases FK.mp z with z|z
  ·exact#[(h x z).2,hB (h x z).1]
  ·exact#[k _ _ (O.at_ x z).1,(O.at_ x z).2]
 ·rw[GS]
  refine Ld.mpr #[nd,O.nd,λa ha b hb z=>?_];obtain⟨x,hx,rfl⟩:=Lg.mp ha;obtain⟨y,hy,rfl⟩:=Lg.mp hb;have:=(O.at_ y hy).1;rw[<-z,(h x hx).1] at this;cases this
end
abbrev cG.O {K:E1}{mg:FD->Fd E3}{n:FD}{st:Stmt}{ps:EV FD}{f:E4}{fd:Gb}(_:cG K mg n st ps f fd) (P:FW) (w:Gx) (base:GI) (k:Fm) (sp:Sp):Prop:=bU P w K mg base (fY P w) k f fd ps sp
abbrev cG.U {K:E1}{mg:FD->Fd E3}{n:FD}{st:Stmt}{ps:EV FD}{f:E4}{fd:Gb}(_:cG K mg n st ps f fd) (P:FW) (w:Gx) (base:GI) (k:Fm) (sp:Sp):Prop:=bU P w K mg base wH k f fd ps sp
abbrev eJ.O {K:E1}{C:E4}{n q:FD}{st:Stmt}{ps:EV FD}{f:E4}{fd:Gb}(_:eJ K C n q st ps f fd) (P:FW) (w:Gx) (mg:FD->Fd E3) (base:GI) (k:Fm) (sp:Sp):Prop:=bU P w K mg base (fY P w) k f fd ps sp
abbrev eJ.U {K:E1}{C:E4}{n q:FD}{st:Stmt}{ps:EV FD}{f:E4}{fd:Gb}(_:eJ K C n q st ps f fd) (P:FW) (w:Gx) (mg:FD->Fd E3) (base:GI) (k:Fm) (sp:Sp):Prop:=bU P w K mg base wH k f fd ps sp
abbrev cA (s:Stmt) (l:EV FD):Prop:=az l l (af s)
theorem afP:cA abD ["self","worth"]:=aw [00]
theorem afQ:cA abE ["self","name"]:=aw [00]
theorem afR:cA abF ["self","name","arguments"]:=aw [00]
theorem afS:cA abG ["self","sign","operand"]:=aw [00]
theorem afT:cA abH ["self","strength","operands","signs"]:=aw [00]
theorem afU:cA abI ["self","condition","chosen","otherwise"]:=aw [00]
theorem afV:cA abJ ["self","name","first","last","body"]:=aw [00]
theorem afW:cA abK ["self","name","exp"]:=aw [00]
theorem afX:cA abL ["self","name","first","last","statements"]:=aw [00]
theorem afY:cA abM ["self","condition","statements","else_statements"]:=aw [00]
theorem afZ:cA abN ["self","side","zone","quarter","price","to_price","amount"]:=aw [00]
theorem af0:cA abO ["self","name","exp"]:=aw [00]
theorem af1:cA abP ["self","name","side","zone","price","amounts","under","group"]:=aw [00]
theorem af2:cA abQ ["self","name","exp"]:=aw [00]
theorem af3:cA abR ["self","name","parameters","exp"]:=aw [00]
theorem af4:cA abS ["self","name","statements"]:=aw [00]
theorem af5:cA abT ["self","desk","zone","quarter","side","low","high","amount"]:=aw [00]
theorem af6:cA abU ["self","desk","zone","side","price","group","parent","amounts"]:=aw [00]
theorem akQ:cA s_M ["word"]:=aw [00]
theorem akR:cA s_N ["order"]:=aw [00]
theorem akS:cA s_o ["self","number"]:=aw [00]
theorem af7:cA abV ["self"]:=aw [00]
theorem akT:cA s_4 ["self","kind","line","column"]:=aw [00]
theorem akU:cA s_O ["self"]:=aw [00]
theorem akV:cA s_P ["self"]:=aw [00]
theorem af8:cA abW ["self"]:=aw [00]
theorem af9:cA abX ["self"]:=aw [00]
theorem aga:cA abY ["self"]:=aw [00]
theorem agb:cA abZ ["self"]:=aw [00]
theorem akW:cA s_Q ["sign","right"]:=aw [00]
theorem akX:cA s_R ["sign","left","right"]:=aw [00]
theorem akY:cA s_S ["sign","left","right"]:=aw [00]
theorem agc:cA ab0 ["sign","number"]:=aw [00]
theorem agd:cA ab1 ["name","numbers"]:=aw [00]
theorem age:cA ab2 ["strength","number"]:=aw [00]
theorem akZ:cA s_T ["strength"]:=aw [00]
theorem agf:cA ab3 ["self","exp"]:=aw [00]
theorem agg:cA ab4 ["self"]:=aw [00]
theorem agh:cA ab5 ["self"]:=aw [00]
theorem agi:cA ab6 ["self","name","value"]:=aw [00]
theorem agj:cA ab7 ["self","name"]:=aw [00]
theorem agk:cA ab8 ["self","exp"]:=aw [00]
theorem agl:cA ab9 ["self","value"]:=aw [00]
theorem agm:cA aca ["self","exp"]:=aw [00]
theorem ak0:cA s_5 ["worker","exp","parts"]:=aw [00]
theorem ak1:az ["worker","call","parts","wanted","function"] ["worker","call","parts"] (af s_6):=aw [00]
theorem ak2:cA s_7 ["worker","unary","parts"]:=aw [00]
theorem ak3:cA s_8 ["worker","chain","parts"]:=aw [00]
theorem ak4:cA s_9 ["worker","chain","parts"]:=aw [00]
theorem agn:az ["worker","chain","parts","right"] ["worker","chain","parts"] (af acb):=aw [00]
theorem ago:cA acd ["sign","left","right"]:=aw [00]
theorem ak5:cA s_w ["value"]:=aw [00]
theorem agp:cA ace ["worker","choice","parts"]:=aw [00]
theorem agq:cA acf ["worker","summed","parts"]:=aw [00]
theorem agr:az ["worker","summed","parts","turns","added"] ["worker","summed","parts"] (af acg):=aw [00]
theorem ags:cA ach ["self","zones","quarters","low","high"]:=aw [00]
theorem agt:cA aci ["self","market"]:=aw [00]
theorem aaF:az ["market","tops","expansion","top"] ["market","tops"] (af s_U):=aw [00]
theorem agu:cA acj ["expansion","top"]:=aw [00]
theorem ak6:cA s_x ["worker","given"]:=aw [00]
theorem agv:az ["expansion","statements","statement"] ["expansion","statements"] (af s_k):=aw [00]
theorem ak7:cA s_V ["expansion","statement"]:=aw [00]
theorem aaG:az ["expansion","loop","worker","turn","last"] ["expansion","loop"] (af s_y):=aw [00]
theorem agw:cA s_C ["expansion","condition"]:=aw [00]
theorem agx:cA ack ["number","least","most"]:=aw [00]
theorem Ya:az ["expansion","step","worker","zone","quarter","low","high","amount","market","side"] ["expansion","step"] (af acm):=aw [00]
theorem ak8:cA s_W ["expansion","order"]:=aw [00]
theorem Yb:az ["expansion","block","worker","zone","price","amounts","group","amount","parent","side"] ["expansion","block"] (af acn):=aw [00]
theorem agy:az ["expansion","amounts","found","quarter"] ["expansion","amounts"] (af s_D):=aw [00]
theorem agz:cA aco ["expansion","block"]:=aw [00]
theorem agA:cA acp ["expansion","name","order"]:=aw [00]
theorem ak9:cA s_E ["self","kind","value","line","column"]:=aw [00]
theorem ala:cA s_e ["byte"]:=aw [00]
theorem alb:cA s_h ["byte"]:=aw [00]
theorem agB:cA s_F ["text","at"]:=aw [00]
theorem agC:cA s_G ["text","at"]:=aw [00]
theorem agD:cA s_H ["text","at"]:=aw [00]
theorem agE:az ["text","at","pair"] ["text","at"] (af s_I):=aw [00]
theorem agF:az ["text","at","end","glued"] ["text","at","end"] (af s_J):=aw [00]
theorem EJ:az ["part","worth","byte"] ["part"] (af s_r):=aw [00]
theorem aaH:az ["kind","part","byte"] ["kind","part"] (af s_s):=aw [00]
theorem lW:az ["text","found","line","line_start","at","end","kind"] ["text"] (af s_i):=aw [00]
theorem agG:cA acq ["self","tokens"]:=aw [00]
theorem agH:az ["self","token"] ["self"] (af s_a):=aw [00]
theorem agI:az ["self","kind","token"] ["self","kind"] (af s_b):=aw [00]
theorem alc:cA s_p ["self","value"]:=aw [00]
theorem agJ:cA acr ["self"]:=aw [00]
theorem agK:cA acs ["self"]:=aw [00]
theorem agL:az ["self","token"] ["self"] (af s_X):=aw [00]
theorem agM:cA acu ["self"]:=aw [00]
theorem agN:az ["self","token"] ["self"] (af s_t):=aw [00]
theorem agO:cA acv ["self","value"]:=aw [00]
theorem agP:cA acw ["self","value"]:=aw [00]
theorem ald:cA s_z ["self"]:=aw [00]
theorem Yc:az ["self","name"] ["self"] (af acx):=aw [00]
theorem agQ:cA acy ["self","given"]:=aw [00]
theorem agR:cA acz ["self","name"]:=aw [00]
theorem agS:cA acA ["self","name"]:=aw [00]
theorem ale:cA s_f ["reader","depth"]:=aw [00]
theorem agT:cA s_d ["reader","depth"]:=aw [00]
theorem agU:az ["reader","depth","inner","condition","chosen"] ["reader","depth"] (af acB):=aw [00]
theorem agV:az ["reader","depth","strength","operands","signs"] ["reader","depth","strength"] (af s_u):=aw [00]
theorem aaI:az ["reader","depth","inner","sign"] ["reader","depth"] (af s_l):=aw [00]
theorem agW:az ["reader","depth","name"] ["reader","depth"] (af acC):=aw [00]
theorem agX:az ["reader","depth","inner","exp"] ["reader","depth"] (af acD):=aw [00]
theorem agY:az ["reader","depth","inner","name","first","last","body"] ["reader","depth"] (af acE):=aw [00]
theorem alf:az ["reader","depth","inner","name","wanted","arguments"] ["reader","depth"] (af s_Y):=aw [00]
theorem agZ:cA acF ["reader","sign"]:=aw [00]
theorem aaJ:az ["text","reader","tops"] ["text"] (af s_j):=aw [00]
theorem ag0:cA acG ["reader"]:=aw [00]
theorem ag1:az ["reader","name","exp"] ["reader"] (af acH):=aw [00]
theorem alg:az ["reader","exp"] ["reader"] (af s_q):=aw [00]
theorem ag2:az ["reader","name","parameters","exp","parameter"] ["reader"] (af acI):=aw [00]
theorem ag3:az ["reader","function","parameters"] ["reader","function"] (af acJ):=aw [00]
theorem ag4:az ["reader","function","name"] ["reader","function"] (af acK):=aw [00]
theorem ag5:az ["reader","name"] ["reader"] (af acL):=aw [00]
theorem ag6:az ["reader","depth","statements","statement"] ["reader","depth"] (af s_m):=aw [00]
theorem ag7:cA acM ["reader","depth"]:=aw [00]
theorem alh:az ["reader","name","exp"] ["reader"] (af s_Z):=aw [00]
theorem ag8:cA acN ["reader","depth"]:=aw [00]
theorem ag9:az ["reader","depth","inner","name","first","last","statements"] ["reader","depth"] (af acO):=aw [00]
theorem aha:az ["reader","depth","inner","condition","statements","else_statements"] ["reader","depth"] (af acP):=aw [00]
theorem ahb:cA acQ ["reader"]:=aw [00]
theorem ali:cA s_n ["reader","word"]:=aw [00]
theorem alj:cA s_A ["reader","word"]:=aw [00]
theorem alk:az ["reader","side","zone","quarter","price","to_price","amount"] ["reader"] (af s_1):=aw [00]
theorem alm:az ["reader","name","side","zone","price","amounts","under","group"] ["reader"] (af s_2):=aw [00]
theorem ahc:az ["reader","name","exp"] ["reader"] (af acR):=aw [00]
theorem ahd:cA acS ["reader"]:=aw [00]
theorem aaK:az ["text","byte"] ["text"] (af s_K):=aw [00]
theorem aln:cA s_3 ["price"]:=aw [00]
theorem Yd:az ["zones","quarters","low","high","counts"] ["zones","quarters","low","high"] (af acT):=aw [00]
theorem alo:cA s_g ["as_told"]:=aw [00]
theorem ahe:cA acU ["zones","quarters","low","high","text"]:=aw [00]
theorem aaL:az ["expansion","order"] ["expansion"] (af s_L):=aw [00]
theorem alp:cA s_B ["numbers"]:=aw [00]
theorem Cu:az ["zones","quarters","low","high","text","expansion","refusal","answer","numbers"] ["zones","quarters","low","high","text"] (af s_c):=aw [00]
variable {P:FW}{w:Gx}{K:E1}{mg:FD->Fd E3}{base:GI}{a:bf}
def jM (bs:EW):EV V:=bs.map λc=>V.int (nb c)
theorem fG (bs:EW):(jM bs).length=bs.length:=by unfold jM;rw[Fh]
theorem fA {bs:EW}{i:Fm}{c:IP}(h:bs[i]?=Fa c):(jM bs)[i]?=Fa (V.int (nb c)):=by unfold jM;rw[Gf,h];rfl
theorem mS {p:IP->Prop}(h: ∀n:Fm,n<256->p (Om n)) (c:IP):p c:=by
 have:=h c.toNat (WE c)
 rwa [U8] at this
theorem sM (c:IP):Hw c=(decide ((48:Int)<=nb c)&&decide (nb c<=57)):=mS (p:=λc=>Hw c=(decide ((48:Int)<=nb c)&&decide (nb c<=57))) [00] c
theorem yf (c:IP):J2 c=((decide ((65:Int)<=nb c)&&decide (nb c<=90))||((decide ((97:Int)<=nb c)&&decide (nb c<=122))||decide (nb c=95))):=
 mS (p:=λc=>J2 c=((decide ((65:Int)<=nb c)&&decide (nb c<=90))||((decide ((97:Int)<=nb c)&&decide (nb c<=122))||decide (nb c=95)))) [00] c
inductive uU (p:IP->Gg) (vs:EV V) (H:Hp) (Q:VK) (_E:XK):Prop
 |mk (c:IP) (_:vs=[.int (nb c)]) (_:Q (.bl (p c)) H):uU p vs H Q _E
inductive wE (K:E1) (p:IP->Gg) (vs:EV V) (H:Hp) (Q:VK) (_E:XK):Prop
 |mk (l:E4) (bs:EW) (i:Fm) (_:vs=[.ref l, .int i]) (_:cC K H l (jM bs)) (_:i<=bs.length) (_:Q (.int (aZ p bs i:Fm)) H):wE K p vs H Q _E
theorem zT (c:IP):eO c=!decide (V.int (nb c)=V.int 10):=mS (p:=λc=>eO c=!decide (V.int (nb c)=V.int 10)) [00] c
theorem jI {i:Fm}{lo hi n:Int}{σ:St}{H:Hp}{Q:VK}(hv:σ[i]?=Fa (Fa (.int n))) (q:Q (.bl (decide (lo<=n)&&decide (n<=hi))) H):
  uI (zy λi j=> .bl (decide (i<=j))) (zy λi j=> .bl (decide (i<=j))) (tC (.int lo)) (kQ i) (tC (.int hi)) σ H Q:=by
 refine m6 #[_,_,Gc,Gc,_,Gc,?_] hv;by_cases h1:lo<=n
 ·rw[E7 (Gy h1)]
  rw[Gy h1,Jh] at q;exact#[_,_,Gc,Gc,q]
 ·rw[E5 (by rw[FU h1];exact EZ)]
  rw[FU h1,IW] at q;exact q
theorem cj:decide (V.int i=V.int j)=decide (i=j):=decide_eq_decide.mpr #[λy=>V.int.inj y,λy=>by rw[y]]
theorem aP {A B:Prop}(h1:b=FM->A) (h2:b=FS->B):if b=FM then A else B:=by
 cases b with
 |true=>exact cc (h1 rfl)
 |false=>exact bN (h2 rfl)
theorem DW (T:aU K mg a):T.d_e.U P w base 1 (uU Hw):=by
 refine T.d_e.F.ok ala [03] [02];obtain⟨c,rfl,q⟩:=h;refine#[_,(ai (aI (iC eP eP ak (pv 0) ak))),?_];rw[sM] at q;exact jI rfl q
theorem aaM (T:aU K mg a):T.d_h.U P w base 1 (uU J2):=by
 refine T.d_h.F.ok alb [03] [02];obtain⟨c,rfl,q⟩:=h;refine#[_,(ai (aI (Bp (iC eP eP ak (pv 0) ak) (Bp (iC eP eP ak (pv 0) ak) (jx (ca b8 (pv 0) ak (aM _))))))),?_];rw[yf] at q;refine jI rfl #[_,Gc,aP (λe=>?_) λe=>?_]
 ·rw[e,S6] at q
  exact q
 ·rw[e,RR] at q
  refine jI rfl #[_,Gc,aP (λe=>?_) λe=>?_]
  ·rw[e,S6] at q
   exact q
  ·rw[e,RR] at q
   refine#[Gc,?_];rw[cj];exact q
theorem alq (T:aU K mg a):T.d_F.U P w base 1 (wE K eO):=by
 refine T.d_F.F.ok agB [03] [02];obtain⟨l,bs,i,rfl,hS,hi,q⟩:=h;refine#[_,(ax (iD Kp (rg (a9 ka (pv 1) (bv bB (by rfl) T.JW Hr (aa (pv 0) ag)) (aM _)) (mq (a9 py (cM bD (pv 0) (pv 1) [002]) (aR (by rfl) T.Qc) (aM _)))).pt (ai (ld (i:=1) agB.nd rfl (GO rfl) ak kR)))
   (ai (aI (pv 1)))),?_]
 refine#[λm σ H'=> ∃j:Fm,m=bs.length-j/\σ=[Fa (.ref l),Fa (.int (j:Fm))]/\H'=H/\j<=bs.length/\aZ eO bs j=aZ eO bs i,#[_,i,Gc,Gc,Gc,hi,Gc],?_];rintro m σ H' ⟨j,rfl,rfl,rfl,hj,ej⟩;refine#[_,_,Gc, .inl hS,_,_,Gc,Gc,_,Gc,?_];rw[fG];refine aP (λe=>?_) λe=>?_
 ·have lt:j<bs.length:=by have:=FN e;lia
  obtain⟨c,hc⟩: ∃c,bs[j]?=Fa c:=#[_,Hi lt];refine#[_,_,_,_,Gc,Gc,hS,bw (fA hc),Gc,_,Gc,?_];have st:eO c=!decide (V.int (nb c)=V.int 10):=zT c;refine aP (λe2=>?_) λe2=>?_
  ·refine#[λσ' RZ=>σ'=[Fa (.ref l),Fa (.int ((j+1:Fm)))]/\RZ=H',?_,_,Gc,_,_,Gc,Gc,Gc,Gc]
   rintro σ' RZ ⟨rfl,rfl⟩;exact#[_,by lia,j+1,Gc,Gc,Gc,lt,by rw[<-ej,j4 hc (st.trans e2)]]
  ·refine ?_
   rw[<-ej,oO hc (st.trans e2)] at q;exact q
 ·have ge:bs.length<=j:=by have:=FR e;lia
  refine bN ?_;rw[<-ej,ly ge] at q;exact q
theorem alr (T:aU K mg a):T.d_G.U P w base 2 (wE K bR):=by
 have G_h:=aaM (P:=P) (w:=w) (base:=base) T
 have G_e:=DW (P:=P) (w:=w) (base:=base) T;refine T.d_G.F.ok agC [03] [02];obtain⟨l,bs,i,rfl,hS,hi,q⟩:=h;refine#[_,(ax (iD Kp (rg (a9 ka (pv 1) (bv bB (by rfl) T.JW Hr (aa (pv 0) ag)) (aM _)) (mq (wP (cZ (aJ G_h hr (by rfl) T.d_h.c aV (aa (cM bD (pv 0) (pv 1) [002]) ag))) (qJ (cZ (aJ G_e hr (by rfl) T.d_e.c aV (aa (cM bD (pv 0) (pv 1) [002]) ag))))).pt)).pt (ai (ld (i:=1) agC.nd rfl (GO rfl) ak kR)))
   (ai (aI (pv 1)))),?_]
 refine#[λm σ H'=> ∃j:Fm,m=bs.length-j/\σ=[Fa (.ref l),Fa (.int (j:Fm))]/\H'=H/\j<=bs.length/\aZ bR bs j=aZ bR bs i,#[_,i,Gc,Gc,Gc,hi,Gc],?_];rintro m σ H' ⟨j,rfl,rfl,rfl,hj,ej⟩;refine#[_,_,Gc, .inl hS,_,_,Gc,Gc,_,Gc,?_];rw[fG];refine aP (λe=>?_) λe=>?_
 ·have lt:j<bs.length:=by have:=FN e;lia
  obtain⟨c,hc⟩: ∃c,bs[j]?=Fa c:=#[_,Hi lt];have go:bR c=FM-> ∃N:St->Hp->Prop,(∀σ' RZ,N σ' RZ-> ∃m',m'<bs.length-j/\ ∃j1:Fm,m'=bs.length-j1/\σ'=[Fa (.ref l),Fa (.int (j1:Fm))]/\RZ=H'/\j1<=bs.length/\aZ bR bs j1=aZ bR bs i)/\
    N [Fa (.ref l),Fa (.int ((j+1:Fm)))] H':=λy=>by
   refine#[λσ' RZ=>σ'=[Fa (.ref l),Fa (.int ((j+1:Fm)))]/\RZ=H',?_,Gc,Gc];rintro σ' RZ ⟨rfl,rfl⟩;exact#[_,by lia,j+1,Gc,Gc,Gc,lt,by rw[<-ej,j4 hc y]]
  refine#[_,_,_,_,Gc,Gc,hS,bw (fA hc),c,Gc,_,Gc,aP (λe2=>?_) λe2=>?_]
  ·obtain⟨N,n1,n2⟩:=go (by unfold bR;rw[e2];rfl)
   exact cc #[N,n1,_,Gc,_,_,Gc,Gc,n2]
  ·refine#[_,_,_,_,Gc,Gc,hS,bw (fA hc),c,Gc,_,Gc,aP (λe3=>?_) λe3=>?_]
   ·obtain⟨N,n1,n2⟩:=go (by unfold bR;rw[e3,P0])
    exact#[N,n1,_,Gc,_,_,Gc,Gc,n2]
   ·refine ?_
    rw[<-ej,oO hc (by unfold bR;rw[e2,e3];rfl)] at q;exact q
 ·have ge:bs.length<=j:=by have:=FR e;lia
  refine bN ?_;rw[<-ej,ly ge] at q;exact q
theorem als (T:aU K mg a):T.d_H.U P w base 2 (wE K Hw):=by
 have G_e:=DW (P:=P) (w:=w) (base:=base) T;refine T.d_H.F.ok agD [03] [02];obtain⟨l,bs,i,rfl,hS,hi,q⟩:=h;refine#[_,(ax (iD Kp (rg (a9 ka (pv 1) (bv bB (by rfl) T.JW Hr (aa (pv 0) ag)) (aM _)) (mq (cZ (aJ G_e hr (by rfl) T.d_e.c aV (aa (cM bD (pv 0) (pv 1) [002]) ag))))).pt (ai (ld (i:=1) agD.nd rfl (GO rfl) ak kR)))
   (ai (aI (pv 1)))),?_]
 refine#[λm σ H'=> ∃j:Fm,m=bs.length-j/\σ=[Fa (.ref l),Fa (.int (j:Fm))]/\H'=H/\j<=bs.length/\aZ Hw bs j=aZ Hw bs i,#[_,i,Gc,Gc,Gc,hi,Gc],?_];rintro m σ H' ⟨j,rfl,rfl,rfl,hj,ej⟩;refine#[_,_,Gc, .inl hS,_,_,Gc,Gc,_,Gc,?_];rw[fG];refine aP (λe=>?_) λe=>?_
 ·have lt:j<bs.length:=by have:=FN e;lia
  obtain⟨c,hc⟩: ∃c,bs[j]?=Fa c:=#[_,Hi lt];refine#[_,_,_,_,Gc,Gc,hS,bw (fA hc),c,Gc,_,Gc,aP (λe2=>?_) λe2=>?_]
  ·refine#[λσ' RZ=>σ'=[Fa (.ref l),Fa (.int ((j+1:Fm)))]/\RZ=H',?_,_,Gc,_,_,Gc,Gc,Gc,Gc]
   rintro σ' RZ ⟨rfl,rfl⟩;exact#[_,by lia,j+1,Gc,Gc,Gc,lt,by rw[<-ej,j4 hc e2]]
  ·refine ?_
   rw[<-ej,oO hc e2] at q;exact q
 ·have ge:bs.length<=j:=by have:=FR e;lia
  refine bN ?_;rw[<-ej,ly ge] at q;exact q
theorem ic (hg:Gl X x) (hm:X.mg x=Fa (.ref p)) (hd:(x == [003])=FS:=by decide):PE X (.Name x pos) (tC (.ref p)):=qL hg hm rfl hd
theorem nO {bs:EW}{i j:Fm} :vv (jM bs) (Fa (i:Int)) (Fa (j:Int))=jM (part bs i j):=by
 unfold vv part;rw[HT.Us,HT.Us,fG];unfold jM;rw[<-EV.map_drop,<-EV.map_take]
 congr 1
 by_cases hi:i<=bs.length
 ·rw[Xp hi]
  by_cases hj:j<=bs.length
  ·rw[Xp hj]
  ·rw[Wz (show bs.length<=j by lia),Jf (by rw[LK];lia),Jf (by rw[LK];lia)]
 ·rw[Wz (show bs.length<=i by lia),JY (Fq _),JY (show bs.length<=i by lia)]
  simp
theorem aaN (h:kb x=kb y):x=y:=Qy.mp (Vj (Xy h))
theorem DI {x y:EW}(h:x.map kb=y.map kb):x=y:=(U7 λ_ _ z=>aaN z).mp h
theorem aaO (w:EW):(w.map kb).map kV=jM w:=by unfold jM;rw[JA];rfl
theorem wS (w:EW): ∀L:EV EW,bO (L.map λs=>(s.map kb,V.str (dI s))) (w.map kb)=if w∈L then Fa (V.str (dI w)) else FB
 |[]=>by simp [bO]
 |s::L=>by
  rw[FC];by_cases e:s=w
  ·subst e
   rw[cg rfl,E7 Fb]
  ·rw[b7 (λz=>e (DI z)),wS w L]
   by_cases m:w∈L
   ·rw[E7 m,E7 (E9 _ m)]
   ·rw[E5 m,E5 λz=>(Fi.mp z).elim (λy=>e y.symm) m]
theorem rS (w:EW):bO dW (w.map kb)=if w∈Gu then Fa (V.str (dI w)) else FB:=wS w Gu
theorem je (w:EW):(bO dW (w.map kb)).isSome=decide (w∈Gu):=by
 rw[rS];by_cases m:w∈Gu
 ·rw[E7 m,Gy m];rfl
 ·rw[E5 m,FU m];rfl
def eQ (bs:EW) (i:Fm) (c:IP):Fm:=if J2 c=FM then aZ bR bs i else if Hw c=FM then aZ Hw bs i else bA bs i
inductive sE (K:E1) (vs:EV V) (H:Hp) (Q:VK) (_E:XK):Prop
 |mk (l:E4) (bs:EW) (i:Fm) (c:IP) (_:vs=[.ref l, .int i]) (_:cC K H l (jM bs)) (_:bs[i]?=Fa c) (_: ∀H',aW H H'->Q (.int (eQ bs i c:Fm)) H'):sE K vs H Q _E
theorem a0 {H:Hp}(h:H p=S8):aW H (aF H p o):=λb u e=>by rw[ac (aj e h)];exact e
theorem alu (T:aU K mg a) (kS:zH P w K a.JR dW):T.d_I.U P w base 3 (sE K):=by
 have G_h:=aaM (P:=P) (w:=w) (base:=base) T
 have G_e:=DW (P:=P) (w:=w) (base:=base) T
 have G_G:=alr (P:=P) (w:=w) (base:=base) T
 have G_H:=als (P:=P) (w:=w) (base:=base) T;refine T.d_I.F.ok agE [03] [02];obtain⟨l,bs,i,c,rfl,hS,hc,q⟩:=h
 have hi:i<=bs.length:=Kt (FZ.mp hc).1;refine#[_,(ax (cx (cZ (aJ G_h [07] (by rfl) T.d_h.c aV (aa (cM bD (pv 0) (pv 1) [002]) ag))) (ai (aI (aJ G_G [07] (by rfl) T.d_G.c aV (aa (pv 0) (aa (pv 1) ag))))) br)
   (ax (cx (cZ (aJ G_e [07] (by rfl) T.d_e.c aV (aa (cM bD (pv 0) (pv 1) [002]) ag))) (ai (aI (aJ G_H [07] (by rfl) T.d_H.c aV (aa (pv 0) (aa (pv 1) ag))))) br)
   (ax (cB (i:=2) agE.nd rfl (GO rfl) (i6 gw (by rfl) T.RJ Mx (aa (mx rA (pv 0) (i8 (pv 1)) (i8 (bW dP (pv 1) ak))) ag)))
   (ai (aI (dF (fD (wT (dn hr) (pv 2) (ic (by rfl) T.RH))) (bW dP (pv 1) (bv bB (by rfl) T.JW Hr (aa (pv 2) ag))) (bW dP (pv 1) ak))))))),?_]
 refine#[_,_,_,_,Gc,Gc,hS,bw (fA hc),c,Gc,_,Gc,aP (λe=>?_) λe=>?_]
 ·refine#[l,bs,i,Gc,hS,hi,?_]
  have z:=q H (aW.refl H);unfold eQ at z;rw[E7 e] at z;exact z
 ·refine#[_,_,_,_,Gc,Gc,hS,bw (fA hc),c,Gc,_,Gc,aP (λe2=>?_) λe2=>?_]
  ·refine#[l,bs,i,Gc,hS,hi,?_]
   have z:=q H (aW.refl H);unfold eQ at z;rw[E5 (by rw[e];exact EZ),E7 e2] at z;exact z
  ·refine#[_,Gc,_,_,Gc,Gc,_,Gc,_,_,Gc,hS,λp hp=>?_]
   refine#[p,_,Gc, .inl #[cC.of ae,λt ht=>?_]];have cut:vv (jM bs) (Fa (i:Int)) (Fa ((i:Int)+2))=jM (part bs i (i+2)):=nO (j:=i+2);rw[cut] at ht ⊢;have sm:aW H (aF (aF H p (.lst (jM (part bs i (i+2))))) t (.tup (jM (part bs i (i+2))))):=(a0 hp).trans (a0 ht);have z:=q _ sm;unfold eQ at z;rw[E5 (by rw[e];exact EZ),E5 (by rw[e2];exact EZ)] at z;unfold bA at z;refine#[a.JR,t,(part bs i (i+2)).map kb,dW,Gc,kS,Gc,by rw[ae,aaO],_,Gc,aP (λe3=>?_) λe3=>?_]
   ·rw[je] at e3
    rw[E7 (FN e3)] at z;refine#[_,_,Gc, .inr (qG.of ae),_,_,Gc,Gc,?_];rw[fG];exact z
   ·rw[je] at e3
    rw[E5 (FR e3)] at z;exact#[_,_,Gc,Gc,z]
def iW (bs:EW) (i e:Fm) (c:IP):Int:=if J2 c=FM then(if e-i<=24 then 0 else 4) else if Hw c=FM then(if 18<e-i\/pR bs e=FM then 4 else 1) else if part bs i e∈Gu then 2 else 4
inductive pW (K:E1) (vs:EV V) (H:Hp) (Q:VK) (_E:XK):Prop
 |mk (l:E4) (bs:EW) (i e:Fm) (c:IP) (_:vs=[.ref l, .int i, .int e]) (_:cC K H l (jM bs)) (_:bs[i]?=Fa c) (_:i<=e) (_:e<=bs.length) (_: ∀H',aW H H'->Q (.int (iW bs i e c)) H'):pW K vs H Q _E
theorem alv (T:aU K mg a) (kS:zH P w K a.JR dW):T.d_J.U P w base 2 (pW K):=by
 have G_h:=aaM (P:=P) (w:=w) (base:=base) T
 have G_e:=DW (P:=P) (w:=w) (base:=base) T;refine T.d_J.F.ok agF [03] [02];obtain⟨l,bs,i,e,c,rfl,hS,hc,hie,he,q⟩:=h;refine#[_,(ax (cx (cZ (aJ G_h [07] (by rfl) T.d_h.c aV (aa (cM bD (pv 0) (pv 1) [002]) ag))) (ai (aI (dF (a9 eP (bW cV (pv 2) (pv 1)) (aR (by rfl) T.QH) (aM _)) (aR (by rfl) T.TB) (aR (by rfl) T.Pd)))) br)
   (ax (cx (cZ (aJ G_e [07] (by rfl) T.d_e.c aV (aa (cM bD (pv 0) (pv 1) [002]) ag))) (ax (cB (i:=3) agF.nd rfl (GO rfl) (oG (ca ka (pv 2) (bv bB (by rfl) T.JW Hr (aa (pv 0) ag)) (aM _)) (jx (aJ G_h [07] (by rfl) T.d_h.c aV (aa (cM bD (pv 0) (pv 2) [002]) ag)))))
   (ai (aI (dF (wP (cZ (pv 3)) (qJ (a9 gk (bW cV (pv 2) (pv 1)) (aR (by rfl) T.PJ) (aM _)))).pt (aR (by rfl) T.Pd) (aR (by rfl) T.Pc))))) br)
   (ai (aI (dF (fD (wT (dn hr) (i6 gw (by rfl) T.RJ Mx (aa (mx rA (pv 0) (i8 (pv 1)) (i8 (pv 2))) ag)) (ic (by rfl) T.RH))) (aR (by rfl) T.VY) (aR (by rfl) T.Pd)))))),?_]
 refine#[_,_,_,_,Gc,Gc,hS,bw (fA hc),c,Gc,_,Gc,aP (λe1=>?_) λe1=>?_]
 ·refine#[_,_,Gc,Gc,_,_,Gc,Gc,_,Gc,?_]
  have z:=q H (aW.refl H);unfold iW at z;rw[E7 e1] at z;refine aP (λe2=>?_) λe2=>?_
  ·have:=FN e2
   rw[E7 (by lia)] at z;exact z
  ·have:=FR e2
   rw[E5 (by lia)] at z;exact z
 ·refine#[_,_,_,_,Gc,Gc,hS,bw (fA hc),c,Gc,_,Gc,aP (λe2=>?_) λe2=>?_]
  ·have z:=q H (aW.refl H)
   unfold iW at z;rw[E5 (by rw[e1];exact EZ),E7 e2] at z;have rest: ∀b:Gg,pR bs e=b->afj (tIf (tOr (tB (kQ 3)) (CF (tOp (zy λi j=> .bl (decide (j<i))) (tOp (zy λi j=> .int (i-j)) (kQ 2) (kQ 1)) (tC (.int 18))))) (tC (.int 4)) (tC (.int 1))) { nx:=λ_ H'=>Q .Iw H',rt:=Q } [Fa (.ref l),Fa (.int i),Fa (.int e),Fa (.bl b)] H:=λb hb=>by
    refine#[_,Gc,aP (λe3=>?_) λe3=>?_]
    ·rw[E7 (.inr (hb.trans e3))] at z
     exact cc z
    ·refine#[_,_,Gc,Gc,_,_,Gc,Gc,_,Gc,aP (λe4=>?_) λe4=>?_]
     ·have:=FN e4
      rw[E7 (.inl (by lia))] at z;exact z
     ·have:=FR e4
      rw[E5 (λy=>y.elim (λy=>by lia) λy=>by rw[hb,e3] at y;cases y)] at z;exact z
   refine#[_,_,Gc, .inl hS,_,_,Gc,Gc,_,Gc,?_];rw[fG];refine aP (λe3=>?_) λe3=>?_
   ·have lt:e<bs.length:=by have:=FN e3;lia
    obtain⟨g,hg⟩: ∃g,bs[e]?=Fa g:=#[_,Hi lt];refine#[_,_,_,_,Gc,Gc,hS,bw (fA hg),g,Gc,?_];exact rest (J2 g) (by unfold pR;rw[hg];rfl)
   ·have ge:bs.length<=e:=by have:=FR e3;lia
    exact rest FS (by unfold pR;rw[IF ge];rfl)
  ·refine#[_,Gc,_,Gc,_,_,Gc,hS,λp hp=>?_]
   refine#[p,_,Gc, .inl #[cC.of ae,λt ht=>?_]];rw[nO] at ht ⊢;have sm:aW H (aF (aF H p (.lst (jM (part bs i e)))) t (.tup (jM (part bs i e)))):=(a0 hp).trans (a0 ht);have z:=q _ sm;unfold iW at z;rw[E5 (by rw[e1];exact EZ),E5 (by rw[e2];exact EZ)] at z;refine#[a.JR,t,(part bs i e).map kb,dW,Gc,kS,Gc,by rw[ae,aaO],_,Gc,aP (λe3=>?_) λe3=>?_]
   ·rw[je] at e3
    rw[E7 (FN e3)] at z;exact z
   ·rw[je] at e3
    rw[E5 (FR e3)] at z;exact z
section
open Vbemac (valueOf)
theorem rq (l:EW) (c:IP):valueOf (l++[c])=10*valueOf l+(c.toNat-48):=by unfold valueOf;rw[EV.foldl_append];rfl
theorem BM (h:Hw c=FM):48<=nb c:=by
 rw[sM,GC] at h;exact FN h.1
inductive wq (K:E1) (vs:EV V) (H:Hp) (Q:VK) (_E:XK):Prop
 |mk (l:E4) (u:EW) (_:vs=[.ref l]) (_:cC K H l (jM u)) (_:(∀c∈u,Hw c=FM)) (_:Q (.int (valueOf u:Fm)) H):wq K vs H Q _E
def one (c:IP):FD:=#[[c.toNat].toArray]
theorem qh: ∀w:EW,TL.SE [] (w.map λc=>[c.toNat])=w.map M7
 |[]=>rfl
 |[c]=>rfl
 |c::d::r=>by
  show [c.toNat]++([]++TL.SE [] ((d::r).map λc=>[c.toNat]))=_
  rw[qh (d::r)]
  rfl
theorem Ay (w:EW):UM ("":FD) (w.map one)=sb w:=by
 rw[TL.join_eq];refine TL.aaz ?_;rw[TL.Ut,JA];exact qh w
def Cg:FD:="0123456789:;<=>?@ABCDEFGHIJKLMNOPQRSTUVWXYZ[\\]^_`abcdefghijklmnopqrstuvwxyz"
theorem xV:Cg.length<=FP:=by decide+kernel
theorem As (h:bR c=FM):zJ Cg.cps.toList (nb c-48)=Fa c.toNat:=by
 revert h;exact mS (p:=λc=>bR c=FM->zJ Cg.cps.toList (nb c-48)=Fa c.toNat) [00] c
inductive Cp (K:E1) (vs:EV V) (H:Hp) (Q:VK) (_E:XK):Prop
 |mk (k:Int) (l:E4) (u:EW) (_:vs=[.int k, .ref l]) (_:cC K H l (jM u)) (_:u.length<=3000) (_:((k=0/\(∀c∈u,bR c=FM)/\ ∀H',aW H H'->Q (.str (sb u)) H')\/(k=1/\(∀c∈u,Hw c=FM)/\ ∀H',aW H H'->Q (.int (valueOf u:Fm)) H')\/
   (k=2/\u∈Gu/\ ∀H',aW H H'->Q (.str (dI u)) H')\/(k=4/\ ∀H',aW H H'->Q (.str (sb [])) H'))):Cp K vs H Q _E
theorem alw (T:aU K mg a):T.d_r.U P w base 1 (wq K):=by
 refine T.d_r.F.ok EJ [03] [02];obtain⟨l,u,rfl,hS,hd,q⟩:=h;refine#[_,(ax (cB (i:=1) EJ.nd rfl (GO rfl) ak)
   (ax (qx Kp rfl (iU (pv 0)) (gZ (i:=2) EJ.nd rfl (GO rfl)) (ai (cB (i:=1) EJ.nd rfl (GO rfl) (bW cV (bW dP (bW zL (pv 1) ak) (pv 2)) ak))))
   (ai (aI (pv 1))))),?_]
 refine#[l,Gc,#[_,hS],oJ (K:=K) (a:=l) (xs:=jM u) (λi σ H'=> ∃v:Fd V,σ=[Fa (.ref l),Fa (.int (valueOf (u.take i):Fm)),v]/\H'=H) #[FB,Gc,Gc] (λi σ H' _ ⟨_,_,e⟩=>by rw[e];exact hS) ?_ ?_]
 ·rintro i y σ H' hi ⟨v,rfl,rfl⟩
  obtain⟨c,hc,rfl⟩: ∃c,u[i]?=Fa c/\y=V.int (nb c):=by
   unfold jM at hi;rw[Gf] at hi;cases e:u[i]? with
   |none=>rw[e] at hi;cases hi
   |some c=>rw[e] at hi;exact#[c,Gc,(Fs hi).symm]
  refine#[_,_,Gc,Gc, .inr #[by decide,by decide],_,_,Gc,Gc,_,_,Gc,Gc,Fa (.int (nb c)),?_,Gc];have g:=BM (hd c (GP hc));have e:((valueOf (u.take (i+1)):Fm):Int)=(valueOf (u.take i):Fm)*10+nb c-48:=by
   rw[J9,hc];show((valueOf (u.take i++[c]):Fm):Int)=_;rw[rq];have g':48<=c.toNat:=Int.ofNat_le.mp g;show((10*valueOf (u.take i)+(c.toNat-48):Fm):Int)=(valueOf (u.take i):Fm)*10+(c.toNat:Int)-48;lia
  rw[e]
  rfl
 ·rintro σ H' ⟨v,rfl,rfl⟩
  rw[fG,Ko];exact q
theorem alx (T:aU K mg a) (kS:zH P w K a.JR dW):T.d_s.U P w base 2 (Cp K):=by
 have G_r:=alw (P:=P) (w:=w) (base:=base) T;refine T.d_s.F.ok aaH [03] [02];obtain⟨k,l,u,rfl,hS,Nr,h⟩:=h;refine#[_,(ax (cx (a9 b8 (pv 0) (aR (by rfl) T.TB) (aM _)) (ai (aI (EN dJ (CG rfl aaH.nd (iU (pv 1)) (own:=[("byte",2)]) (nh (by show Cv ["kind","part","byte"] (af s_s) _ [("byte",2)]=FM;decide+kernel)) (λ_ _ _ _ _=>gZ (i:=2) aaH.nd rfl (GO rfl)) (λ_ _ _ _ _=>qB) (λ_ _ _ _ _=>(cM aan (afL (by rfl) T.TC) (bW cV (pv 2) ak) [002])))))) br)
   (ax (cx (a9 b8 (pv 0) (aR (by rfl) T.Pc) (aM _)) (ai (aI (aJ G_r [07] (by rfl) T.d_r.c aV (aa (pv 1) ag)))) br)
   (ax (cx (a9 b8 (pv 0) (aR (by rfl) T.VY) (aM _)) (ai (aI (BC (dn hr) (ic (by rfl) T.RH) (i6 gw (by rfl) T.RJ Mx (aa (pv 1) ag)) [002]))) br)
   (ai (aI dJ))))),?_]
 refine#[Gc,_,Gc,?_];rw[cj];rcases h with⟨rfl,hw,q⟩|⟨rfl,hd,q⟩|⟨rfl,hs,q⟩|⟨rfl,q⟩
 ·refine cc ?_
  refine#[#[_,Gc],l,Gc,#[_,hS],λD hD=>?_];have sm:aW H (aF H D (.lst [])):=a0 hD;refine qI (K:=K) (a:=l) (xs:=jM u) (λi H'=>aW H H'/\H' D=Fa (.lst (((u.take i).map one).map V.str))) #[sm,ae] (λi H' _ z=>z.1.seq hS) ?_ ?_
  ·rintro i y H' hi ⟨s1,SH⟩
   obtain⟨c,hc,rfl⟩: ∃c,u[i]?=Fa c/\y=V.int (nb c):=by
    unfold jM at hi;rw[Gf] at hi;cases e:u[i]? with
    |none=>rw[e] at hi;cases hi
    |some c=>rw[e] at hi;exact#[c,Gc,(Fs hi).symm]
   refine#[Gc,?_];unfold EH;dsimp only;rw[E7 rfl];refine#[_,_,Gc,Gc,_,_,_,Gc,Gc,xV,As (hw c (GP hc)),_,SH,?_,?_,?_]
   ·have z:=(EV.length_take_le i u)
    rw[Fh,Fh];refine F9 (T1 i u) ?_;exact F9 Nr [01]
   ·exact λb o e=>by rw[ac (aj e hD)];exact s1 b o e
   ·rw[ae,J9,hc]
    show Fa (HO.lst (((u.take i).map one).map V.str++[V.str #[[c.toNat].toArray]]))=Fa (HO.lst (((u.take i++[c]).map one).map V.str))
    rw[GS,GS]
    rfl
  ·rintro H' ⟨s1,SH⟩
   rw[fG,Ko] at SH;refine#[_,D,u.map one,Gc,Gc, .inl (cC.of SH),?_,?_]
   ·have e:((u.map one).map (·.length)).sum=u.length:=by
     rw[JA];clear hS Nr hw q SH s1 sm
     induction u with
     |nil=>rfl
     |cons c r ih=>rw[FC,YW,ih,Fj];show 1+r.length=_;lia
    rw[e];show u.length+(u.map one).length*0<=16777216;lia
   ·rw[Ay]
    exact q H' s1
 ·refine bN #[Gc,_,Gc,?_]
  rw[cj];exact cc #[l,u,Gc,hS,hd,q H (aW.refl H)]
 ·refine bN #[Gc,_,Gc,?_]
  rw[cj];refine bN #[Gc,_,Gc,?_];rw[cj];refine cc #[l,_,Gc, .inl #[hS,λt ht=>?_]];refine#[a.JR,t,u.map kb,dW,_,Gc,kS,Gc,by rw[ae,aaO],(by rw[rS,E7 hs]),q _ (a0 ht)]
 ·refine bN #[Gc,_,Gc,?_]
  rw[cj];refine bN #[Gc,_,Gc,?_];rw[cj];exact bN (q H (aW.refl H))
end
section
open Vbemac (valueOf)
def B3 (k v l c:V):EV (FD×V):=HN "column" c (HN "line" l (HN "value" v (HN "kind" k [])))
def h9:Gs->Int
 | .word _=>0
 | .num _=>1
 | .sign _=>2
 | .eof=>3
 | .bad=>4
def ii:Gs->V
 | .word u=> .str (sb u)
 | .num n=> .int (n:Fm)
 | .sign u=> .str (dI u)
 | .eof=> .str (sb [])
 | .bad=> .str (sb [])
inductive fV (C:E4) (H:Hp) (p:E4) (x:Gs×Gh):Prop
 |mk (dx:E4) (_:H p=Fa (.ins C dx (B3 (.int (h9 x.1)) (ii x.1) (.int (x.2.1:Fm)) (.int (x.2.2:Fm))))):fV C H p x
inductive Ye (C:E4) (vs:EV V) (H:Hp) (Q:VK) (_E:XK):Prop
 |mk (p dx:E4) (k v l c:V) (_:vs=[.ref p,k,v,l,c]) (_:H p=Fa (.ins C dx [])) (_: ∀H':Hp,H' p=Fa (.ins C dx (B3 k v l c))->(∀b o,H b=Fa o->b≠p->H' b=Fa o)->Q .Iw H'):Ye C vs H Q _E
theorem C6 (c:IP):uj (.int (nb c)) [.int 9, .int 10, .int 13, .int 32]=RW c:=mS (p:=λc=>uj (.int (nb c)) [.int 9, .int 10, .int 13, .int 32]=RW c) [00] c
inductive BP (K:E1) (C:E4) (vs:EV V) (H:Hp) (Q:VK) (_E:XK):Prop
 |mk (l:E4) (bs:EW) (_:vs=[.ref l]) (_:cC K H l (jM bs)) (_:bs.length<=3000) (_: ∀(H':Hp) (q:E4) (as:EV E4),aW H H'->H q=S8->H' q=Fa (.lst (as.map V.ref))->Paired (fV C H') as (GJ bs)->Q (.ref q) H'):BP K C vs H Q _E
theorem fV.keep {H H':Hp}(h:fV C H p x) (k: ∀b o,H b=Fa o->(∀xs,o≠ .lst xs)->H' b=Fa o):fV C H' p x:=by
 obtain⟨dx,e⟩:=h;exact#[dx,k _ _ e λxs z=>nomatch z]
theorem gm {α β:Type}{F:α->β->Prop} : ∀ {l:EV α}{m:EV β}{x:α}{y:β},Paired F l m->F x y->Paired F (l++[x]) (m++[y])
 |_,_,_,_, .nil,h=> .cons h .nil
 |_,_,_,_, .cons r t,h=> .cons r (gm t h)
def Yf (k:Int) (u:EW) (v:V):Prop:=(k=0/\(∀c∈u,bR c=FM)/\v= .str (sb u))\/(k=1/\(∀c∈u,Hw c=FM)/\v= .int (valueOf u:Fm))\/(k=2/\u∈Gu/\v= .str (dI u))\/(k=4/\v= .str (sb []))
theorem rj (h:J2 c=FM):bR c=FM:=by unfold bR;rw[h];rfl
theorem Dc {p:IP->Gg} :i<=aZ p bs i:=by unfold aZ;lia
theorem oi {p:IP->Gg}(h:bs[i]?=Fa c) (hp:p c=FM):i<aZ p bs i:=by
 rw[j4 h hp];exact Dc
theorem sk {p:IP->Gg} : ∀c∈part bs i (aZ p bs i),p c=FM:=by
 rw[<-kD];exact rb _
theorem lJ:(part bs i j).length<=bs.length-i:=by
 unfold part;rw[NK,LK];lia
theorem mK (h:bs[i]?=Fa c):i<bA bs i/\bA bs i<=bs.length:=by
 obtain⟨hi,_⟩:=FZ.mp h;have l1:0<(part bs i (i+2)).length:=by unfold part;rw[HI,eZ h];exact Fm.succ_pos _
 have l2:=lJ (bs:=bs) (i:=i) (j:=i+2);unfold bA;split<;>lia
theorem C8 (h:bs[i]?=Fa c) (hb:RW c=FS) (Pp: ¬c=35):i<eQ bs i c/\eQ bs i c<=bs.length/\ ∃y:Gs,iW bs i (eQ bs i c) c=h9 y/\Yf (h9 y) (part bs i (eQ bs i c)) (ii y)/\
  ∀k q,OT (k+1) q (bs.drop i)=if h9 y=4 then [(y,q)] else(y,q)::OT k (q.1,q.2+(eQ bs i c-i)) (bs.drop (eQ bs i c)):=by
 obtain⟨hi,_⟩:=FZ.mp h;unfold eQ iW;cases hl:J2 c with
 |true=>
  rw[E7 rfl,E7 rfl];refine#[oi h (rj hl),nP (Kt hi),?_];by_cases g:aZ bR bs i-i<=24
  ·refine#[.word (part bs i (aZ bR bs i)),E7 g, .inl #[Gc,sk,Gc],λk q=>?_]
   rw[jR h hb Pp hl,E5 (by lia)];exact(E5 (by show¬(0:Int)=4;decide)).symm
  ·refine#[.bad,E5 g, .inr (.inr (.inr #[Gc,Gc])),λk q=>?_]
   rw[jR h hb Pp hl,E7 (by lia)];exact(E7 rfl).symm
 |false=>
  rw[E5 EZ,E5 EZ];cases hd:Hw c with
  |true=>
   rw[E7 rfl,E7 rfl];refine#[oi h hd,nP (Kt hi),?_];by_cases g:18<aZ Hw bs i-i\/pR bs (aZ Hw bs i)=FM
   ·refine#[.bad,E7 g, .inr (.inr (.inr #[Gc,Gc])),λk q=>?_]
    rw[ms h hb Pp hl hd,E7 g];exact(E7 rfl).symm
   ·refine#[.num (valueOf (part bs i (aZ Hw bs i))),E5 g, .inr (.inl #[Gc,sk,Gc]),λk q=>?_]
    rw[ms h hb Pp hl hd,E5 g];exact(E5 (by show¬(1:Int)=4;decide)).symm
  |false=>
   rw[E5 EZ,E5 EZ];refine#[(mK h).1,(mK h).2,?_];by_cases g:part bs i (bA bs i)∈Gu
   ·refine#[.sign (part bs i (bA bs i)),E7 g, .inr (.inr (.inl #[Gc,g,Gc])),λk q=>?_]
    rw[jT h hb Pp hl hd,E7 g];exact(E5 (by show¬(2:Int)=4;decide)).symm
   ·refine#[.bad,E5 g, .inr (.inr (.inr #[Gc,Gc])),λk q=>?_]
    rw[jT h hb Pp hl hd,E5 g];exact(E7 rfl).symm
theorem Yg (h:nb c=nb d):c=d:=Qy.mp (Vj h)
theorem sv:(as++[x]).map V.ref=as.map V.ref++[V.ref x]:=by rw[GS];rfl
theorem Aq {K:E1}{H:Hp}{Q:VK}{E:XK}(ok:Yf k u v) (hS:cC K H l (jM u)) (hl:u.length<=3000) (q: ∀H',aW H H'->Q v H'):Cp K [.int k, .ref l] H Q E:=by
 refine#[k,l,u,Gc,hS,hl,?_];rcases ok with⟨h,g,rfl⟩|⟨h,g,rfl⟩|⟨h,g,rfl⟩|⟨h,rfl⟩
 ·exact .inl #[h,g,q]
 ·exact .inr (.inl #[h,g,q])
 ·exact .inr (.inr (.inl #[h,g,q]))
 ·exact .inr (.inr (.inr #[h,q]))
theorem o0 (T:aU K mg a):T.d_E.U P w mg base 1 (Ye a.IY):=by
 refine T.d_E.F.ok ak9 [03] [02];obtain⟨p,dx,k,v,l,c,rfl,hp,q⟩:=h;refine#[_,(ax (b3 (pv 0) (pv 1) rfl)
   (ax (b3 (pv 0) (pv 2) rfl)
   (ax (b3 (pv 0) (pv 3) rfl)
   (ai (b3 (pv 0) (pv 4) rfl))))),?_]
 have l1:(HN "kind" k []).length<1000:=F9 (cS "kind" k []) [01]
 have l2:(HN "value" v (HN "kind" k [])).length<1000:=F9 (FA (cS "value" v _) (Hu (cS "kind" k []))) [01]
 have l3:(HN "line" l (HN "value" v (HN "kind" k []))).length<1000:=F9 (FA (cS "line" l _) (Hu (FA (cS "value" v _) (Hu (cS "kind" k []))))) [01];refine#[p,_,dx,_,Gc,hp,T.Iv,T.JZ,(by show 0<1000;decide),?_];refine#[p,_,dx,_,Gc,ae,T.Iv,T.Jj,l1,?_];refine#[p,_,dx,_,Gc,ae,T.Iv,T.M6,l2,?_];refine#[p,_,dx,_,Gc,ae,T.Iv,T.LS,l3,?_];refine q _ ae λb o e hb=>?_
 rw[ac hb,ac hb,ac hb,ac hb];exact e
structure ahf (C:E4) (bs:EW) (q:E4) (H H':Hp) (i ln ls:Fm) (as:EV E4):Prop where
 sm:aW H H'
 lst:H' q=Fa (.lst (as.map V.ref))
 ahg:i<=bs.length
 ahh:ls<=i
 rest: ∃(ts:E2) (k:Fm),Paired (fV C H') as ts/\bs.length<i+k/\GJ bs=ts++OT k (ln,i-ls+1) (bs.drop i)/\as.length<=i
theorem xC {H5 H6:Hp}(hx:H6 x=Fa (.ins C dx (B3 (.int (h9 y.1)) (ii y.1) (.int (y.2.1:Fm)) (.int (y.2.2:Fm)))))
  (k: ∀b o,H5 b=Fa o->H6 b=Fa o) (p:Paired (fV C H5) as ts) (nq:x≠q) (hq:H6 q=Fa (.lst (as.map V.ref))):
  Paired (fV C (aF H6 q (.lst ((as++[x]).map V.ref)))) (as++[x]) (ts++[y]):=by
 refine gm (Paired.Np p λb z h=>?_) #[dx,by rw[ac nq];exact hx];refine fV.keep h λb' o e no=>?_;have ne:b'≠q:=λz=>by
  have w1:=k _ _ e;rw[z,hq] at w1;exact no _ (Fs w1).symm
 rw[ac ne];exact k _ _ e
theorem aly (T:aU K mg a) (kS:zH P w K a.JR dW):T.d_i.U P w base 4 (BP K a.IY):=by
 have G_F:=alq (P:=P) (w:=w) (base:=base) T
 have G_I:=alu (P:=P) (w:=w) (base:=base) T kS
 have G_J:=alv (P:=P) (w:=w) (base:=base) T kS
 have G_s:=alx (P:=P) (w:=w) (base:=base) T kS
 have G_E:=o0 (P:=P) (w:=w) (base:=base) T;refine T.d_i.F.ok lW [03] [02];obtain⟨l,bs,rfl,hS,Nr,hQ⟩:=h;refine#[_,(ax (cB (i:=1) lW.nd rfl (GO rfl) (fM ag))
   (ax (cB (i:=2) lW.nd rfl (GO rfl) ak)
   (ax (cB (i:=3) lW.nd rfl (GO rfl) ak)
   (ax (cB (i:=4) lW.nd rfl (GO rfl) ak)
   (ax (iD Kp (a9 ka (pv 4) (bv bB (by rfl) T.JW Hr (aa (pv 0) ag)) (aM _)) (ai (cx (a9 lw (cM bD (pv 0) (pv 4) [002]) (ic (by rfl) T.VZ) rfl) (ax (ld (i:=4) lW.nd rfl (GO rfl) ak kR)
   (ai (cx (a9 b8 (cM bD (pv 0) (bW cV (pv 4) ak) [002]) (aR (by rfl) T.Qc) (aM _)) (ax (ld (i:=2) lW.nd rfl (GO rfl) ak kR)
   (ai (cB (i:=3) lW.nd rfl (GO rfl) (pv 4)))) br))) (ai (cx (a9 b8 (cM bD (pv 0) (pv 4) [002]) (aR (by rfl) T.UY) (aM _)) (ai (cB (i:=4) lW.nd rfl (GO rfl) (aJ G_F [07] (by rfl) T.d_F.c aV (aa (pv 0) (aa (pv 4) ag))))) (ax (cB (i:=5) lW.nd rfl (GO rfl) (aJ G_I [07] (by rfl) T.d_I.c aV (aa (pv 0) (aa (pv 4) ag))))
   (ax (cB (i:=6) lW.nd rfl (GO rfl) (aJ G_J [07] (by rfl) T.d_J.c aV (aa (pv 0) (aa (pv 4) (aa (pv 5) ag)))))
   (ax (bh (r8 Ie Kr Ks jb (pv 1) (aa (gT T.Sq G_E [07] (by rfl) T.Sk T.d_E.c.b .nil aV (aa (pv 6) (aa (aJ G_s [07] (by rfl) T.d_s.c aV (aa (pv 6) (aa (mx rA (pv 0) (i8 (pv 4)) (i8 (pv 5))) ag))) (aa (pv 2) (aa (bW dP (bW cV (pv 4) (pv 3)) ak) ag))))) ag)))
   (ax (cx (a9 b8 (pv 6) (aR (by rfl) T.Pd) (aM _)) (ai (aI (pv 1))) br)
   (ai (cB (i:=4) lW.nd rfl (GO rfl) (pv 5))))))))))))
   (ax (bh (r8 Ie Kr Ks jb (pv 1) (aa (gT T.Sq G_E [07] (by rfl) T.Sk T.d_E.c.b .nil aV (aa (aR (by rfl) T.XJ) (aa dJ (aa (pv 2) (aa (bW dP (bW cV (pv 4) (pv 3)) ak) ag))))) ag)))
   (ai (aI (pv 1))))))))),?_]
 refine#[FI _,λq hq=>#[λm σ H'=> ∃(i ln ls:Fm) (as:EV E4) (v5 v6:Fd V),m=bs.length-i/\σ=[Fa (.ref l),Fa (.ref q),Fa (.int ln),Fa (.int ls),Fa (.int i),v5,v6]/\ahf a.IY bs q H H' i ln ls as,#[_,0,1,0,[],FB,FB,Gc,Gc,#[a0 hq,ae,FI _,Fq _,[],bs.length+1, .nil,by lia,Gc,Fq _]],?_]];rintro m σ H1 ⟨i,ln,ls,as,v5,v6,rfl,rfl,M⟩;have Yh:=M.sm.seq hS;obtain⟨ts,k,pr,hk,tk,asl⟩:=M.rest;have ile:=M.ahg;have alz:=M.ahh;obtain⟨k,rfl⟩: ∃k',k=k'+1:=#[k-1,by lia];have ec:(i:Int)-(ls:Int)+1=((i-ls+1:Fm):Int):=by lia
 refine#[_,_,Gc, .inl Yh,_,_,Gc,Gc,_,Gc,?_];rw[fG];refine aP (λe=>?_) λe=>?_
 ·have lt:i<bs.length:=by have:=FN e;lia
  obtain⟨c,hc⟩: ∃c,bs[i]?=Fa c:=#[_,Hi lt];refine#[λσ' RZ=> ∃(i' ln' ls':Fm) (as':EV E4) (v5' v6':Fd V),i<i'/\σ'=[Fa (.ref l),Fa (.ref q),Fa (.int ln'),Fa (.int ls'),Fa (.int i'),v5',v6']/\ahf a.IY bs q H RZ i' ln' ls' as',?_,?_]
  ·rintro σ' RZ ⟨i',ln',ls',as',v5',v6',lt',rfl,M'⟩
   have:=M'.ahg;exact#[_,by lia,i',ln',ls',as',v5',v6',Gc,Gc,M']
  refine#[_,_,_,_,Gc,Gc,Yh,bw (fA hc),_,_,Gc, .inr T.V1.sq,Gc,Gc,_,Gc,?_];show if uj (.int (nb c)) [.int 9, .int 10, .int 13, .int 32]=FM then _ else _
  rw[C6];refine aP (λhb=>?_) λhb=>?_
  ·refine#[_,Gc,_,_,Gc,Gc,?_]
   refine#[_,_,Gc,Gc,_,_,_,V.int (nb c),Gc,Gc,Yh,(by rw[Int.add_sub_cancel];exact bw (fA hc)),Gc,_,Gc,?_];rw[cj];have lx:=k9 (k:=k) (q:=(ln,i-ls+1)) hc hb;refine aP (λh10=>?_) λh10=>?_
   ·have c10:c=10:=Yg (FN h10)
    refine#[_,Gc,_,_,Gc,Gc,i+1,ln+1,i+1,as,v5,v6,Ht i,Gc,#[M.sm,M.lst,lt,Fq _,ts,k,pr,by lia,?_,by lia]];rw[tk,lx,c10,Qj]
    rfl
   ·have c10: ¬c=10:=λz=>Fv (by rw[z];rfl) (FR h10)
    refine#[i+1,ln,ls,as,v5,v6,Ht i,Gc,#[M.sm,M.lst,lt,Nu alz,ts,k,pr,by lia,?_,by lia]];rw[tk,lx,show i+1-ls+1=i-ls+1+1 by lia];unfold Vbemac.advance;rw[E5 c10]
  ·refine#[_,_,_,_,Gc,Gc,Yh,bw (fA hc),Gc,_,Gc,?_]
   rw[cj];refine aP (λPp=>?_) λPp=>?_
   ·have c35:c=35:=Yg (FN Pp)
    have g:i<aZ eO bs i:=oi hc (by rw[c35];rfl)
    have g2:aZ eO bs i<=bs.length:=nP ile;refine#[l,bs,i,Gc,Yh,ile,aZ eO bs i,ln,ls,as,v5,v6,g,Gc,#[M.sm,M.lst,g2,by lia,ts,k,pr,by lia,?_,by lia]];rw[tk,iB hc hb c35]
    show ts++OT k (ln,i-ls+1+(aZ eO bs i-i)) _=_
    rw[show i-ls+1+(aZ eO bs i-i)=aZ eO bs i-ls+1 by lia]
   ·have c35: ¬c=35:=λz=>Fv (by rw[z];rfl) (FR Pp)
    obtain⟨g,g2,y,ky,vy,lx⟩:=C8 hc hb c35;have lx:=lx k (ln,i-ls+1);refine#[l,bs,i,c,Gc,Yh,hc,λH2 s2=>?_];refine#[l,bs,i,eQ bs i c,c,Gc,s2.seq Yh,hc,Kt g,g2,λH3 s3=>?_];rw[ky];generalize eQ bs i c=en at g g2 vy lx ky ⊢;have s13:aW H1 H3:=s2.trans s3;have hS3:=s13.seq Yh;refine#[.inl #[Gc,_,cC.of (s13 _ _ M.lst)],?_];refine#[_,Gc,_,Gc,_,_,Gc,hS3,λp hp=>?_];rw[nO];refine Aq vy (cC.of ae) ?_ λH4 s4=>?_
    ·have:=lJ (bs:=bs) (i:=i) (j:=en)
     lia
    have s14:aW H1 H4:=s13.trans ((a0 hp).trans s4);refine#[_,_,Gc,Gc,_,_,Gc,Gc,λx dx hx UZ ne=>#[x,dx,_,_,_,_,Gc,ae,λH5 h5 k5=>#[Gc,?_]]]
    have h5:H5 x=Fa (.ins a.IY dx (B3 (.int (h9 y)) (ii y) (.int (ln:Fm)) (.int ((i-ls+1:Fm):Int)))):=by rw[<-ec];exact h5
    have s15:aW H1 H5:=λb o e=>k5 b o (by rw[ac (aj (s14 b o e) hx),ac (aj (s14 b o e) UZ)];exact s14 b o e) (aj (s14 b o e) hx)
    have nq:x≠q:=(aj (s14 _ _ M.lst) hx).symm
    have q5:=s15 _ _ M.lst
    have pn:=xC (y:=(y,ln,i-ls+1)) h5 s15 pr nq q5
    have sm5:aW H (aF H5 q (.lst ((as++[x]).map V.ref))):=λb o e=>by rw[ac (aj e hq)];exact s15 b o (M.sm b o e)
    refine#[q,_,_,Gc,Gc,q5,by rw[Fh];exact F9 (FA asl (FA ile Nr)) [01],?_];rw[<-sv];refine#[Gc,_,Gc,?_];rw[cj];refine aP (λk4=>?_) λk4=>?_
    ·rw[E7 (FN k4)] at lx
     refine(hQ _ q (as++[x]) sm5 hq ae ?_);rw[tk,lx];exact pn
    ·rw[E5 (FR k4)] at lx
     refine#[en,ln,ls,as++[x],_,_,g,Gc,#[sm5,ae,g2,by lia,ts++[(y,ln,i-ls+1)],k,pn,by lia,?_,by rw[Ft,Jm];lia]];rw[tk,lx,Gr];show ts++(y,ln,i-ls+1)::OT k (ln,i-ls+1+(en-i)) _=_;rw[show i-ls+1+(en-i)=en-ls+1 by lia]
     rfl
 ·have lx:=EM (k:=k) (q:=(ln,i-ls+1)) (bs:=bs) (i:=i) (by have:=FR e;lia)
  refine#[.inl #[Gc,_,cC.of M.lst],?_];refine#[_,_,Gc,Gc,_,_,Gc,Gc,λx dx hx UZ ne=>#[x,dx,_,_,_,_,Gc,ae,λH5 h5 k5=>#[Gc,?_]]];have h5:H5 x=Fa (.ins a.IY dx (B3 (.int (h9 .eof)) (ii .eof) (.int (ln:Fm)) (.int ((i-ls+1:Fm):Int)))):=by rw[<-ec];exact h5
  have s15:aW H1 H5:=λb o e=>k5 b o (by rw[ac (aj e hx),ac (aj e UZ)];exact e) (aj e hx)
  have nq:x≠q:=(aj M.lst hx).symm
  have q5:=s15 _ _ M.lst
  have pn:=xC (y:=(.eof,ln,i-ls+1)) h5 s15 pr nq q5
  have sm5:aW H (aF H5 q (.lst ((as++[x]).map V.ref))):=λb o e=>by rw[ac (aj e hq)];exact s15 b o (M.sm b o e)
  refine#[q,_,_,Gc,Gc,q5,by rw[Fh];exact F9 (FA asl (FA ile Nr)) [01],?_];rw[<-sv];refine(hQ _ q (as++[x]) sm5 hq ae ?_);rw[tk,lx];exact pn
end
theorem EA (K:E1):Vg K (.type "Exception") (.type "type") "__init__"=Fa (.val (.builtin "Exception.__init__")):=by kernel_rfl
theorem aaP:typeOf (.type "Exception")=pure (.type "type"):=by kernel_rfl
theorem AE:Manifest.isStub "Exception"=FS:=by decide+kernel
theorem BY:KQ "Exception"=Fa (.type "Exception"):=by decide+kernel
theorem aaQ {H:Hp}{a:E4}(h:H a=Fa o):aF H a o=H:=by
 funext b
 by_cases e:b=a
 ·rw[e,ae,h]
 ·exact ac e
def Ax (C:E4) (i:Fm):TS:=λD σ H=> ∃p,σ[i]?=Fa (Fa (.ref p))/\H p=Fa (qT C p)/\D.nx σ H
theorem um (XC:dz X.K R C fI) (hg:Gl X "Exception") (hm:X.mg "Exception"=FB) (hx:PE X (.Name x p2) (kQ i))
  (Kd:Fy [.Name x p2] X.env=[(FS,eval (.Name x p2) X.env)]:=by rfl) (hs:Lx (.Call (.Attribute (.Name "Exception" p1) "__init__" KZ) [.Name x p2] [] Lu) FB pos.line X.env=pure FS:=by rfl)
  {pl:Sem Gg}(ht:eval (.Call (.Attribute (.Name "Exception" p1) "__init__" KZ) [.Name x p2] [] Lu) X.env=(do
   let ov<-eval (.Name "Exception" p1) X.env
   standAt KZ.atName
   let (f,first)<-holding [ov] (KU ov "__init__" pl)
   NC Lu f first (IE Lu (Fy [.Name x p2] X.env)) (KH Lu (Jd [] X.env))):=by rfl):
  PS X (.Expr (.Call (.Attribute (.Name "Exception" p1) "__init__" KZ) [.Name x p2] [] Lu) pos) (Ax C i):=by
 intro pins s σ H D I h;obtain⟨p,hp,hH,hD⟩:=h;refine wpAny_Expr_any ?_ I.quiet hs;refine Lc (pl:=pl) (kT I hg hm BY ?_) ht;obtain⟨m,Fr⟩:=I.fr;refine PySem.W.method_type Fr I.mod.Vk aaP AE (EA X.K) rfl ?_;have I0:aE X pins σ H { s with toks:=s.toks+1 } :=I.tok _;refine Oo (e:= .Name x p2) (rest:=[]) ?_ (by rw[Kd];rfl) rfl;rw[Kd];refine KR (b9 (hx pins _ σ H (λv H'=>v= .ref p/\H'=H) I0 (m6 #[Gc,Gc] hp)) λu s1 z=>?_);obtain⟨v,H',I1,rv,e1,e2⟩:=z;subst e1 e2;cases rv;refine Lb ?_;obtain⟨h1,g1,d1,t1,V7⟩:=s1;obtain⟨⟨T,hT⟩,_⟩:=I1.Ic _ _ hH;obtain⟨Nn,mN,oI,NR,mR,⟨nm,q,bs,sn,sub,ab,col,dd,k0,k1,k2,k3,k5,hC⟩,_⟩:=XC.at_ h1 I1.Nq;refine Qx (xU QP afK hC hT ?_);have gx:((h1.push (eF [])).update p (Ia (·.setIfInBounds 0 (.ref h1.objs.size)))).get? p=Fa (dh C h1.objs.size):=
  Jn _ (Fl _ hT) rfl
 have J:aE X pins σ (aF H' p (qT C p)) ⟨(h1.push (eF [])).update p (Ia (·.setIfInBounds 0 (.ref h1.objs.size))),g1,d1,t1,V7⟩:=
  I1.write (x:=p) (e:=p) (t':=t1) (by rw[hH];exact G7) (.inl rfl) (λb u hb z=>by rw[GV _ _ (Iu hb)];exact Fl _ z) #[_,gx]
   #[#[_,gx],#[_,gx],λ_ _ ⟨T,z⟩ y=>#[T,y _ z]]
 rw[aaQ hH] at J;exact#[σ,H',J,hD]
section
variable {CX:pw}{sp:Sp}{E:XK}
theorem fg (hg:Gl X x) (hm:X.mg x=Fa (.ref R)) (c:Af X.K R m f) (F:bU X.prog X.w X.K X.mg X.base CX k f fd ps sp) (hr:bX k X.A) (hb:f7 X.K fd ps ds) (hd:aY Rc ds) (hx:dg CX X E) (ha:PA X (e::es) t)
  (RM:(x == [003])=FS:=by decide) (Kd:Fy (e::es) X.env=[001]::Fy es X.env:=by rfl) (MJ:(IE pos (Fy es X.env)).any (·.1)=FS:=by rfl)
  (ht:eval (.Call (.Attribute (.Name x p1) m KZ) (e::es) [] pos) X.env=(do
   let ov<-eval (.Name x p1) X.env
   standAt KZ.atName
   let (f,first)<-holding [ov] (KU ov m pl)
   NC pos f first (IE pos (Fy (e::es) X.env)) (KH pos (Jd [] X.env))):=by rfl):
  PE X (.Call (.Attribute (.Name x p1) m KZ) (e::es) [] pos) (zY sp Rc E t):=by
 rw[01];refine Lc (pl:=pl) (fZ I hg hm ?_ RM) ht;obtain⟨mm,Fr⟩:=I.fr;refine PySem.W.method_of_cls Fr I.mod.Vk c.sp (PySem.W.cls_val Fr I.mod.Vk c.ty c.rd c.fc rfl ?_);have I0:aE X pins σ H { s with toks:=s.toks+1 } :=I.tok _;refine KG (first:=[]) (h₀:=X.base) I.ok.mod.Vk c.kp (b9 (ha pos pins _ σ H _ I0 h) λus s1 ⟨vs,H1,I1,r,q⟩=>#[I1.Nq,?_]) Kd MJ
 exact qK F hr hb hd hx I1 r q
end
theorem jc:("__setattr__":FD)∈cW:=by decide+kernel
theorem pI:("__getattribute__":FD)∈cW:=by decide+kernel
theorem og:("__getattr__":FD)∈cW:=by decide+kernel
theorem XAt.la {R C fI:E4}{B:String}{y:Fd E3}(X:XAt h R C fI) (m:mroOf (.type B)=pure c7) (q:n∈cW) (l:HD (.type B) n=pure y):LA h (.ref R::c7) n y:=by
 obtain⟨_,_,_,_,_,_,_,_,_,_,_,⟨_,_,_,_,_,_,_,_,_,_,_,_,_,hR⟩,nR,qR⟩:=X;exact LA.own hR nR (qR n q) (LA.of m l)
section
variable {X:Cx}{pins:EV (E4×IG)}{σ:St}{H:Hp}{s:E8}{R C fI p d:E4}{f:FD}{y:V}{u:E3}{A:GG}{E:E3->E8->Prop}{Q:MZ->E8->Prop}{fs:EV (FD×V)}{sa owner B:String}
theorem lq {mA:FD->Fd E3}(n:h.Ns1 d mA) (r: ∀g,fU (fs.lookup g) (mA g)) (wi:NQ mA (fs.map (·.1))):cu X.prog X.w H h d (cn d fs):=by
 obtain⟨o,es,ep,e,z⟩:=id n;exact#[#[mA,n,r,wi],#[o,e],λh1 h2 ⟨m,n1,q1⟩ k=>#[m,n1.at k,q1]]
theorem Bg (XC:dz X.K R C fI) (SF:Mm B c7 sa owner) (hf:f∈cW) (hB:HD (.type B) f=pure FB) (I:aE X pins σ H s) (e:H p=Fa (qT C p)) (ry:bo y u)
  (h: ∀d s',H d=FB->aE X pins σ (aF (aF H d (cn d [(f,y)])) p (ki C d p)) s'->Q () s'):FG (model X.prog X.w) A (SS (.ref p) f u) Q E s:=by
 have XA:=XC.at_ _ I.Nq;obtain⟨⟨T,hT⟩,_⟩:=I.Ic _ _ e;obtain⟨h1,g1,d1,t1,V7⟩:=s;obtain⟨Nn,mN,oI,NR,mR,⟨nm,q,bs,sn,sub,ab,col,dd,k0,k1,k2,k3,k5,hC⟩,Vl,Xh,Wv,_⟩:=id XA;refine xq SF hC Vl (Wv _ jc) (XA.la SF.mro jc SF.slot.lookup) hT rfl λtk t=>zN SF hC Vl (Wv _ hf) (XA.la SF.mro hf hB) hT rfl rfl rfl λh' TN k kx kn=>#[Gc,?_]
 have fr:H h1.objs.size=FB:=I.Ic.fresh (Fq _)
 have np:h1.objs.size≠p:=λz=>by rw[z,e] at fr;cases fr
 refine h h1.objs.size _ fr ?_;have gd:(h1.push { cls:= .type "dict",data:= .dict [].toArray }).get? h1.objs.size=Fa { cls:= .type "dict",data:= .dict [].toArray } :=GK _ rfl;have n0:(h1.push { cls:= .type "dict",data:= .dict [].toArray }).Ns h1.objs.size (λ_=>FB):=#[_, [].toArray,_,gd,Gc,(λe he=>Fv he (by simp)),λ_=>rfl]
 have I1:aE X pins σ (aF H h1.objs.size (cn h1.objs.size [])) ⟨h1.push { cls:= .type "dict",data:= .dict [].toArray },g1,d1,TN,V7⟩:=
  I.laid (t':=TN) (λb u z=>Fl _ z) (Fq _) (lq (OQ n0) (λ_=>G7) λg hg=>Fv rfl hg)
 have V8:(h1.push { cls:= .type "dict",data:= .dict [].toArray }).get? p=Fa (dh C T):=Fl _ hT
 have gp:((h1.push { cls:= .type "dict",data:= .dict [].toArray }).update p λo=> { o with dict:=Fa h1.objs.size }).get? p=Fa { dh C T with dict:=Fa h1.objs.size } :=Jn _ V8 rfl
 have I2:aE X pins σ (aF (aF H h1.objs.size (cn h1.objs.size [])) p (ki C h1.objs.size p)) ⟨(h1.push { cls:= .type "dict",data:= .dict [].toArray }).update p λo=> { o with dict:=Fa h1.objs.size },g1,d1,TN,V7⟩:=
  I1.write (x:=p) (e:=p) (t':=TN) (by rw[ac np.symm,e];exact G7) (.inl rfl) (λb u hb z=>by rw[GV _ _ (Iu hb)];exact z) #[_,gp]
   #[#[_,_,gp,Gc,Gc,Gc,Gc],#[_,gp],λ_ _ ⟨o,vs,z,r⟩ k=>#[o,vs,k _ z,r]]
 obtain⟨od,_,_,hod,_⟩:=id kn;have I3:aE X pins σ (aF (aF (aF H h1.objs.size (cn h1.objs.size [])) p (ki C h1.objs.size p)) h1.objs.size (cn h1.objs.size [(f,y)])) ⟨h',g1,d1,TN,V7⟩:=by
  refine I2.write (x:=h1.objs.size) (e:=h1.objs.size) (t':=TN) (by rw[ac np,ae];exact G7) (.inl rfl) (λb v hb z=>?_) #[_,hod] (lq kn (λg=>?_) λg hg=>?_)
  ·by_cases bp:b=p
   ·rw[bp] at z ⊢
    rw[gp] at z;rw[kx,<-z]
   ·rw[GV _ _ (Iu bp)] at z
    refine k b v bp ?_;rcases GI.get?_push_cases z with⟨z1,_⟩|z1
    ·exact Fv z1 hb
    ·exact z1
  ·show fU (Ji g [(f,y)]) (if g=f then Fa u else FB)
   by_cases gf:g=f
   ·rw[gf,E7 rfl]
    simp only[Ji,GN];exact ry
   ·rw[E5 gf,Ji,show(g == f)=FS from beq_eq_false_iff_ne.mpr gf]
    exact G7
  ·by_cases gf:g=f
   ·rw[gf];exact Fb
   ·exact Fv (E5 gf) hg
 have eH:aF (aF (aF H h1.objs.size (cn h1.objs.size [])) p (ki C h1.objs.size p)) h1.objs.size (cn h1.objs.size [(f,y)])=aF (aF H h1.objs.size (cn h1.objs.size [(f,y)])) p (ki C h1.objs.size p):=by
  funext b
  by_cases b1:b=h1.objs.size
  ·rw[b1,ae,ac np,ae]
  ·by_cases b2:b=p
   ·rw[b2,ac np.symm,ae,ae]
   ·rw[ac b1,ac b2,ac b1,ac b2,ac b1]
 rw[eH] at I3;exact I3
theorem CS (XC:dz X.K R C fI) (SF:Mm B c7 sa owner) (hf:f∈cW) (hB:HD (.type B) f=pure FB) (I:aE X pins σ H s) (e:H p=Fa (ki C d p)) (ed:H d=Fa (cn d fs)) (hl:fs.length<1000) (ry:bo y u)
  (h: ∀s',aE X pins σ (aF H d (cn d (HN f y fs))) s'->Q () s'):FG (model X.prog X.w) A (SS (.ref p) f u) Q E s:=by
 have XA:=XC.at_ _ I.Nq;obtain⟨⟨o,vs,x1,x2,x3,x4,x5⟩,_⟩:=I.Ic _ _ e;obtain⟨⟨mA,n,r,wi⟩,_⟩:=I.Ic _ _ ed;obtain⟨h1,g1,d1,t1,V7⟩:=s;obtain⟨Nn,mN,oI,NR,mR,⟨nm,q,bs,sn,sub,ab,col,dd,k0,k1,k2,k3,k5,hC⟩,Vl,Xh,Wv,_⟩:=id XA
 have dp:d≠p:=λz=>by
  obtain⟨o',es,ep,z1,z2,_⟩:=n;rw[z,x1] at z1;have y:=Fs z1;rw[<-y,x4] at z2;cases z2
 have hz:(fs.map (·.1)).length<=1000:=by rw[Fh];lia
 refine xq SF hC Vl (Wv _ jc) (XA.la SF.mro jc SF.slot.lookup) x1 x2 λtk t=>Bu SF hC Vl (Wv _ hf) (XA.la SF.mro hf hB) x1 x2 x3 n wi hz λh' TN k kn=>#[Gc,?_];obtain⟨od,_,_,hod,_⟩:=id kn;refine h _ (I.write (x:=d) (e:=d) (t':=TN) (by rw[ed];exact G7) (.inl rfl) k #[_,hod] (lq kn (λg=>?_) λg hg=>?_))
 ·rw[iQ]
  by_cases gf:g=f
  ·rw[E7 gf,E7 gf];exact ry
  ·rw[E5 gf,E5 gf];exact r g
 ·by_cases gf:g=f
  ·rw[gf];exact(gN f y fs).1
  ·refine(gN f y fs).2 g (wi g λz=>hg ?_)
   show(if g=f then Fa u else mA g)=FB
   rw[E5 gf];exact z
theorem EL {Q:E3->E8->Prop}{φ:GI->Prop}(XC:dz X.K R C fI) (hf:f∈cW) (hB:HD (.type "Exception") f=pure FB) (I:aE X pins σ H s)
  (e: ∃o vs,s.heap.get? p=Fa o/\o.cls= .ref C/\o.dict=Fa d/\o.data= .fields vs) (ed:H d=Fa (cn d fs)) (l:fs.lookup f=Fa v)
  (h: ∀u s',aE X pins σ H s'->bo v u->Q u s'):FG (model X.prog X.w) A (SR (.ref p) f b) Q E s:=by
 have XA:=XC.at_ _ I.Nq;obtain⟨o,vs,x1,x2,x3,x4⟩:=e;obtain⟨⟨mA,n,r,wi⟩,_⟩:=I.Ic _ _ ed;obtain⟨h1,g1,d1,t1,V7⟩:=s;obtain⟨Nn,mN,oI,NR,mR,⟨nm,q,bs,sn,sub,ab,col,dd,k0,k1,k2,k3,k5,hC⟩,Vl,Xh,Wv,_⟩:=id XA
 have dp:d≠p:=λz=>by
  obtain⟨o',es,ep,z1,z2,_⟩:=n;rw[z,x1] at z1;have y:=Fs z1;rw[<-y,x4] at z2;cases z2
 have nc: ∀c,o.data≠ .cls c:=λc z=>by rw[x4] at z;cases z
 have I0:h1.Inst p C mA:=#[o,x1,x2,nc, .inr #[d,x3,dp,n]];obtain⟨u,hu,ru⟩:=fU.some_of (v:=v) (o:=mA f) (by rw[<-l];exact r f);exact Dy CL (XA.la Ig.mro pI afH) (XA.la Ig.mro og afI) (hC) Vl (Wv _ pI) (Wv _ og) (Wv _ hf) (XA.la Ig.mro hf hB) I0 hu (PySem.W.handedOut_of (pB ru)) (h u _ (I.tok _) ru)
end
section
variable {ta tv:TE}
def sX0 (C:E4) (ta tv:TE) (f:FD):TS:=λD σ H=>tv σ H λy H1=>ta σ H1 λx H2=> ∃p,x= .ref p/\H2 p=Fa (qT C p)/\ ∀d,H2 d=FB->D.nx σ (aF (aF H2 d (cn d [(f,y)])) p (ki C d p))
def sX1 (C:E4) (ta tv:TE) (f:FD):TS:=λD σ H=>tv σ H λy H1=>ta σ H1 λx H2=> ∃p d fs,x= .ref p/\H2 p=Fa (ki C d p)/\H2 d=Fa (cn d fs)/\fs.length<1000/\D.nx σ (aF H2 d (cn d (HN f y fs)))
theorem ahi (XC:dz X.K R C fI) (SF:Mm "Exception" c7 sa owner) (hf:f∈cW) (hB:HD (.type "Exception") f=pure FB) (ha:PE X o ta) (hv:PE X J7 tv)
  (hs:Lx J7 (Fa (.Attribute o f Nt)) pos.line X.env=pure FS):PS X (.Assign [.Attribute o f Nt] J7 pos) (sX0 C ta tv f):=by
 intro pins s σ H D I h;refine Md (b9 (hv pins s σ H _ I h) λu s1 ⟨y,H1,I1,ry,q⟩=>b9 (ha pins s1 σ H1 _ I1 q) λov s2 ⟨x,H2,I2,rx,p,ex,ea,q2⟩=>?_) hs;subst ex;obtain rfl:ov=FL p:=rx;exact Bg XC SF hf hB I2 ea ry λd s3 hd I3=>#[σ,_,I3,q2 d hd]
theorem AB (XC:dz X.K R C fI) (SF:Mm "Exception" c7 sa owner) (hf:f∈cW) (hB:HD (.type "Exception") f=pure FB) (ha:PE X o ta) (hv:PE X J7 tv)
  (hs:Lx J7 (Fa (.Attribute o f Nt)) pos.line X.env=pure FS):PS X (.Assign [.Attribute o f Nt] J7 pos) (sX1 C ta tv f):=by
 intro pins s σ H D I h;refine Md (b9 (hv pins s σ H _ I h) λu s1 ⟨y,H1,I1,ry,q⟩=>b9 (ha pins s1 σ H1 _ I1 q) λov s2 ⟨x,H2,I2,rx,p,d,fs,ex,ea,ed,l,q2⟩=>?_) hs;subst ex;obtain rfl:ov=FL p:=rx;exact CS XC SF hf hB I2 ea ed l ry λs3 I3=>#[σ,_,I3,q2]
end
abbrev yj (X:Cx) (pins:EV (E4×IG)) (Ew:E3->E8->Prop):Cx:= { X with pn:=X.pn++pins,xe:=Ew }
abbrev Dj (X:Cx) (a:E4):Cx:= { X with A:=X.A.mark (Fa (.ref a)),calm:=FS,xe:=λ_ _=>False }
section
variable {H:Hp}{Ew:E3->E8->Prop}{a:E4}
theorem AY (I:aE X pins σ H s):aE (yj X pins Ew) [] σ H s:=
 #[#[I.ok.mod,I.ok.kind,I.ok.glob,I.ok.blt,I.ok.above,I.ok.inj,I.ok.has,I.ok.XS,I.ok.hd,I.ok.frames,I.ok.XU,I.ok.exf,I.ok.bs,I.ok.UO,I.ok.Sy,I.ok.SA,I.ok.funs,I.ok.Wn],I.os,I.bare,I.base,I.loc,I.cell,I.free,I.Mb,
  λp hp=>I.pin p (by rw[GL] at hp;exact hp),I.Ic,I.len]
theorem eV (I:aE (yj X pins Ew) Ul σ H s):aE X pins σ H s:=
 #[#[I.ok.mod,I.ok.kind,I.ok.glob,I.ok.blt,I.ok.above,I.ok.inj,I.ok.has,I.ok.XS,I.ok.hd,I.ok.frames,I.ok.XU,I.ok.exf,I.ok.bs,I.ok.UO,I.ok.Sy,I.ok.SA,I.ok.funs,I.ok.Wn],I.os,I.bare,I.base,I.loc,I.cell,I.free,I.Mb,
  λp hp=>I.pin p (LX _ hp),I.Ic,I.len]
theorem wM (I:aE X pins σ H s):aE (Dj X a) pins σ H s:=
 #[#[I.ok.mod,I.ok.kind,I.ok.glob,I.ok.blt,I.ok.above,I.ok.inj,I.ok.has,I.ok.XS,λz=>He z,I.ok.frames,I.ok.XU,I.ok.exf,I.ok.bs,I.ok.UO,I.ok.Sy,I.ok.SA,I.ok.funs,I.ok.Wn],I.os,I.bare,I.base,I.loc,I.cell,I.free,I.Mb,
  I.pin,I.Ic,I.len]
theorem zd (ok:X.Ok) (I:aE (Dj X a) pins σ H s):aE X pins σ H s:=#[ok,I.os,I.bare,I.base,I.loc,I.cell,I.free,I.Mb,I.pin,I.Ic,I.len]
theorem j3 (h:SP (yj X pins Ew) Ul D f s'):SP X pins D f s':=by
 cases f with
 |next=>obtain⟨σ',H',I,q⟩:=h;exact#[σ',H',eV I,q]
 |brk=>obtain⟨σ',H',I,q⟩:=h;exact#[σ',H',eV I,q]
 |cont=>obtain⟨σ',H',I,q⟩:=h;exact#[σ',H',eV I,q]
 |ret u=>obtain⟨v,σ',H',I,r,q⟩:=h;exact#[v,σ',H',eV I,r,q]
theorem xQ (I:aE X pins σ H s) (hn:H a=FB) (z:X.Pz.heap.objs.size<=a) (nl:a≠X.env.locals) (nc: ∀x c,X.env.cells.lookup x=Fa c->c≠a) (np: ∀p∈X.pn++pins,p.1≠a)
  (new:cu X.prog X.w (aF H a o) s.heap a o):aE X pins σ (aF H a o) s:=by
 have ne: ∀b u,H b=Fa u->b≠a:=λb u e y=>by rw[y,hn] at e;cases e
 refine I.step (h':=s.heap) (g':=s.gens) (t':=s.toks) (d':=s.drawn) (ch:=[a]) (λb hb=>?_) (λb o _ _ _ e _=>e) (λb o _ _ _ e _=>#[o.slots,e]) (λb o hb e y=>?_) (λb o _ e=>#[o,e]) (λb xs e=>?_) (λb o u e=>?_) (λb ps e=>#[[].toArray,?_]) (λm y=>y) (λb u e=>?_) I.bare
 ·rw[Fz.mp hb];exact#[.inr z,nl,nc,np]
 ·rw[ac (λy=>hb (by rw[y];exact Fb))];exact y
 ·rw[ac (ne b _ e)];exact e
 ·rw[ac (ne b _ e)];exact e
 ·rw[ac (ne b _ e),e];simp
 ·by_cases hb:b=a
  ·rw[hb,ae] at e
   rw[hb,<-Fs e];exact new
  ·rw[ac hb] at e
   exact(I.Ic b u e).RK (λc v _ q=>q) (λc q=>by rw[ac (ne c _ q)];exact q) λc xs q=>by rw[ac (ne c _ q)];exact q
theorem Aw {m:FD->Fd E3}(I:aE X pins σ H s) (hn:h'.Ns X.env.locals m) (hs:My X.env.locals s.heap h'):aE X pins (IX X.N.length FB) H { s with heap:=h',toks:=t } :=by
 have W:aE X pins (IX X.N.length FB) H s:=I.weak (by rw[Oc];exact I.len.symm) λi v e=>by
  rw[K0] at e;split at e<;>cases e
 have nL: ∀b u,H b=Fa u->b≠X.env.locals:=λb u e y=>by rw[y,I.free] at e;cases e
 obtain⟨ol,_,_,hol,_⟩:=id hn;refine#[W.ok,W.os,W.bare,#[λb o e n hb hx=>?_,λb o e n hb hx=>?_,W.base.free,λb o e hx=>?_,W.base.QX,W.base.QA,W.base.QY],#[m,hn,λi x v _ e _=>?_],λx c e=>?_,W.free,W.Mb,λp hp=>?_,λb u e=>?_,W.len]
 ·exact(hs.2 b (GQ (FQ (FJ e) I.ok.above))).trans (W.base.keep b o e n hb hx)
 ·obtain⟨sl,y⟩:=W.base.slot b o e n hb hx
  exact#[sl,(hs.2 b (GQ (FQ (FJ e) I.ok.above))).trans y]
 ·obtain⟨o',y⟩:=W.base.there b o e hx
  exact#[o',(hs.2 b (GQ (FQ (FJ e) I.ok.above))).trans y]
 ·rw[K0] at e
  split at e<;>cases e
 ·obtain⟨v,o,y,yd⟩:=I.cell x c e
  exact#[v,o,(hs.2 c (I.XX x c e)).trans y,yd]
 ·obtain⟨e1,e2,e3,e4⟩:=I.pin p hp
  exact#[(hs.2 p.1 e3).trans e1,e2,e3,e4]
 ·refine(I.Ic b u e).RK (λc v hc q=>(hs.2 c ?_).trans q) [05] λ_ _ q=>q
  rcases hc with y|y
  ·rw[y];exact nL b u e
  ·exact nL c _ y
end
structure Own (X:Cx) (pins:EV (E4×IG)) (b:E4):Prop where
 z:X.Pz.heap.objs.size<=b
 nl:b≠X.env.locals
 nc: ∀x c,X.env.cells.lookup x=Fa c->c≠b
 np: ∀p∈X.pn++pins,p.1≠b
theorem uY {X:Cx}{pins:EV (E4×IG)}{σ:St}{H:Hp}{s:E8}(I:aE X pins σ H s) (hb:s.heap.objs.size<=b):Own X pins b:=by
 refine#[FA I.sz hb,Lk (FQ I.lt hb),λx c e z=>?_,λp hp z=>?_]
 ·obtain⟨v,q⟩:=I.cell x c e
  exact Fv (FQ q.lt (by rw[z];exact hb)) (HL _)
 ·exact Fv (FQ (FJ (I.pin p hp).1) (by rw[z];exact hb)) (HL _)
def ko (C d a:E4):HO:= .ext λh=> ∃o vs,h.get? a=Fa o/\o.cls= .ref C/\o.dict=Fa d/\o.data= .fields vs
structure Ey (X:Cx) (pins:EV (E4×IG)) (H:Hp) (h:GI) (C d a:E4):Prop where
 own:Own X pins a
 no:H a=FB
 ex: ∃oe vs T oT ts,h.get? a=Fa oe/\oe.cls= .ref C/\oe.dict=Fa d/\oe.data= .fields vs/\vs[1]?=Fa (.ref T)/\T≠a/\H T=FB/\Own X pins T/\h.get? T=Fa oT/\oT.data= .fields ts/\ts[3]?=Fa .none
abbrev alA (X:Cx) (hs:EV ExceptHandler) (Q:Flow->E8->Prop):E3->E8->Prop:=λe s1=>FG (model X.prog X.w) X.A (PU e X.env) (λ_ s2=>FG (model X.prog X.w) X.A (Rq e FB) (λ_ s3=>FG (model X.prog X.w) X.A (handleBy e X.env hs) Q X.xe s3) X.xe s2) X.xe s1
section
variable {Q:Flow->E8->Prop}{Ek:XK}
theorem DU (Kd:X.stack=X.env::X.outer) (RY:X.env.frame=Fa X.env.locals)
  (hh: ∀(C a d:E4) (σ:St) (H:Hp) (s:E8),aE X pins σ H s->Ey X pins H s.heap C d a->Ek (.ref C) (Fa d) H->FG (model X.prog X.w) X.A (handleBy (.ref a) X.env hs) Q X.xe s):
  dg (fY X.prog X.w) (yj X pins (alA X hs Q)) Ek:=by
 intro Ul σ H s e s' I h;obtain⟨C,a,d,H',rfl,os,bare,un,Ic,za,ha,⟨oe,vs,T,oT,ts,x1,x2,x3,x4,x5,x6,x7,x8,x9,x10,x11⟩,hE⟩:=h;have J0:=I.V3 (ch:=[]) os un Ic bare (λb z=>nomatch z)
 have J:aE X pins σ H' s':=eV J0
 have oa:Own X pins a:=uY (eV I) za
 have oT':Own X pins T:=uY (eV I) x6
 have fr:X.A.frames=Fa (X.env::X.outer):=by rw[J.ok.frames,Kd]
 have st:s'.heap.FunFrames X.base (X.env::X.outer):=by rw[<-Kd];exact J.stack
 show FG (model X.prog X.w) X.A (PU (.ref a) X.env) _ _ s'
 refine wX (base:=X.base) fr st RY x1 x4 x5 x7 x9 x10 x11 λh' L=>?_;have ck: ∀b∈[a,T],H' b=FB:=λb hb=>by
  rcases Fi.mp hb with z|z
  ·rw[z];exact ha
  ·rw[Fz.mp z];exact x8
 have fq:(X.env::X.outer).filterMap (·.frame)=rG X.stack:=by rw[Kd];rfl
 rw[fq] at L;have hk:ia X.prog X.w H' h':=λb u e=>by
  refine(J.Ic b u e).RK (λc v hc q=>L.keep c v (λz=>?_) (λz=>?_) q) [05] λ_ _ q=>q
  ·have y:=J.Qu c z
   rcases hc with w1|w1
   ·rw[w1,e] at y;cases y
   ·rw[w1] at y;cases y
  ·have y:=ck c z
   rcases hc with w1|w1
   ·rw[w1,e] at y;cases y
   ·rw[w1] at y;cases y
 have K1:aE X pins σ H' { s' with heap:=h' } :=by
  refine J.call (g':=s'.gens) (t':=s'.toks) (d':=s'.drawn) (ch:=[a,T]) #[λb o e n hb hx=>L.keep b o hb hx e,λb o e n hb hx=>L.slot b o hb hx e,λb o e n hx=>n,λb o e hx=>L.there b o e,λ_ _ e=>e,λ_ _ _ e=>e,λb ps e=>#[[].toArray,by rw[e];simp]] hk J.bare λb hb=>?_;rcases Fi.mp hb with z|z
  ·rw[z];exact#[.inr oa.z,oa.nl,oa.nc,oa.np]
  ·rw[Fz.mp z];exact#[.inr oT'.z,oT'.nl,oT'.nc,oT'.np]
 obtain⟨ws,T2,oT2,ts2,y1,y2,y3,y4,y5,y6,y7⟩:=L.fly;exact hh C a d σ H' _ K1 #[oa,ha,_,ws,T2,oT2,ts2,y1,x2,x3,Gc,y2,y4,J.Ic.fresh y3,uY J y3,y5,y6,y7] hE
end
section
variable {a:E4}{H:Hp}{th:TS}
def Ab (R G C:E4):Prop:=G=C\/G=R
theorem Al (XC:dz X.K R C fI) (hG:Ab R G C) {E:E3->E8->Prop}{Q:Gg->E8->Prop}(I:aE X pins σ H s) (cm:Ey X pins H s.heap C d a) (q:Q FM s):FG M A (excMatches (.ref a) (.ref G)) Q E s:=by
 obtain⟨Nn,mN,oI,NR,mR,⟨nm,qq,bs,sn,sub,ab,col,dd,k0,k1,k2,k3,k5,hC⟩,_,_,_,_,_,⟨nm',qq',bs',sn',amr,ab',ams,Wu,k0',k1',k2',k3',k5',hR⟩,_⟩:=XC.at_ _ I.Nq;obtain⟨oe,vs,T,oT,ts,y1,y2,_⟩:=cm.ex;obtain⟨h1,g1,d1,t1,V7⟩:=s;rcases hG with rfl|rfl
 ·exact wpAny_excMatches_sub_self hC y1 y2 (by rw[Gn];rfl) q
 ·have u1:(FL G::c7).contains (.type "BaseException")=FM:=by rw[Gn];rfl
  have u2:(FL C:: .ref G::c7).contains (.ref G)=FM:=by simp
  have f:=tc_notTuple;unfold excMatches
  repeat (first|(with_reducible refine Gk y1 ?_;rw[y2])|with_reducible refine Gk hR ?_|(with_reducible refine wpAny_isSubtype_exc hR ?_;rw[u1])|(with_reducible refine wpAny_isSubtype_exc hC ?_;rw[u2])|wp_step)
  exact q
theorem uQ {E:E3->E8->Prop}{Q:MZ->E8->Prop}(I:aE X pins σ H s) (cm:Ey X pins H s.heap C d a)
  (h: ∀s',aE X pins σ H s'->(∃o vs,s'.heap.get? a=Fa o/\o.cls= .ref C/\o.dict=Fa d/\o.data= .fields vs)->Q () s'):FG M A (Rq (.ref a) FB) Q E s:=by
 obtain⟨oe,vs,T,oT,ts,y1,y2,y3,y4,y5,y6,y7,y8,y9,y10,y11⟩:=cm.ex;refine wpAny_setFlight_none y1 y4 y5 y9 y10 (Ke.mp y11).1 (h _ (I.turned (it:=T) (t':=s.toks) (λb o hb e=>by rw[GV _ _ (Iu hb)];exact e) y7 y8.nl (.inr y8.z) y8.nc y8.np) ?_);exact#[oe,vs,by show(s.heap.update T _).get? a=_;rw[GV _ _ y6];exact y1,y2,y3,y4]
theorem aaR (XC:dz X.K R C fI) (hG:Ab R G C) (hg:Gl X x) (hm:X.mg x=Fa (.ref G)) (hN:X.N.Nodup) (hi:X.N[i]?=Fa n) (hl:X.env.scope.names.lookup n=Fa .local) (hs:uk (Dj X a) (b0::Uv) th)
  (I:aE X pins σ H s) (cm:Ey X pins H s.heap C d a) (hr:th #[λ_ _=>False,D.rt,λ_ _=>False,λ_ _=>False] ((IX X.N.length FB).set i (Fa (.ref a))) (aF H a (ko C d a)))
  (RM:(x == [003])=FS:=by decide):
  FG (model X.prog X.w) X.A (handleBy (.ref a) X.env [.ExceptHandler (Fa (.Name x np)) (Fa n) (b0::Uv) ahj]) (SP X pins D) X.xe s:=by
 refine wpAny_handleBy_cons (codeAny_handlers_test ?_) (by intro q;cases q);refine fZ (X:=Dj X a) (wM I) hg hm ?_ RM;refine Al XC hG I cm ?_;show Lf _ _ _ _ _;refine codeAny_handlers_suite_as (uQ I cm λs1 I1 e1=>?_);have I2:aE X pins (IX X.N.length FB) H s1:=I1.weak (by rw[Oc];exact I1.len.symm) λi v e=>by
  rw[K0] at e;split at e<;>cases e
 have I3:aE X pins (IX X.N.length FB) (aF H a (ko C d a)) s1:=
  xQ I2 cm.no cm.own.z cm.own.nl cm.own.nc cm.own.np #[e1,#[_,e1.choose_spec.choose_spec.1],λ_ _ ⟨o,vs,z,r⟩ k=>#[o,vs,k _ z,r]]
 refine jN (X:=Dj X a) (v:= .ref a) (wM I3) hN hi (.inl hl) rfl (λs4 I4=>?_) (.inr hl);refine Ip (hs pins s4 _ _ _ I4 hr) (λf s5 z=>?_) λ_ _ z=>z.elim;cases f with
 |next=>obtain⟨_,_,_,z⟩:=z;exact z.elim
 |brk=>obtain⟨_,_,_,z⟩:=z;exact z.elim
 |cont=>obtain⟨_,_,_,z⟩:=z;exact z.elim
 |ret u=>
  obtain⟨v,σ5,H5,I5,r5,q5⟩:=z;obtain⟨m,hn,_⟩:=id I5.loc;refine wpAny_nameGoes hl hn (by rw[I.ok.kind];rfl) λh' m' n' sb=>#[v,_,H5,Aw (zd I.ok I5) n' sb,r5,q5]
end
section
variable {tb th:TS}{Ek:XK}
def aaS (Ek:XK) (m i:Fm) (tb th:TS):TS:=λD σ H=>tb D σ H/\ ∀C d H' a,Ek (.ref C) (Fa d) H'->H' a=FB->
 th #[λ_ _=>False,D.rt,λ_ _=>False,λ_ _=>False] ((IX m FB).set i (Fa (.ref a))) (aF H' a (ko C d a))
theorem Dg (Ek:XK) (Kd:X.stack=X.env::X.outer) (RY:X.env.frame=Fa X.env.locals) (hE: ∀C d H,Ek (.ref C) (Fa d) H-> ∃fI,dz X.K R C fI/\Ab R G C) (hg:Gl X x) (hm:X.mg x=Fa (.ref G)) (hN:X.N.Nodup) (hi:X.N[i]?=Fa n) (hl:X.env.scope.names.lookup n=Fa .local)
  (hb: ∀pins Ew,dg (fY X.prog X.w) (yj X pins Ew) Ek->uk (yj X pins Ew) body tb) (hs: ∀a,uk (Dj X a) (b0::Uv) th) (RM:(x == [003])=FS:=by decide):
  PS X (.Try body [.ExceptHandler (Fa (.Name x np)) (Fa n) (b0::Uv) ahj] [] [] pos) (aaS Ek X.N.length i tb th):=by
 intro pins s σ H D I h;refine wpAny_Try_except ?_;have P:=DU (hs:=[.ExceptHandler (Fa (.Name x np)) (Fa n) (b0::Uv) ahj]) (Q:=SP X pins D) (Ek:=Ek) Kd RY λC a d σ1 H1 s1 I1 cm hE1=>(hE C d H1 hE1).elim λfI ⟨XC,hG⟩=>aaR (D:=D) XC hG hg hm hN hi hl (hs a) I1 cm (h.2 C d H1 a hE1 cm.no) RM
 refine Ip (hb pins _ P [] s σ H D (AY I) h.1) (λf s1 z=>?_) λe s1 z=>z;cases f with
 |next=>exact MV (j3 z)
 |brk=>exact j3 z
 |cont=>exact j3 z
 |ret u=>exact j3 z
def ahk (K:E1) (te:TE) (f:FD):TE:=λσ H Q=>te σ H λx H1=> ∃R C fI a d fs v,dz K R C fI/\x= .ref a/\H1 a=Fa (ko C d a)/\H1 d=Fa (cn d fs)/\fs.lookup f=Fa v/\Q v H1
theorem DC {te:TE}{K:E1}(hK:X.K=K) (hf:f∈cW) (hB:HD (.type "Exception") f=pure FB) (he:PE X e te) (hb:Im e f X.env (eval e X.env)=eval e X.env):PE X (.Attribute e f pos) (ahk K te f):=by
 rw[01];subst hK;refine wm hb (b9 (he pins s σ H _ I h) λu s1 ⟨x,H1,I1,rx,R,C,fI,a,d,fs,v,XC,ex,ea,ed,l,q⟩=>?_);subst ex;obtain rfl:u=FL a:=rx;obtain⟨z,_⟩:=I1.Ic _ _ ea;exact EL (φ:=λ_=>True) XC hf hB I1 z ed l λu' s2 I2 ru=>#[v,H1,I2,ru,q]
end
theorem ow:HD (.type "Exception") "number"=pure FB:=by rw[Ki,IV];kernel_rfl
theorem Aa:HD (.type "Exception") "kind"=pure FB:=by rw[Ki,IV];kernel_rfl
theorem AX:HD (.type "Exception") "line"=pure FB:=by rw[Ki,IV];kernel_rfl
theorem vO:HD (.type "Exception") "column"=pure FB:=by rw[Ki,IV];kernel_rfl
abbrev Cq (n l c:Int):EV (FD×V):=[("number", .int (-3)),("kind", .int n),("line", .int l),("column", .int c)]
abbrev Dp (n:Int):EV (FD×V):=[("number", .int n)]
def ahl:EV V->EV (FD×V)->Prop:=λus fs=> ∃n:Int,us=[.int n]/\fs=Dp n
def aaT:EV V->EV (FD×V)->Prop:=λus fs=> ∃n l c:Int,us=[.int n, .int l, .int c]/\fs=Cq n l c
theorem bP (T:aU K mg a) (XC:dz K a.GW C fI):T.Wq.U P w mg base 1 (dU C ahl):=by
 refine T.Wq.F.ok akS (λvs H Q E h=>?_) [02]
 ·obtain⟨p,us,fs,rfl,⟨n,rfl,rfl⟩,_⟩:=h
  rfl
 ·obtain⟨p,us,fs,rfl,⟨n,rfl,rfl⟩,hp,q⟩:=h
  refine#[_,(ax (um (C:=C) (fI:=fI) XC (by rfl) T.Sw (pv 0))
   (ai (ahi XC Ig [00] ow (pv 0) (pv 1) rfl))),?_]
  exact#[p,Gc,hp,p,Gc,hp,λd hd=>q d hd]
theorem jp (T:aU K mg a) (XC:XT K a):T.d_4.U P w mg base 2 (dU a.HA aaT):=by
 have G:=bP (P:=P) (w:=w) (base:=base) T XC.fc;refine T.d_4.F.ok akT (λvs H Q E h=>?_) [02]
 ·obtain⟨p,us,fs,rfl,⟨n,l,c,rfl,rfl⟩,_⟩:=h
  rfl
 ·obtain⟨p,us,fs,rfl,⟨n,l,c,rfl,rfl⟩,hp,q⟩:=h
  refine#[_,(ax (bh (fg (by rfl) T.HG XC.rm G [07] T.Wq.c.b .nil aV (aa (pv 0) (aa (dL cK ak) ag))))
   (ax (AB XC.fc Ig [00] Aa (pv 0) (pv 1) rfl)
   (ax (AB XC.fc Ig [00] AX (pv 0) (pv 2) rfl)
   (ai (AB XC.fc Ig [00] vO (pv 0) (pv 3) rfl))))),?_]
  refine#[_,Gc,p,_,Dp (-3),Gc,#[-3,Gc,Gc],hp,λd hd=>?_];have np:d≠p:=(aj hp hd).symm;have z:=q d hd;refine#[p,d,_,Gc,ae,by rw[ac np,ae],by show 1<1000;decide,?_];refine#[p,d,_,Gc,by rw[ac np.symm,ae],ae,by show 2<1000;decide,?_];refine#[p,d,_,Gc,by rw[ac np.symm,ac np.symm,ae],ae,by show 3<1000;decide,?_];have eH: ∀f1 f2 f3 f4:EV (FD×V),aF (aF (aF (aF (aF H d (cn d f1)) p (ki a.HA d p)) d (cn d f2)) d (cn d f3)) d (cn d f4)=aF (aF H d (cn d f4)) p (ki a.HA d p):=λf1 f2 f3 f4=>by
   funext b
   by_cases hb:b=d
   ·rw[hb,ae,ac np,ae]
   ·rw[ac hb,ac hb,ac hb]
    by_cases hb2:b=p
    ·rw[hb2,ae,ae]
    ·rw[ac hb2,ac hb,ac hb2,ac hb]
  show Q .Iw _
  rw[eH];exact z
inductive sw:EV FD->EV Stmt->Prop
 |nil:sw [] []
 |cons {f:FD}{fs:EV FD}{ss:EV Stmt}{p1 p2 p3 p4:Pos}(_:sw fs ss):sw (f::fs) (.Assign [.Attribute (.Name "self" p1) f p2] (.Name f p3) p4::ss)
inductive kY (C:E4) (fs:EV FD) (vs:EV V) (H:Hp) (Q:VK) (_E:XK):Prop
 |mk (p dx:E4) (ws:EV V) (_:vs= .ref p::ws) (_:ws.length=fs.length) (_:H p=Fa (.ins C dx [])) (_: ∀H':Hp,H' p=Fa (.ins C dx (fs.zip ws))->(∀b o,H b=Fa o->b≠p->H' b=Fa o)->Q .Iw H'):kY C fs vs H Q _E
theorem uh {f:FD}{v:V} : ∀ {l:EV (FD×V)},(∀x∈l,x.1≠f)->HN f v l=l++[(f,v)]
 |[],_=>rfl
 | (g,x)::r,h=>by
  unfold HN;rw[E5 (h _ Fb),uh λy hy=>h y (E9 _ hy)]
  rfl
theorem D7 {X:Cx}{D:d8}{p dx C:E4}{σ:L2.St}(c:gI X.K C) (h0:X.N[0]?=Fa ("self":FD)) (v0:oS X.env.scope "self") (s0:σ[0]?=Fa (Fa (.ref p))):
  ∀ {fs:EV FD}{ss:EV Stmt},sw fs ss-> ∀ {k:Fm}{ws:EV V}{done:EV (FD×V)}{H:Hp},(∀g∈fs,ao X.K C g/\oS X.env.scope g/\(g == [003])=FS/\(g == ("__classdict__":FD))=FS)->
   (∀i g,fs[i]?=Fa g->X.N[k+i]?=Fa g)->(∀i v,ws[i]?=Fa v->σ[k+i]?=Fa (Fa v))->ws.length=fs.length->(done.map (·.1)++fs).Nodup->done.length+fs.length<1000->H p=Fa (.ins C dx done)->
   (∀H':Hp,H' p=Fa (.ins C dx (done++fs.zip ws))->(∀b o,H b=Fa o->b≠p->H' b=Fa o)->D.nx σ H')->Bd X ss D σ H:=by
 intro fs ss hi
 induction hi with
 |nil=>
  intro k ws done H _ _ _ hl _ _ hp q;refine cf (q H ?_ λb o e _=>e);rw[NJ.mp hl,EV.zip_nil_left,GL];exact hp
 | @cons f fs ss p1 p2 p3 p4 _ ih=>
  intro k ws done H hg hN hw hl nd len hp q;cases ws with
  |nil=>cases hl
  |cons v ws=>
   obtain⟨no,vf,d1,d2⟩:=hg f Fb;refine aQ (b3 (dR h0 v0) (dR (hN 0 f rfl) vf d1 d2) rfl) (m6 (m6 #[p,C,dx,done,Gc,hp,c,no,by lia,?_] s0) (hw 0 v rfl));have nf: ∀x∈done,x.1≠f:=λx hx e=>by
    have:=(Ld.mp nd).2.2 x.1 (KA hx) f Fb;exact this e
   rw[uh nf];refine ih (k:=k+1) (ws:=ws) (done:=done++[(f,v)]) (λg h=>hg g (E9 _ h)) (λi g e=>?_) (λi u e=>?_) (Ra hl) ?_ ?_ ae λH' h1 h2=>?_
   ·rw[Sb,Ku 1];exact hN (i+1) g e
   ·rw[Sb,Ku 1];exact hw (i+1) u e
   ·rw[GS,Gr];exact nd
   ·rw[Ft]
    have:done.length+(fs.length+1)<1000:=len
    show done.length+1+fs.length<1000
    lia
   ·refine q H' ?_ λb o e ne=>h2 b o (by rw[ac ne];exact e) ne
    rw[h1,Gr]
    rfl
theorem cU {x GU:FD}{st:Stmt}{f:E4}{fd:Gb}{C:E4}{fs:EV FD}(F:oU K x GU st f fd) (S:az ("self"::fs) ("self"::fs) (af st)) (c:gI K C) (no: ∀g∈fs,ao K C g) (i:sw fs (be st))
  (hd:(fs.length<1000/\ ∀g∈fs,(g == [003])=FS/\(g == ("__classdict__":FD))=FS):=by decide):bU P w K mg base wH 1 f fd ("self"::fs) (kY C fs):=by
 refine F.ok S (λvs H Q E h=>?_) [02]
 ·obtain⟨p,dx,ws,rfl,h,_⟩:=h
  exact Ga Rv h
 ·obtain⟨p,dx,ws,rfl,hl,hp,q⟩:=h
  have vis: ∀g∈("self":FD)::fs,oS (af st) g:=λg hg=>(S.par g hg).elim .inl λz=> .inr (.inl z)
  have e:L2.start ("self"::fs) (.ref p::ws)=Fa (.ref p)::ws.map Fa:=by
   unfold L2.start;rw[show(("self":FD)::fs).length-(V.ref p::ws).length=0 by rw[Fj,Fj,hl,Qj]];exact GL _
  rw[e];refine D7 (C:=C) (p:=p) (dx:=dx) c rfl (vis _ Fb) rfl i (k:=1) (ws:=ws) (done:=[]) (λg hg=>#[no g hg,vis g (E9 _ hg),hd.2 g hg]) (λi g e=>by rw[Ku];exact e) (λi v e=>?_) hl (F6.mp S.nd).2 (by rw[J5,Kv];exact hd.1) hp λH' h1 h2=>q H' h1 h2;rw[Ku,EV.getElem?_cons_succ,Gf,e]
  rfl
def rD (q kd fn ds bl:E4) (n:Fm):EV (FD×V):=[("tokens", .ref q),("at", .int n),("known", .ref kd),("functions", .ref fn),("desks", .ref ds),("blocks", .ref bl)]
inductive Yi (a:bf) (H:Hp) (q:E4) (n:Fm) (t:E2):Prop
 |mk (as:EV E4) (all:E2) (_:H q=Fa (.lst (as.map V.ref))) (_:Paired (fV a.IY H) as all) (_:all.drop n=t):Yi a H q n t
structure nB (a:bf) (H:Hp) (r q kd fn ds bl:E4) (n:Fm) (t:E2):Prop where
 ins: ∃dr,H r=Fa (.ins a.Gm dr (rD q kd fn ds bl n))
 toks:Yi a H q n t
def oF (C:E4) (E:XK) (H:Hp) (n:Fm) (x:Gh):Prop:= ∀d,H d=FB->E (.ref C) (Fa d) (aF H d (cn d (Cq n x.1 x.2)))
theorem ja {α β:Type}{F:α->β->Prop} : ∀ {l:EV α}{m:EV β}{i:Fm}{y:β},Paired F l m->m[i]?=Fa y-> ∃x,l[i]?=Fa x/\F x y
 |_,_,_,_, .nil,h=>by cases h
 |_,_,0,_, .cons r t,h=>#[_,Gc,by obtain rfl:=Fs h;exact r]
 |_,_,i+1,_, .cons r t,h=>ja (i:=i) t h
theorem yw {α:Type}{l t:EV α}{x:α}(h:l.drop n=x::t):l[n]?=Fa x:=by
 have:=Ga (λz:EV α=>z[0]?) h
 simpa using this
theorem nB.cur {a:bf}{H:Hp}{r q kd fn ds bl:E4}{n:Fm}{x:Gs×Gh}{t:E2}(R:nB a H r q kd fn ds bl n (x::t)):
  ∃(as:EV E4) (p:E4),H q=Fa (.lst (as.map V.ref))/\(as.map V.ref)[n]?=Fa (.ref p)/\fV a.IY H p x:=by
 obtain⟨as,all,h1,h2,h3⟩:=R.toks;obtain⟨p,e,k⟩:=ja h2 (yw h3);exact#[as,p,h1,by rw[Gf,e];rfl,k]
inductive Yj (a:bf) (vs:EV V) (H:Hp) (Q:VK) (E:XK):Prop
 |mk (r q kd fn ds bl:E4) (n:Fm) (x:Gs×Gh) (t:E2) (_:vs=[.ref r]) (_:nB a H r q kd fn ds bl n (x::t)) (_:(x.1= .bad->oF a.HA E H 1 x.2)) (_:(x.1≠ .bad-> ∀p,fV a.IY H p x->Q (.ref p) H)):Yj a vs H Q E
inductive BJ (a:bf) (vs:EV V) (H:Hp) (_Q:VK) (E:XK):Prop
 |mk (r q kd fn ds bl:E4) (n:Fm) (x:Gs×Gh) (t:E2) (m:Fm) (_:vs=[.ref r, .int m]) (_:nB a H r q kd fn ds bl n (x::t)) (_:oF a.HA E H (if x.1= .bad then 1 else m) x.2):BJ a vs H _Q E
theorem qb:h9 x=4 ↔ x= .bad:=by cases x<;>simp [h9]
theorem cT (T:aU K mg a) (XC:XT K a):T.VR.O P w mg base 4 (Yj a):=by
 have G:=jp (P:=P) (w:=w) (base:=base) T XC;refine fQ T.VR.F agH [03] [02];obtain⟨r,q,kd,fn,ds,bl,n,x,t,rfl,R,hb,hg⟩:=h;obtain⟨dr,er⟩:=R.ins;obtain⟨as,p,eq,ep,tp⟩:=R.cur
 have tp':=tp;obtain⟨dx,et⟩:=tp';refine#[_,(ax (cB (i:=1) agH.nd rfl (GO rfl) (cM bD [08] [08] [002]))
   (ax (cx (a9 b8 (ah (pv 1) rfl) (aR (by rfl) T.Pd) (aM _)) (ai (tR eB XC.fc G [07] (by rfl) T.QB T.d_4.c.b (aa (aR (by rfl) T.Q3) (aa (ah (pv 1) rfl) (aa (ah (pv 1) rfl) ag))))) br)
   (ai (aI (pv 1))))),?_]
 refine#[r,_,dr,_,_,Gc,er,T.FV,T.Lr,Gc,r,_,dr,_,_,Gc,er,T.FV,T.Kl,Gc,q,_,n, .ref p,Gc,Gc,cC.of eq,bw ep,?_];refine#[p,_,dx,_,_,Gc,et,T.Iv,T.JZ,Gc,Gc,_,Gc,?_];rw[cj];refine aP (λe=>?_) λe=>?_
 ·have xb:=qb.mp (FN e)
  exact#[p,_,dx,_,_,Gc,et,T.Iv,T.M6,Gc,p,_,dx,_,_,Gc,et,T.Iv,T.LS,Gc,(by show 3<=9;decide),_,#[_,_,_,Gc,Gc],hb xb]
 ·have xb:x.1≠ .bad:=λz=>FR e (qb.mpr z)
  exact(hg xb p tp)
inductive t9 (a:bf) (b:Gs->Gg) (vs:EV V) (H:Hp) (Q:VK) (E:XK):Prop
 |mk (r q kd fn ds bl:E4) (n:Fm) (x:Gs×Gh) (t:E2) (_:vs=[.ref r]) (_:nB a H r q kd fn ds bl n (x::t)) (_:(x.1= .bad->oF a.HA E H 1 x.2)) (_:(x.1≠ .bad->Q (.bl (b x.1)) H)):t9 a b vs H Q E
def lZ (v:FD) (k:Gs):Gg:=decide (ii k= .str v)
inductive CP (a:bf) (vs:EV V) (H:Hp) (Q:VK) (E:XK):Prop
 |mk (r q kd fn ds bl:E4) (n:Fm) (x:Gs×Gh) (t:E2) (v:FD) (_:vs=[.ref r, .str v]) (_:nB a H r q kd fn ds bl n (x::t)) (_:(x.1= .bad->oF a.HA E H 1 x.2)) (_:(x.1≠ .bad->Q (.bl (lZ v x.1)) H)):CP a vs H Q E
def past (a:bf) (H:Hp) (r q kd fn ds bl:E4) (n:Fm) (H':Hp):Prop:= ∃dr,H r=Fa (.ins a.Gm dr (rD q kd fn ds bl n))/\H'=aF H r (.ins a.Gm dr (rD q kd fn ds bl (n+1)))
inductive CQ (a:bf) (vs:EV V) (H:Hp) (Q:VK) (E:XK):Prop
 |mk (r q kd fn ds bl:E4) (n:Fm) (x:Gs×Gh) (t:E2) (_:vs=[.ref r]) (_:nB a H r q kd fn ds bl n (x::t)) (_:(x.1= .bad->oF a.HA E H 1 x.2)) (_:(x.1≠ .bad-> ∀H',past a H r q kd fn ds bl n H'->Q (ii x.1) H')):CQ a vs H Q E
inductive tO (a:bf) (vs:EV V) (H:Hp) (Q:VK) (E:XK):Prop
 |mk (r q kd fn ds bl:E4) (n:Fm) (x:Gs×Gh) (t:E2) (v:FD) (_:vs=[.ref r, .str v]) (_:nB a H r q kd fn ds bl n (x::t)) (_:(x.1= .bad->oF a.HA E H 1 x.2)) (_:(x.1≠ .bad->lZ v x.1=FS->oF a.HA E H 2 x.2)) (_:(x.1≠ .bad->lZ v x.1=FM-> ∀H',past a H r q kd fn ds bl n H'->Q .Iw H')):tO a vs H Q E
inductive wo (a:bf) (vs:EV V) (H:Hp) (Q:VK) (E:XK):Prop
 |mk (r q kd fn ds bl:E4) (n:Fm) (x:Gs×Gh) (t:E2) (v:FD) (_:vs=[.ref r, .str v]) (_:nB a H r q kd fn ds bl n (x::t)) (_:(x.1= .bad->oF a.HA E H 1 x.2)) (_:(x.1≠ .bad->lZ v x.1=FS->Q (.bl FS) H)) (_:(x.1≠ .bad->lZ v x.1=FM-> ∀H',past a H r q kd fn ds bl n H'->Q (.bl FM) H')):wo a vs H Q E
theorem nB.step {a:bf}{H H':Hp}(R:nB a H r q kd fn ds bl n (x::t)) (h:past a H r q kd fn ds bl n H'):nB a H' r q kd fn ds bl (n+1) t:=by
 obtain⟨dr,e,rfl⟩:=h;obtain⟨as,all,h1,h2,h3⟩:=R.toks;refine#[#[dr,ae],as,all,?_,Paired.Np h2 λb z k=>?_,?_]
 ·have ne:q≠r:=λz=>by rw[z,e] at h1;cases h1
  rw[ac ne];exact h1
 ·obtain⟨dx,ez⟩:=k
  have ne:b≠r:=λz=>by
   rw[z,e] at ez;have:=Ga Ou (HO.ins.inj (Fs ez)).2.2;cases this
  exact#[dx,by rw[ac ne];exact ez]
 ·have:=Ga (EV.drop 1) h3
  rw[Ot] at this;exact this
theorem Aj:aai (ii x) (.str v)=FM:=by cases x<;>rfl
def lT:Gs->Gg
 | .num _=>FM
 |_=>FS
def Ci:Gs->Gg
 | .eof=>FM
 |_=>FS
theorem fJ (T:aU K mg a) (XC:XT K a):T.VS.O P w mg base 5 (BJ a):=by
 have G:=jp (P:=P) (w:=w) (base:=base) T XC
 have TR:=cT (P:=P) (w:=w) (base:=base) T XC;refine fQ T.VS.F agI [03] [02];obtain⟨r,q,kd,fn,ds,bl,n,x,t,m,rfl,R,hf⟩:=h;obtain⟨dr,er⟩:=R.ins;refine#[_,(ax (cB (i:=2) agI.nd rfl (GO rfl) (bS (pv 0) T.FV T.VR.c TR [07] aA))
   (ai (tR eB XC.fc G [07] (by rfl) T.QB T.d_4.c.b (aa (pv 1) (aa (ah (pv 2) rfl) (aa (ah (pv 2) rfl) ag)))))),?_]
 refine#[r,dr,_,Gc,er,Gc,r,q,kd,fn,ds,bl,n,x,t,Gc,R,λb=>by rw[E7 b] at hf;exact hf,λnb p tp=>?_];rw[E5 nb] at hf;obtain⟨dx,et⟩:=tp;exact#[p,_,dx,_,_,Gc,et,T.Iv,T.M6,Gc,p,_,dx,_,_,Gc,et,T.Iv,T.LS,Gc,(by show 3<=9;decide),_,#[_,_,_,Gc,Gc],hf]
theorem mv (T:aU K mg a) (XC:XT K a):T.d_p.O P w mg base 5 (CP a):=by
 have TR:=cT (P:=P) (w:=w) (base:=base) T XC;refine fQ T.d_p.F alc [03] [02];obtain⟨r,q,kd,fn,ds,bl,n,x,t,v,rfl,R,hb,hg⟩:=h;obtain⟨dr,er⟩:=R.ins;refine#[_,(ai (aI (ca b8 (ah (bS (pv 0) T.FV T.VR.c TR [07] aA) rfl) (pv 1) (aM _)))),?_];refine#[r,dr,_,Gc,er,Gc,r,q,kd,fn,ds,bl,n,x,t,Gc,R,hb,λnb p tp=>?_]
 obtain⟨dx,et⟩:=tp;exact#[p,_,dx,_,_,Gc,et,T.Iv,T.Jj,Gc,Aj,hg nb]
theorem zj (T:aU K mg a) (XC:XT K a):T.ZH.O P w mg base 5 (t9 a Ci):=by
 have TR:=cT (P:=P) (w:=w) (base:=base) T XC;refine fQ T.ZH.F agJ [03] [02];obtain⟨r,q,kd,fn,ds,bl,n,x,t,rfl,R,hb,hg⟩:=h;obtain⟨dr,er⟩:=R.ins;refine#[_,(ai (aI (ca b8 (ah (bS (pv 0) T.FV T.VR.c TR [07] aA) rfl) (aR (by rfl) T.XJ) (aM _)))),?_];refine#[r,dr,_,Gc,er,Gc,r,q,kd,fn,ds,bl,n,x,t,Gc,R,hb,λnb p tp=>?_]
 obtain⟨dx,et⟩:=tp;refine#[p,_,dx,_,_,Gc,et,T.Iv,T.JZ,Gc,Gc,?_];have z:=hg nb;rw[cj];have e:decide (h9 x.1=3)=Ci x.1:=by cases x.1<;>rfl
 rw[e];exact z
theorem rC (T:aU K mg a) (XC:XT K a):T.ZI.O P w mg base 5 (t9 a lT):=by
 have TR:=cT (P:=P) (w:=w) (base:=base) T XC;refine fQ T.ZI.F agK [03] [02];obtain⟨r,q,kd,fn,ds,bl,n,x,t,rfl,R,hb,hg⟩:=h;obtain⟨dr,er⟩:=R.ins;refine#[_,(ai (aI (ca b8 (ah (bS (pv 0) T.FV T.VR.c TR [07] aA) rfl) (aR (by rfl) T.Pc) (aM _)))),?_];refine#[r,dr,_,Gc,er,Gc,r,q,kd,fn,ds,bl,n,x,t,Gc,R,hb,λnb p tp=>?_]
 obtain⟨dx,et⟩:=tp;refine#[p,_,dx,_,_,Gc,et,T.Iv,T.JZ,Gc,Gc,?_];have z:=hg nb;rw[cj];have e:decide (h9 x.1=1)=lT x.1:=by cases x.1<;>rfl
 rw[e];exact z
theorem qX (T:aU K mg a) (XC:XT K a):T.d_t.O P w mg base 5 (CQ a):=by
 have TR:=cT (P:=P) (w:=w) (base:=base) T XC;refine fQ T.d_t.F agN [03] [02];obtain⟨r,q,kd,fn,ds,bl,n,x,t,rfl,R,hb,hg⟩:=h;obtain⟨dr,er⟩:=R.ins;refine#[_,(ax (cB (i:=1) agN.nd rfl (GO rfl) (bS (pv 0) T.FV T.VR.c TR [07] aA))
   (ax (gD (pv 0) ak mP)
   (ai (aI (ah (pv 1) rfl))))),?_]
 refine#[r,dr,_,Gc,er,Gc,r,q,kd,fn,ds,bl,n,x,t,Gc,R,hb,λnb p tp=>?_];obtain⟨dx,et⟩:=tp;have ne:p≠r:=λz=>by
  rw[z,er] at et;have:=Ga Ou (HO.ins.inj (Fs et)).2.2;cases this
 refine#[r,_,dr,_,_,Gc,er,T.FV,T.Kl,Gc,_,_,Gc,Gc,dr,_,er,(by show 6<1000;decide),?_];exact#[p,_,dx,_,_,Gc,(by rw[ac ne];exact et),T.Iv,T.Jj,Gc,hg nb _ #[dr,er,Gc]]
def aaU:EV V:=[.str "const", .str "fun", .str "desk", .str "let", .str "for", .str "in", .str "if", .str "then", .str "else", .str "sell", .str "buy", .str "zone", .str "quarter", .str "price", .str "to", .str "amount", .str "block", .str "under", .str "group", .str "sum"]
def cP:Gs->Gg
 | .word u=>!uj (.str (sb u)) aaU
 |_=>FS
inductive BH (a:bf) (vs:EV V) (H:Hp) (Q:VK) (E:XK):Prop
 |mk (r q kd fn ds bl:E4) (n:Fm) (x:Gs×Gh) (t:E2) (_:vs=[.ref r]) (_:nB a H r q kd fn ds bl n (x::t)) (_:(x.1= .bad->oF a.HA E H 1 x.2)) (_:(x.1≠ .bad->cP x.1=FS->oF a.HA E H 2 x.2)) (_:(x.1≠ .bad->cP x.1=FM->Q .Iw H)):BH a vs H Q E
inductive xf (a:bf) (vs:EV V) (H:Hp) (Q:VK) (E:XK):Prop
 |mk (r q kd fn ds bl:E4) (n:Fm) (x y:Gs×Gh) (t:E2) (_:vs=[.ref r]) (_:nB a H r q kd fn ds bl n (x::y::t)) (_:Q (.bl (lT y.1)) H):xf a vs H Q E
theorem xR (T:aU K mg a) (XC:XT K a):T.ZK.O P w mg base 6 (tO a):=by
 have G_p:=mv (P:=P) (w:=w) (base:=base) T XC
 have U1:=fJ (P:=P) (w:=w) (base:=base) T XC;refine fQ T.ZK.F agO [03] [02];obtain⟨r,q,kd,fn,ds,bl,n,x,t,v,rfl,R,hb,hf,hg⟩:=h;obtain⟨dr,er⟩:=R.ins;refine#[_,(ax (cx (lf (cZ (cy (pv 0) T.FV T.d_p.c G_p [07] aA (aa (pv 1) ag)))) (ai (bh (cy (pv 0) T.FV T.VS.c U1 [07] aA (aa (aR (by rfl) T.OK) ag)))) br)
   (ai (gD (pv 0) ak mP))),?_]
 refine#[r,dr,_,Gc,er,Gc,r,q,kd,fn,ds,bl,n,x,t,v,Gc,R,hb,λnb=>#[_,Gc,?_]];cases e:lZ v x.1 with
 |false=>
  refine cc ?_;exact#[r,dr,_,Gc,er,Gc,r,q,kd,fn,ds,bl,n,x,t,2,Gc,R,by rw[E5 nb];exact hf nb e]
 |true=>
  refine bN ?_;exact#[r,_,dr,_,_,Gc,er,T.FV,T.Kl,Gc,_,_,Gc,Gc,dr,_,er,(by show 6<1000;decide),hg nb e _ #[dr,er,Gc]]
theorem nD (T:aU K mg a) (XC:XT K a):T.d_X.O P w mg base 5 (t9 a cP):=by
 have TR:=cT (P:=P) (w:=w) (base:=base) T XC;refine fQ T.d_X.F agL [03] [02];obtain⟨r,q,kd,fn,ds,bl,n,x,t,rfl,R,hb,hg⟩:=h;obtain⟨dr,er⟩:=R.ins;refine#[_,(ax (cB (i:=1) agL.nd rfl (GO rfl) (bS (pv 0) T.FV T.VR.c TR [07] aA))
   (ai (aI (oG (ca b8 (ah (pv 1) rfl) (aR (by rfl) T.TB) (aM _)) (jx (ca jV (ah (pv 1) rfl) (ic (by rfl) T.Ss) rfl)))))),?_]
 refine#[r,dr,_,Gc,er,Gc,r,q,kd,fn,ds,bl,n,x,t,Gc,R,hb,λnb p tp=>?_];obtain⟨dx,et⟩:=tp;have z:=hg nb;refine#[p,_,dx,_,_,Gc,et,T.Iv,T.JZ,Gc,Gc,_,Gc,?_];rw[cj];cases e:x.1 with
 |word u=>
  rw[e] at z et;refine cc ?_;refine#[p,_,dx,_,_,Gc,et,T.Iv,T.Jj,Gc,_,_,Gc, .inr T.Sv.sq,Gc,Gc,z]
 |num m=>rw[e] at z;exact bN z
 |sign u=>rw[e] at z;exact bN z
 |eof=>rw[e] at z;exact bN z
 |bad=>exact Fv e nb
theorem hX (T:aU K mg a) (XC:XT K a):T.d_z.O P w mg base 6 (BH a):=by
 have G_X:=nD (P:=P) (w:=w) (base:=base) T XC
 have U1:=fJ (P:=P) (w:=w) (base:=base) T XC;refine fQ T.d_z.F ald [03] [02];obtain⟨r,q,kd,fn,ds,bl,n,x,t,rfl,R,hb,hf,hg⟩:=h;obtain⟨dr,er⟩:=R.ins;refine#[_,(ai (cx (lf (cZ (bS (pv 0) T.FV T.d_X.c G_X [07] aA))) (ai (bh (cy (pv 0) T.FV T.VS.c U1 [07] aA (aa (aR (by rfl) T.OK) ag)))) br)),?_];refine#[r,dr,_,Gc,er,Gc,r,q,kd,fn,ds,bl,n,x,t,Gc,R,hb,λnb=>#[_,Gc,?_]]
 cases e:cP x.1 with
 |false=>
  refine cc ?_;exact#[r,dr,_,Gc,er,Gc,r,q,kd,fn,ds,bl,n,x,t,2,Gc,R,by rw[E5 nb];exact hf nb e]
 |true=>exact bN (hg nb e)
theorem kG (T:aU K mg a):T.ZJ.U P w mg base 1 (xf a):=by
 refine T.ZJ.F.ok agM [03] [02];obtain⟨r,q,kd,fn,ds,bl,n,x,y,t,rfl,R,z⟩:=h;obtain⟨dr,er⟩:=R.ins;obtain⟨as,all,h1,h2,h3⟩:=R.toks;have h4:all[n+1]?=Fa y:=by
  have:=Ga (λz:E2=>z[1]?) h3
  simpa [Ku] using this
 obtain⟨p,e,dx,et⟩:=ja h2 h4;have ep:(as.map V.ref)[n+1]?=Fa (.ref p):=by rw[Gf,e];rfl
 refine#[_,(ai (aI (ca b8 (ah (cM bD [08] (bW dP [08] ak) [002]) rfl) (aR (by rfl) T.Pc) (aM _)))),?_];refine#[r,_,dr,_,_,Gc,er,T.FV,T.Lr,Gc,r,_,dr,_,_,Gc,er,T.FV,T.Kl,Gc,_,_,Gc,Gc,q,_,((n+1:Fm):Int), .ref p,Gc,Gc,cC.of h1,bw ep,p,_,dx,_,_,Gc,et,T.Iv,T.JZ,Gc,Gc,?_];rw[cj];have e:decide (h9 y.1=1)=lT y.1:=by cases y.1<;>rfl
 rw[e];exact z
abbrev nk (u:EW):a8:=HQ (sb u)
def has (aD:EV (a8×V)) (u:EW):Gg:=(bO aD (nk u)).isSome
inductive BG (a:bf) (vs:EV V) (H:Hp) (Q:VK) (E:XK):Prop
 |mk (r q kd fn ds bl:E4) (n:Fm) (x:Gs×Gh) (t:E2) (kk ff:EV (a8×V)) (_:vs=[.ref r]) (_:nB a H r q kd fn ds bl n (x::t)) (_:H kd=Fa (.dK kk)) (_:H fn=Fa (.dK ff)) (_:(x.1= .bad->oF a.HA E H 1 x.2)) (_:(x.1≠ .bad->cP x.1=FS->oF a.HA E H 2 x.2)) (_:(∀u,x.1= .word u->cP x.1=FM->(has kk u||has ff u)=FM->oF a.HA E H 4 x.2)) (_:(∀u,x.1= .word u->cP x.1=FM->(has kk u||has ff u)=FS-> ∀H',past a H r q kd fn ds bl n H'->Q (.str (sb u)) H')):BG a vs H Q E
inductive vZ (a:bf) (vs:EV V) (H:Hp) (Q:VK) (E:XK):Prop
 |mk (r q kd fn ds bl g:E4) (n:Fm) (x:Gs×Gh) (t:E2) (gg:EV (a8×V)) (_:vs=[.ref r, .ref g]) (_:nB a H r q kd fn ds bl n (x::t)) (_:H g=Fa (.dK gg)) (_:(x.1= .bad->oF a.HA E H 1 x.2)) (_:(x.1≠ .bad->cP x.1=FS->oF a.HA E H 2 x.2)) (_:(∀u,x.1= .word u->cP x.1=FM->has gg u=FM->oF a.HA E H 4 x.2)) (_:(∀u,x.1= .word u->cP x.1=FM->has gg u=FS-> ∀H',past a H r q kd fn ds bl n H'->Q (.str (sb u)) H')):vZ a vs H Q E
inductive wv (a:bf) (vs:EV V) (H:Hp) (Q:VK) (_E:XK):Prop
 |mk (r dr q kd fn ds bl:E4) (n:Fm) (u:EW) (kk:EV (a8×V)) (_:vs=[.ref r, .str (sb u)]) (_:H r=Fa (.ins a.Gm dr (rD q kd fn ds bl n))) (_:H kd=Fa (.dK kk)) (_:kk.length<FP) (_:Q .Iw (aF H kd (.dK (dy kk (nk u) (.bl FM))))):wv a vs H Q _E
inductive rX (a:bf) (vs:EV V) (H:Hp) (Q:VK) (_E:XK):Prop
 |mk (r dr q kd fn ds bl:E4) (n:Fm) (u:EW) (kk:EV (a8×V)) (_:vs=[.ref r, .str (sb u)]) (_:H r=Fa (.ins a.Gm dr (rD q kd fn ds bl n))) (_:H kd=Fa (.dK kk)) (_:has kk u=FM) (_:Q .Iw (aF H kd (.dK (fE kk (nk u))))):rX a vs H Q _E
theorem zV (T:aU K mg a):T.ZO.U P w mg base 1 (wv a):=by
 refine T.ZO.F.ok agR [03] [02];obtain⟨r,dr,q,kd,fn,ds,bl,n,u,kk,rfl,er,ek,lk,hq⟩:=h;refine#[_,(ai (hZ (dn hr) [08] (pv 1) tG rfl)),?_];exact#[r,_,dr,_,_,Gc,er,T.FV,T.JV,Gc,kd,_,Gc,ug.k (k:=nk u) ek lk,hq]
theorem pU (T:aU K mg a):T.WO.U P w mg base 1 (rX a):=by
 refine T.WO.F.ok agS [03] [02];obtain⟨r,dr,q,kd,fn,ds,bl,n,u,kk,rfl,er,ek,hk,hq⟩:=h;obtain⟨v,ev⟩:=Ky.mp hk;refine#[_,(ai (bh (AU [08] (pv 1) #[Gc,Gc,Gc,Gc]))),?_];exact#[r,_,dr,_,_,Gc,er,T.FV,T.JV,Gc,kd,Gc, .inl #[kk, .inl ek],kk,nk u,v,ek,Gc,ev,hq]
theorem jP (T:aU K mg a) (XC:XT K a):T.ZM.O P w mg base 7 (BG a):=by
 have G_z:=hX (P:=P) (w:=w) (base:=base) T XC
 have TR:=cT (P:=P) (w:=w) (base:=base) T XC
 have U1:=fJ (P:=P) (w:=w) (base:=base) T XC
 have G_t:=qX (P:=P) (w:=w) (base:=base) T XC;refine fQ T.ZM.F Yc [03] [02];obtain⟨r,q,kd,fn,ds,bl,n,⟨x,xp⟩,t,kk,ff,rfl,R,ek,ef,hb,hn,h4,hg⟩:=h;obtain⟨dr,er⟩:=R.ins;refine#[_,(ax (bh (bS (pv 0) T.FV T.d_z.c G_z [07] aA))
   (ax (cB (i:=1) Yc.nd rfl (GO rfl) (ah (bS (pv 0) T.FV T.VR.c TR [07] aA) rfl))
   (ax (cx (wP (fD (nZ (dn hr) (pv 1) [08])) (qJ (fD (nZ (dn hr) (pv 1) [08])))).pt (ai (bh (cy (pv 0) T.FV T.VS.c U1 [07] aA (aa (aR (by rfl) T.OL) ag)))) br)
   (ai (aI (bS (pv 0) T.FV T.d_t.c G_t [07] aA)))))),?_]
 refine#[r,dr,_,Gc,er,Gc,r,q,kd,fn,ds,bl,n,(x,xp),t,Gc,R,hb,hn,λnb e=>?_];cases x with
 |word u=>
  refine#[r,dr,_,Gc,er,Gc,r,q,kd,fn,ds,bl,n,(.word u,xp),t,Gc,R,hb,λ_ p ⟨dx,et⟩=>#[p,_,dx,_,_,Gc,et,T.Iv,T.Jj,Gc,?_]];have ahm:(has kk u||has ff u)=FM->oF a.HA E H 4 xp:=h4 u rfl e
  have good:(has kk u||has ff u)=FS-> ∀H',past a H r q kd fn ds bl n H'->Q (.str (sb u)) H':=hg u rfl e
  refine#[r,_,dr,_,_,Gc,er,T.FV,T.JV,Gc,kd,_,Gc,gy.k (k:=nk u) ek,_,Gc,aP (λe1=>?_) λe1=>?_]
  ·refine cc ?_
   refine#[r,dr,_,Gc,er,Gc,r,q,kd,fn,ds,bl,n,(.word u,xp),t,4,Gc,R,?_];rw[E5 nb];exact ahm (by unfold has;rw[e1];rfl)
  ·refine#[r,_,dr,_,_,Gc,er,T.FV,T.Iy,Gc,fn,_,Gc,gy.k (k:=nk u) ef,_,Gc,aP (λe2=>?_) λe2=>?_]
   ·refine#[r,dr,_,Gc,er,Gc,r,q,kd,fn,ds,bl,n,(.word u,xp),t,4,Gc,R,?_]
    rw[E5 nb];exact ahm (by unfold has;rw[e1,e2];rfl)
   ·exact#[r,dr,_,Gc,er,Gc,r,q,kd,fn,ds,bl,n,(.word u,xp),t,Gc,R,hb,λ_=>good (by unfold has;rw[e1,e2];rfl)]
 |num m=>cases e
 |sign u=>cases e
 |eof=>cases e
 |bad=>exact Fv rfl nb
theorem uA:gG X (.type "dict") (λxs H Q=> ∃a aD,xs=[.ref a]/\Di X.prog X.w X.K a aD/\ ∀p,H p=FB->Q (.ref p) (aF H p (.dK aD))):=by
 intro pins s σ H xs us Q I rv h;obtain⟨a,aD,rfl,kd,q⟩:=h;obtain⟨u,rfl,ru⟩:=rv.one;obtain rfl:u=FL a:=ru;obtain⟨vs,dd,rel⟩:=kd.at_;refine kt_call_dict kd.no (dd _ I.Nq) (by rw[<-rel.length];exact kd.len) λh' Wu hs=>?_;refine#[.ref s.heap.objs.size,_,I.laid (a:=s.heap.objs.size) (o:= .dK aD) (t':=s.toks) (λb q hq=>?_) (Fq _) (uE kd.len (beq_eq_false_iff_ne.mpr (Iu (GQ I.big))) rel Wu),Gc,q _ (I.Ic.fresh (Fq _))];exact(hs.2 b (GQ (FJ hq))).trans (Fl _ hq)
structure aaV (a:bf) (H H':Hp) (r dr q kd fn ds bl:E4):Prop where
 ins:H' r=Fa (.ins a.Gm dr (rD q kd fn ds bl 0))
 kd0:H kd=FB
 fn0:H fn=FB
 ds0:H ds=FB
 bl0:H bl=FB
 kd1:H' kd=Fa (.dK [])
 fn1:H' fn=Fa (.dK dj)
 ds1:H' ds=Fa (.dK [])
 bl1:H' bl=Fa (.dK [])
 PL:kd≠fn/\kd≠ds/\kd≠bl/\fn≠ds/\fn≠bl/\ds≠bl
 kept: ∀b o,H b=Fa o->b≠r->H' b=Fa o
inductive tz (a:bf) (vs:EV V) (H:Hp) (Q:VK) (_E:XK):Prop
 |mk (r dr q:E4) (_:vs=[.ref r, .ref q]) (_:H r=Fa (.ins a.Gm dr [])) (_: ∀(H':Hp) (kd fn ds bl:E4),aaV a H H' r dr q kd fn ds bl->Q .Iw H'):tz a vs H Q _E
theorem bM {H:Hp}{a p:E4}(h:aF H a o p=FB):p≠a/\H p=FB:=by
 by_cases e:p=a
 ·rw[e,ae] at h;cases h
 ·rw[ac e] at h;exact#[e,h]
theorem oC (T:aU K mg a) (kF:Di P w K a.GY dj):T.ZG.U P w mg base 1 (tz a):=by
 refine T.ZG.F.ok agG [03] [02];obtain⟨r,dr,q,rfl,er,hq⟩:=h;refine#[_,(ax (b3 (pv 0) (pv 1) rfl)
   (ax (b3 (pv 0) ak rfl)
   (ax (b3 (pv 0) fm rfl)
   (ax (b3 (pv 0) (i6 uA (by rfl) T.V2 boot_dict (aa (ic (by rfl) T.MT) ag)) rfl)
   (ax (b3 (pv 0) fm rfl)
   (ai (b3 (pv 0) fm rfl))))))),?_]
 refine#[r,_,dr,_,Gc,er,T.FV,T.Lr,(by show 0<1000;decide),?_];refine#[r,_,dr,_,Gc,ae,T.FV,T.Kl,(by show 1<1000;decide),?_];intro kd hkd;obtain⟨n1,hkd⟩:=bM hkd;obtain⟨_,hkd⟩:=bM hkd;refine#[r,_,dr,_,Gc,(by rw[ac n1.symm,ae]),T.FV,T.JV,(by show 2<1000;decide),?_];refine#[a.GY,dj,Gc,kF,λfn Um=>?_];obtain⟨n2,Um⟩:=bM Um;obtain⟨n2k,Um⟩:=bM Um;obtain⟨_,Um⟩:=bM Um;obtain⟨_,Um⟩:=bM Um;refine#[r,_,dr,_,Gc,(by rw[ac n2.symm,ae]),T.FV,T.Iy,(by show 3<1000;decide),?_];intro ds Uw;obtain⟨n3,Uw⟩:=bM Uw;obtain⟨n3f,Uw⟩:=bM Uw;obtain⟨_,Uw⟩:=bM Uw;obtain⟨n3k,Uw⟩:=bM Uw;obtain⟨_,Uw⟩:=bM Uw;obtain⟨_,Uw⟩:=bM Uw;refine#[r,_,dr,_,Gc,(by rw[ac n3.symm,ae]),T.FV,T.LU,(by show 4<1000;decide),?_];intro bl R7;obtain⟨n4,R7⟩:=bM R7;obtain⟨n4d,R7⟩:=bM R7;obtain⟨_,R7⟩:=bM R7;obtain⟨n4f,R7⟩:=bM R7;obtain⟨_,R7⟩:=bM R7;obtain⟨n4k,R7⟩:=bM R7;obtain⟨_,R7⟩:=bM R7;obtain⟨_,R7⟩:=bM R7;refine#[r,_,dr,_,Gc,(by rw[ac n4.symm,ae]),T.FV,T.JF,(by show 5<1000;decide),?_];refine hq _ kd fn ds bl #[ae,hkd,Um,Uw,R7,?_,?_,?_,?_,#[n2k.symm,n3k.symm,n4k.symm,n3f.symm,n4f.symm,n4d.symm],λb o e nb=>?_]
 ·rw[ac n1,ac n4k.symm,ac n1,ac n3k.symm,ac n1,ac n2k.symm,ac n1,ae]
 ·rw[ac n2,ac n4f.symm,ac n2,ac n3f.symm,ac n2,ae]
 ·rw[ac n3,ac n4d.symm,ac n3,ae]
 ·rw[ac n4,ae]
 ·rw[ac nb,ac (aj e R7),ac nb,ac (aj e Uw),ac nb,ac (aj e Um),ac nb,ac (aj e hkd),ac nb,ac nb]
  exact e
theorem cY {A:Type}{p:A->Prop} : ∀g∈([]:EV A),p g:=λ_ z=>nomatch z
theorem ay {A:Type}{p:A->Prop}{f:A}{fs:EV A}(h:p f) (r: ∀g∈fs,p g): ∀g∈f::fs,p g:=EV.forall_mem_cons.mpr #[h,r]
inductive NB (X:Cx) (c:FD) (C:E4) (fs:EV FD):Prop
 |mk {f:E4}{fd:Gb}(M:Mk X.K C f) (F:bU X.prog X.w X.K X.mg X.base wH 1 f fd ("self"::fs) (kY C fs)) (b:f7 X.K fd ("self"::fs) []) (hm:X.mg c=Fa (.ref C)):NB X c C fs
theorem zC (T:aU X.K X.mg a):NB X "Number" a.LC ["worth"]:=#[T.US,cU T.aeJ.F afP T.PB (ay T.NM cY) (.cons .nil),T.aeJ.c.b,T.Rf]
theorem DJ (T:aU X.K X.mg a):NB X "Name" a.NZ ["name"]:=#[T.W7,cU T.aeK.F afQ T.Rx (ay T.O2 cY) (.cons .nil),T.aeK.c.b,T.Ue]
theorem ET (T:aU X.K X.mg a):NB X "Call" a.ND ["name","arguments"]:=#[T.W8,cU T.aeL.F afR T.Qt (ay T.O3 (ay T.ML cY)) (.cons (.cons .nil)),T.aeL.c.b,T.Ug]
theorem BF (T:aU X.K X.mg a):NB X "Unary" a.KD ["sign","operand"]:=#[T.VT,cU T.aeM.F afS T.O4 (ay T.OA (ay T.Nh cY)) (.cons (.cons .nil)),T.aeM.c.b,T.Sh]
theorem Dd (T:aU X.K X.mg a):NB X "Chain" a.JD ["strength","operands","signs"]:=#[T.VU,cU T.aeN.F afT T.Ni (ay T.K4 (ay T.MM (ay T.N3 cY))) (.cons (.cons (.cons .nil))),T.aeN.c.b,T.Si]
theorem yZ (T:aU X.K X.mg a):NB X "Choice" a.Ka ["condition","chosen","otherwise"]:=#[T.UT,cU T.aeO.F afU T.PD (ay T.L4 (ay T.Nj (ay T.L5 cY))) (.cons (.cons (.cons .nil))),T.aeO.c.b,T.Rg]
theorem aaW (T:aU X.K X.mg a):NB X "Sum" a.N0 ["name","first","last","body"]:=#[T.ZY,cU T.aeP.F afV T.PF (ay T.P5 (ay T.O5 (ay T.P6 (ay T.P7 cY)))) (.cons (.cons (.cons (.cons .nil)))),T.aeP.c.b,T.Zh]
theorem aaX (T:aU X.K X.mg a):NB X "Let" a.LD ["name","exp"]:=#[T.ZZ,cU T.aeQ.F afW T.Ry (ay T.N4 (ay T.QC cY)) (.cons (.cons .nil)),T.aeQ.c.b,T.Tu]
theorem aaY (T:aU X.K X.mg a):NB X "For" a.Nc ["name","first","last","statements"]:=#[T.Z0,cU T.aeR.F afX T.PH (ay T.P8 (ay T.O6 (ay T.P9 (ay T.MN cY)))) (.cons (.cons (.cons (.cons .nil)))),T.aeR.c.b,T.VN]
theorem ahn (T:aU X.K X.mg a):NB X "If" a.Qm ["condition","statements","else_statements"]:=#[T.ae6,cU T.aeS.F afY T.So (ay T.NN (ay T.Nk (ay T.Lh cY))) (.cons (.cons (.cons .nil))),T.aeS.c.b,T.XG]
theorem Ez (T:aU X.K X.mg a):NB X "Step" a.KL ["side","zone","quarter","price","to_price","amount"]:=#[T.W9,cU T.aeT.F afZ T.Mf (ay T.O7 (ay T.O8 (ay T.NO (ay T.OB (ay T.Lo (ay T.N5 cY)))))) (.cons (.cons (.cons (.cons (.cons (.cons .nil)))))),T.aeT.c.b,T.Uh]
theorem uP (T:aU X.K X.mg a):NB X "Amounts" a.KP ["name","exp"]:=#[T.Tw,cU T.aeU.F af0 T.OJ (ay T.NP (ay T.N6 cY)) (.cons (.cons .nil)),T.aeU.c.b,T.Tv]
theorem zR (T:aU X.K X.mg a):NB X "Block" a.Ju ["name","side","zone","price","amounts","under","group"]:=#[T.VV,cU T.aeV.F af1 T.Kx (ay T.OC (ay T.OD (ay T.OE (ay T.N7 (ay T.Nl (ay T.N8 (ay T.Mo cY))))))) (.cons (.cons (.cons (.cons (.cons (.cons (.cons .nil))))))),T.aeV.c.b,T.VO]
theorem Ck (T:aU X.K X.mg a):NB X "Const" a.Me ["name","exp"]:=#[T.VW,cU T.aeW.F af2 T.QD (ay T.OF (ay T.O9 cY)) (.cons (.cons .nil)),T.aeW.c.b,T.Sj]
theorem ym (T:aU X.K X.mg a):NB X "Market" a.JU ["zones","quarters","low","high"]:=#[T.UW,cU T.ae5.F ags T.Rh (ay T.LR (ay T.KO (ay T.M5 (ay T.K5 cY)))) (.cons (.cons (.cons (.cons .nil)))),T.ae5.c.b,T.UQ]
theorem qj (T:aU X.K X.mg a):NB X "StepOrder" a.Hk ["desk","zone","quarter","side","low","high","amount"]:=#[T.RC,cU T.aeZ.F af5 T.NG (ay T.MP (ay T.MQ (ay T.LG (ay T.MR (ay T.Nm (ay T.MS (ay T.L6 cY))))))) (.cons (.cons (.cons (.cons (.cons (.cons (.cons .nil))))))),T.aeZ.c.b,T.OZ]
theorem o8 (T:aU X.K X.mg a):NB X "BlockOrder" a.Hm ["desk","zone","side","price","group","parent","amounts"]:=#[T.Q0,cU T.ae0.F af6 T.M3 (ay T.Mq (ay T.Mr (ay T.Ms (ay T.L7 (ay T.L8 (ay T.LH (ay T.Li cY))))))) (.cons (.cons (.cons (.cons (.cons (.cons (.cons .nil))))))),T.ae0.c.b,T.QZ]
theorem aaZ (T:aU X.K X.mg a):NB X "Fun" a.Ox ["name","parameters","exp"]:=#[T.Z1,cU T.aeX.F af3 T.QF (ay T.Qa (ay T.MO (ay T.QG cY))) (.cons (.cons (.cons .nil))),T.aeX.c.b,T.VP]
theorem Ej (T:aU X.K X.mg a):NB X "Desk" a.NF ["name","statements"]:=#[T.Xa,cU T.aeY.F af4 T.RA (ay T.RB (ay T.Mp cY)) (.cons (.cons .nil)),T.aeY.c.b,T.Ui]
inductive bI (M:E4->Prop) (H:Hp) (C:E4) (fs:EV (FD×V)) (v:V):Prop
 |mk (p dx:E4) (_:v= .ref p) (_: ¬M p) (_:H p=Fa (.ins C dx fs)):bI M H C fs v
inductive b5 (M:E4->Prop) (H:Hp) (xs:EV V) (v:V):Prop
 |mk (p:E4) (_:v= .ref p) (_: ¬M p) (_:H p=Fa (.lst xs)):b5 M H xs v
def db (M:E4->Prop) (H H':Hp):Prop:= ∀b o,H b=Fa o-> ¬M b->H' b=Fa o
def fC (M M':E4->Prop) (H H':Hp):Prop:= ∀b o,H b=Fa o-> ¬M b-> ¬M' b/\H' b=Fa o
theorem db.two {M:E4->Prop}{H H':Hp}(k:db M H H'):fC M M H H':=λb o e m=>#[m,k b o e m]
def Nd (o:HO):Prop:=(∃xs,o= .lst xs)\/ ∃C d fs,o= .ins C d fs/\fs.length≠5
def kL (M M':E4->Prop) (H H':Hp):Prop:= ∀b o,H b=Fa o-> ¬M b->Nd o-> ¬M' b/\H' b=Fa o
theorem fC.three {M M':E4->Prop}{H H':Hp}(k:fC M M' H H'):kL M M' H H':=λb o e m _=>k b o e m
theorem bI.Hz {M M':E4->Prop}{H H':Hp}(k:kL M M' H H') (h:bI M H C fs v) (hl:fs.length≠5:=by intro z;cases z):bI M' H' C fs v:=by
 obtain⟨p,dx,e,m,z⟩:=h;have:=k _ _ z m (.inr #[_,_,_,Gc,hl]);exact#[p,dx,e,this.1,this.2]
theorem b5.Hz {M M':E4->Prop}{H H':Hp}(k:kL M M' H H') (h:b5 M H xs v):b5 M' H' xs v:=by
 obtain⟨p,e,m,z⟩:=h;have:=k _ _ z m (.inl #[_,Gc]);exact#[p,e,this.1,this.2]
theorem bI.keep {M M':E4->Prop}{H H':Hp}(k:fC M M' H H') (h:bI M H C fs v):bI M' H' C fs v:=by
 obtain⟨p,dx,e,m,z⟩:=h;exact#[p,dx,e,(k _ _ z m).1,(k _ _ z m).2]
theorem b5.keep {M M':E4->Prop}{H H':Hp}(k:fC M M' H H') (h:b5 M H xs v):b5 M' H' xs v:=by
 obtain⟨p,e,m,z⟩:=h;exact#[p,e,(k _ _ z m).1,(k _ _ z m).2]
mutual
def au (a:bf) (M:E4->Prop) (H:Hp):Fc->V->Prop
 | .num n,v=>bI M H a.LC [("worth", .int (n:Fm))] v
 | .name x,v=>bI M H a.NZ [("name", .str (sb x))] v
 | .call f l,v=> ∃q us,bI M H a.ND [("name", .str (sb f)),("arguments",q)] v/\b5 M H us q/\cr a M H l us
 | .neg e,v=> ∃u,bI M H a.KD [("sign", .str "-"),("operand",u)] v/\au a M H e u
 | .not e,v=> ∃u,bI M H a.KD [("sign", .str "!"),("operand",u)] v/\au a M H e u
 | .sums e r,v=> ∃q g u us ss,bI M H a.JD [("strength", .int 3),("operands",q),("signs",g)] v/\b5 M H (u::us) q/\b5 M H ss g/\au a M H e u/\dE a M H r us ss
 | .prods e r,v=> ∃q g u us ss,bI M H a.JD [("strength", .int 4),("operands",q),("signs",g)] v/\b5 M H (u::us) q/\b5 M H ss g/\au a M H e u/\dE a M H r us ss
 | .cmp op x y,v=> ∃q g u1 u2,bI M H a.JD [("strength", .int 2),("operands",q),("signs",g)] v/\b5 M H [u1,u2] q/\b5 M H [.str (dI op)] g/\au a M H x u1/\au a M H y u2
 | .both e l,v=> ∃q g u us,bI M H a.JD [("strength", .int 1),("operands",q),("signs",g)] v/\b5 M H (u::us) q/\b5 M H (us.map λ_=> .str "&&") g/\au a M H e u/\cr a M H l us
 | .either e l,v=> ∃q g u us,bI M H a.JD [("strength", .int 0),("operands",q),("signs",g)] v/\b5 M H (u::us) q/\b5 M H (us.map λ_=> .str "||") g/\au a M H e u/\cr a M H l us
 | .pick c x y,v=> ∃u1 u2 u3,bI M H a.Ka [("condition",u1),("chosen",u2),("otherwise",u3)] v/\au a M H c u1/\au a M H x u2/\au a M H y u3
 | .sum x lo hi e,v=> ∃u1 u2 u3,bI M H a.N0 [("name", .str (sb x)),("first",u1),("last",u2),("body",u3)] v/\au a M H lo u1/\au a M H hi u2/\au a M H e u3
def cr (a:bf) (M:E4->Prop) (H:Hp):JP->EV V->Prop
 | .nil,us=>us=[]
 | .cons e l,us=> ∃u vs,us=u::vs/\au a M H e u/\cr a M H l vs
def dE (a:bf) (M:E4->Prop) (H:Hp):Ql->EV V->EV V->Prop
 | .nil,us,ss=>us=[]/\ss=[]
 | .cons op e r,us,ss=> ∃u vs ts,us=u::vs/\ss= .str (dI op)::ts/\au a M H e u/\dE a M H r vs ts
end
section
variable {M M':E4->Prop}{H H':Hp}
mutual
theorem au.Hz (k:kL M M' H H'): ∀(e:Fc) {v:V},au a M H e v->au a M' H' e v
 | .num n,v,h=>by unfold au at h ⊢; exact h.Hz k
 | .name x,v,h=>by unfold au at h ⊢; exact h.Hz k
 | .call f l,v,h=>by
  unfold au at h ⊢;obtain⟨q,us,h1,h2,h3⟩:=h;exact#[q,us,h1.Hz k,h2.Hz k,cr.Hz k l h3]
 | .neg e,v,h=>by
  unfold au at h ⊢;obtain⟨u,h1,h2⟩:=h;exact#[u,h1.Hz k,au.Hz k e h2]
 | .not e,v,h=>by
  unfold au at h ⊢;obtain⟨u,h1,h2⟩:=h;exact#[u,h1.Hz k,au.Hz k e h2]
 | .sums e r,v,h=>by
  unfold au at h ⊢;obtain⟨q,g,u,us,ss,h1,h2,h3,h4,h5⟩:=h;exact#[q,g,u,us,ss,h1.Hz k,h2.Hz k,h3.Hz k,au.Hz k e h4,dE.Hz k r h5]
 | .prods e r,v,h=>by
  unfold au at h ⊢;obtain⟨q,g,u,us,ss,h1,h2,h3,h4,h5⟩:=h;exact#[q,g,u,us,ss,h1.Hz k,h2.Hz k,h3.Hz k,au.Hz k e h4,dE.Hz k r h5]
 | .cmp op x y,v,h=>by
  unfold au at h ⊢;obtain⟨q,g,u1,u2,h1,h2,h3,h4,h5⟩:=h;exact#[q,g,u1,u2,h1.Hz k,h2.Hz k,h3.Hz k,au.Hz k x h4,au.Hz k y h5]
 | .both e l,v,h=>by
  unfold au at h ⊢;obtain⟨q,g,u,us,h1,h2,h3,h4,h5⟩:=h;exact#[q,g,u,us,h1.Hz k,h2.Hz k,h3.Hz k,au.Hz k e h4,cr.Hz k l h5]
 | .either e l,v,h=>by
  unfold au at h ⊢;obtain⟨q,g,u,us,h1,h2,h3,h4,h5⟩:=h;exact#[q,g,u,us,h1.Hz k,h2.Hz k,h3.Hz k,au.Hz k e h4,cr.Hz k l h5]
 | .pick c x y,v,h=>by
  unfold au at h ⊢;obtain⟨u1,u2,u3,h1,h2,h3,h4⟩:=h;exact#[u1,u2,u3,h1.Hz k,au.Hz k c h2,au.Hz k x h3,au.Hz k y h4]
 | .sum x lo hi e,v,h=>by
  unfold au at h ⊢;obtain⟨u1,u2,u3,h1,h2,h3,h4⟩:=h;exact#[u1,u2,u3,h1.Hz k,au.Hz k lo h2,au.Hz k hi h3,au.Hz k e h4]
theorem cr.Hz (k:kL M M' H H'): ∀(l:JP) {us:EV V},cr a M H l us->cr a M' H' l us
 | .nil,us,h=>by unfold cr at h ⊢; exact h
 | .cons e l,us,h=>by
  unfold cr at h ⊢;obtain⟨u,vs,h1,h2,h3⟩:=h;exact#[u,vs,h1,au.Hz k e h2,cr.Hz k l h3]
theorem dE.Hz (k:kL M M' H H'): ∀(r:Ql) {us ss:EV V},dE a M H r us ss->dE a M' H' r us ss
 | .nil,us,ss,h=>by unfold dE at h ⊢; exact h
 | .cons op e r,us,ss,h=>by
  unfold dE at h ⊢;obtain⟨u,vs,ts,h1,h2,h3,h4⟩:=h;exact#[u,vs,ts,h1,h2,au.Hz k e h3,dE.Hz k r h4]
end
theorem au.HH (k:fC M M' H H') (e:Fc) (h:au a M H e v):au a M' H' e v:=au.Hz k.three e h
end
inductive sy (a:bf) (vs:EV V) (H:Hp) (Q:VK) (E:XK):Prop
 |mk (r q kd fn ds bl:E4) (n:Fm) (x:Gs×Gh) (t:E2) (d:Fm) (_:vs=[.ref r, .int d]) (_:nB a H r q kd fn ds bl n (x::t)) (_:(d=12->oF a.HA E H (if x.1= .bad then 1 else 6) x.2)) (_:(d≠12->Q (.int ((d+1:Fm):Int)) H)):sy a vs H Q E
inductive tE (a:bf) (vs:EV V) (H:Hp) (Q:VK) (E:XK):Prop
 |mk (r q kd fn ds bl:E4) (n:Fm) (x:Gs×Gh) (t:E2) (v:FD) (_:vs=[.ref r, .str v]) (_:nB a H r q kd fn ds bl n (x::t)) (_:(x.1= .bad->oF a.HA E H 1 x.2)) (_:(x.1≠ .bad->lZ v x.1=FM->oF a.HA E H 5 x.2)) (_:(x.1≠ .bad->lZ v x.1=FS->Q .Iw H)):tE a vs H Q E
theorem alB (T:aU K mg a) (XC:XT K a):T.d_f.O P w base 6 (sy a):=by
 have U1:=fJ (P:=P) (w:=w) (base:=base) T XC;refine fQ T.d_f.F ale [03] [02];obtain⟨r,q,kd,fn,ds,bl,n,x,t,d,rfl,R,hf,hg⟩:=h;obtain⟨dr,er⟩:=R.ins;refine#[_,(ax (cx (a9 b8 (pv 1) (aR (by rfl) T.Q4) (aM _)) (ai (bh (cy (pv 0) T.FV T.VS.c U1 [07] aA (aa (aR (by rfl) T.QI) ag)))) br)
   (ai (aI (bW dP (pv 1) ak)))),?_]
 refine#[Gc,_,Gc,?_];rw[cj];refine aP (λe=>?_) λe=>?_
 ·have:=FN e
  exact#[r,dr,_,Gc,er,Gc,r,q,kd,fn,ds,bl,n,x,t,6,Gc,R,hf (by lia)]
 ·have:=FR e
  exact#[_,_,Gc,Gc,hg (by lia)]
theorem aho (T:aU K mg a) (XC:XT K a):T.ZP.O P w base 6 (tE a):=by
 have G_p:=mv (P:=P) (w:=w) (base:=base) T XC
 have U1:=fJ (P:=P) (w:=w) (base:=base) T XC;refine fQ T.ZP.F agZ [03] [02];obtain⟨r,q,kd,fn,ds,bl,n,x,t,v,rfl,R,hb,hf,hg⟩:=h;obtain⟨dr,er⟩:=R.ins;refine#[_,(ai (cx (cZ (cy (pv 0) T.FV T.d_p.c G_p [07] aA (aa (pv 1) ag))) (ai (bh (cy (pv 0) T.FV T.VS.c U1 [07] aA (aa (aR (by rfl) T.Sr) ag)))) br)),?_];refine#[r,dr,_,Gc,er,Gc,r,q,kd,fn,ds,bl,n,x,t,v,Gc,R,hb,λnb=>#[_,Gc,aP (λe=>?_) λe=>?_]]
 ·exact#[r,dr,_,Gc,er,Gc,r,q,kd,fn,ds,bl,n,x,t,5,Gc,R,by rw[E5 nb];exact hf nb e]
 ·exact hg nb e
def jl (a:bf) (M:E4->Prop) (H:Hp):Fd Fc->V->Prop
 |none,v=>v= .Iw
 |some e,v=>au a M H e v
def ku (b:Gg):V:= .str (if b=FM then "buy" else "sell")
inductive tI (a:bf) (M:E4->Prop) (H:Hp) (x:EW×Fc) (v:V):Prop
 |mk (u:V) (_:bI M H a.KP [("name", .str (sb x.1)),("exp",u)] v) (_:au a M H x.2 u):tI a M H x v
def ig:Fd EW->V
 |none=> .Iw
 |some u=> .str (sb u)
mutual
def a7 (a:bf) (M:E4->Prop) (H:Hp):GR->V->Prop
 | .bind x e,v=> ∃u,bI M H a.LD [("name", .str (sb x)),("exp",u)] v/\au a M H e u
 | .loop x lo hi l,v=> ∃u1 u2 q us,bI M H a.Nc [("name", .str (sb x)),("first",u1),("last",u2),("statements",q)] v/\au a M H lo u1/\au a M H hi u2/\b5 M H us q/\bF a M H l us
 | .cond c x y,v=> ∃u q us g ws,bI M H a.Qm [("condition",u),("statements",q),("else_statements",g)] v/\au a M H c u/\b5 M H us q/\bF a M H x us/\b5 M H ws g/\bF a M H y ws
 | .step b z qu p top am,v=> ∃u1 u2 u3 u4 u5,bI M H a.KL [("side",ku b),("zone",u1),("quarter",u2),("price",u3),("to_price",u4),("amount",u5)] v/\au a M H z u1/\au a M H qu u2/\au a M H p u3/\jl a M H top u4/\au a M H am u5
 | .block nm b z p x am un g,v=> ∃u1 u2 u3 u4,bI M H a.Ju [("name",ig nm),("side",ku b),("zone",u1),("price",u2),("amounts",u3),("under",ig un),("group",u4)] v/\au a M H z u1/\au a M H p u2/\tI a M H (x,am) u3/\jl a M H g u4
def bF (a:bf) (M:E4->Prop) (H:Hp):IQ->EV V->Prop
 | .nil,us=>us=[]
 | .cons s l,us=> ∃u vs,us=u::vs/\a7 a M H s u/\bF a M H l vs
end
section
variable {M M':E4->Prop}{H H':Hp}
theorem jl.HH (k:fC M M' H H'): ∀(e:Fd Fc) {v:V},jl a M H e v->jl a M' H' e v
 |none,v,h=>h
 |some e,v,h=>au.HH k e h
theorem tI.HH (k:fC M M' H H') (h:tI a M H x v):tI a M' H' x v:=by
 obtain⟨u,h1,h2⟩:=h;exact#[u,h1.keep k,au.HH k _ h2]
mutual
theorem a7.HH (k:fC M M' H H'): ∀(s:GR) {v:V},a7 a M H s v->a7 a M' H' s v
 | .bind x e,v,h=>by
  unfold a7 at h ⊢;obtain⟨u,h1,h2⟩:=h;exact#[u,h1.keep k,au.HH k e h2]
 | .loop x lo hi l,v,h=>by
  unfold a7 at h ⊢;obtain⟨u1,u2,q,us,h1,h2,h3,h4,h5⟩:=h;exact#[u1,u2,q,us,h1.keep k,au.HH k lo h2,au.HH k hi h3,h4.keep k,bF.HH k l h5]
 | .cond c x y,v,h=>by
  unfold a7 at h ⊢;obtain⟨u,q,us,g,ws,h1,h2,h3,h4,h5,h6⟩:=h;exact#[u,q,us,g,ws,h1.keep k,au.HH k c h2,h3.keep k,bF.HH k x h4,h5.keep k,bF.HH k y h6]
 | .step b z qu p top am,v,h=>by
  unfold a7 at h ⊢;obtain⟨u1,u2,u3,u4,u5,h1,h2,h3,h4,h5,h6⟩:=h;exact#[u1,u2,u3,u4,u5,h1.keep k,au.HH k z h2,au.HH k qu h3,au.HH k p h4,jl.HH k top h5,au.HH k am h6]
 | .block nm b z p x am un g,v,h=>by
  unfold a7 at h ⊢;obtain⟨u1,u2,u3,u4,h1,h2,h3,h4,h5⟩:=h;exact#[u1,u2,u3,u4,h1.keep k,au.HH k z h2,au.HH k p h3,h4.HH k,jl.HH k g h5]
theorem bF.HH (k:fC M M' H H'): ∀(l:IQ) {us:EV V},bF a M H l us->bF a M' H' l us
 | .nil,us,h=>by unfold bF at h ⊢; exact h
 | .cons s l,us,h=>by
  unfold bF at h ⊢;obtain⟨u,vs,h1,h2,h3⟩:=h;exact#[u,vs,h1,a7.HH k s h2,bF.HH k l h3]
end
end
def gL (ps:EV EW):EV V:=ps.map λp=>V.str (sb p)
def fh (a:bf) (M:E4->Prop) (H:Hp):Ha->V->Prop
 | .const x e,v=> ∃u,bI M H a.Me [("name", .str (sb x)),("exp",u)] v/\au a M H e u
 | .func x ps e,v=> ∃q u,bI M H a.Ox [("name", .str (sb x)),("parameters",q),("exp",u)] v/\b5 M H (gL ps) q/\au a M H e u
 | .desk x l,v=> ∃q us,bI M H a.NF [("name", .str (sb x)),("statements",q)] v/\b5 M H us q/\bF a M H l us
theorem fh.HH {a:bf}{M M':E4->Prop}{H H':Hp}(k:fC M M' H H'): ∀(x:Ha) {v:V},fh a M H x v->fh a M' H' x v
 | .const x e,v,⟨u,h1,h2⟩=>#[u,h1.keep k,au.HH k e h2]
 | .func x ps e,v,⟨q,u,h1,h2,h3⟩=>#[q,u,h1.keep k,h2.keep k,au.HH k e h3]
 | .desk x l,v,⟨q,us,h1,h2,h3⟩=>#[q,us,h1.keep k,h2.keep k,bF.HH k l h3]
inductive Fk where
 |e (x:Fc)
 |o (x:Fd Fc)
 |am (x:EW×Fc)
 |st (x:GR)
 |sts (x:IQ)
 |ps (x:EV EW)
 |top (x:Ha)
inductive ot (a:bf) (M:E4->Prop) (H:Hp) (l:IQ) (v:V):Prop
 |mk (us:EV V) (_:b5 M H us v) (_:bF a M H l us):ot a M H l v
def jh (a:bf) (M:E4->Prop) (H:Hp) (x:Fk×V):Prop:=match x.1 with
 | .e e=>au a M H e x.2
 | .o e=>jl a M H e x.2
 | .am e=>tI a M H e x.2
 | .st e=>a7 a M H e x.2
 | .sts e=>ot a M H e x.2
 | .ps e=>b5 M H (gL e) x.2
 | .top e=>fh a M H e x.2
theorem jh.HH {a:bf}{M M':E4->Prop}{H H':Hp}(k:fC M M' H H'): ∀ {x:Fk×V},jh a M H x->jh a M' H' x
 | (.e e,v),h=>au.HH k e h
 | (.o e,v),h=>jl.HH k e h
 | (.am e,v),h=>tI.HH k h
 | (.st e,v),h=>a7.HH k e h
 | (.sts e,v),⟨us,h1,h2⟩=>#[us,h1.keep k,bF.HH k e h2]
 | (.ps e,v),h=>b5.keep k h
 | (.top e,v),h=>fh.HH k e h
end OS
namespace OS
open Vbemac
abbrev fz:=F7->Fd Int
abbrev dX:=Exp×EV Int
inductive Mc where
 |go (ts:EV dX) (sc:EV fz) (n:Fm)
 |done (a:Int) (sc:EV fz) (n:Fm)
 |err (c:Int)
def eN (ts:EV dX) (sc:EV fz) (n:Fm) (a:Int):Mc:=match ts with
 |[]=> .done a sc n
 | (e,ps)::r=> .go ((e,ps++[a])::r) sc n
def kz (e:Exp) (ts:EV dX) (sc:EV fz):Fm->Mc
 |0=> .err (-13)
 |n+1=> .go ((e,[])::ts) sc n
def kX:Exps->EV Exp
 | .nil=>[]
 | .cons e l=>e::kX l
def Dh:Rest->EV Exp
 | .nil=>[]
 | .cons _ e r=>e::Dh r
def zI:Rest->EV F7
 | .nil=>[]
 | .cons op _ r=>op::zI r
def fN (sc:EV fz):fz:=sc.getLastD λ_=>FB
def look (sc:EV fz) (x:F7):Fd Int:=match sc.headD (λ_=>FB) x with
 |some a=>Fa a
 |none=>fN sc x
def oZ (sc:EV fz) (y:F7) (a:Int):EV fz:=match sc with
 |[]=>[]
 |s::r=>(λx=>if x=y then Fa a else s x)::r
def uV (ps:EV F7) (l:EV Int):fz:=λx=>((ps.zip l).find? λa=>a.1 == x).map λa=>a.2
def fO (s:Fm) (op:F7) (a b:Int):Except Int Int:=if s=2 then .ok (truth (compare op a b)) else match arith op a b 0 with
 | .error c=> .error c
 | .ok (v,_)=> .ok v
def jg (s:Fm) (a:Int):Gg:=if s=1 then a == 0 else a !=0
def nQ (s:Fm):Int:=if s=1 then 0 else 1
def oY (s:Fm) (ops:EV Exp) (e:Exp) (ps:EV Int) (r:EV dX) (sc:EV fz) (n:Fm):Fd Mc:=
 if ps.getLast?.any (jg s)=FM then Fa (eN r sc n (nQ s)) else match ops[ps.length]? with
 |some o=>Fa (kz o ((e,ps)::r) sc n)
 |none=>Fa (eN r sc n (1-nQ s))
def kP (s:Fm) (ops:EV Exp) (sgs:EV F7) (e:Exp) (ps:EV Int) (r:EV dX) (sc:EV fz) (n:Fm):Fd Mc:=
 let k:=ps.length
 let ps':Fd (Except Int (EV Int)):=if 1<k then(match sgs[k-2]?,ps[k-2]?,ps[k-1]? with
  |some op,some a,some b=>Fa (match fO s op a b with
   | .error c=> .error c
   | .ok v=> .ok (ps.take (k-1)++[v]))
  |_,_,_=>FB) else Fa (.ok ps)
 match ps' with
 |none=>FB
 |some (.error c)=>Fa (.err c)
 |some (.ok ps)=>match ops[ps.length]? with
  |some o=>Fa (kz o ((e,ps)::r) sc n)
  |none=>ps.getLast?.map λa=>eN r sc n a
def gJ (e:Exp) (y:F7) (b:Exp) (p q:Int) (acc:EV Int) (r:EV dX) (sc:EV fz) (n:Fm):Fd Mc:=
 let t:=acc.length
 let alC:Except Int (EV Int):=if 1<t then(match checked (acc.getD (t-2) 0+acc.getD (t-1) 0) 0 with
  | .error c=> .error c
  | .ok (v,_)=> .ok (acc.take (t-1)++[v])) else .ok acc
 match alC with
 | .error c=>Fa (.err c)
 | .ok acc=>if p+(t:Int)<=q then(match n with
   |0=>Fa (.err (-13))
   |n+1=>(match sc with
    |[]=>FB
    |h::tl=>Fa (kz b ((e,p::q::acc)::r) (oZ (h::tl) y (p+(t:Int))) n)))
  else Fa (eN r sc n (acc.getLast?.getD 0))
def eA (F:Funs):Mc->Fd Mc
 | .go ((e,ps)::r) sc n=>(match e with
  | .num a=>Fa (eN r sc n (a:Fm))
  | .name x=>(look sc x).map (eN r sc n)
  | .call f l=>(match (kX l)[ps.length]? with
   |some o=>Fa (kz o ((e,ps)::r) sc n)
   |none=>match F.find? λg=>g.1 == f with
    |none=>if ps.length=(kX l).length then Fa (eN r sc n (builtIn f ps)) else FB
    |some g=>if ps.length=(kX l).length then Fa (kz g.2.2 ((e,ps)::r) (uV g.2.1 ps::sc) n) else(match sc with
     |[]=>FB
     |_::tl=>(ps[(kX l).length]?).map λa=>eN r tl n a))
  | .neg a=>(match ps with
   |[]=>Fa (kz a ((e,ps)::r) sc n)
   |b::_=>Fa (eN r sc n (-b)))
  | .not a=>(match ps with
   |[]=>Fa (kz a ((e,ps)::r) sc n)
   |b::_=>Fa (eN r sc n (truth (b == 0))))
  | .sums a l=>kP 3 (a::Dh l) (zI l) e ps r sc n
  | .prods a l=>kP 4 (a::Dh l) (zI l) e ps r sc n
  | .cmp op a b=>kP 2 [a,b] [op] e ps r sc n
  | .both a l=>oY 1 (a::kX l) e ps r sc n
  | .either a l=>oY 0 (a::kX l) e ps r sc n
  | .pick c a b=>(match ps with
   |[]=>Fa (kz c ((e,ps)::r) sc n)
   |[p]=>Fa (kz (if p≠0 then a else b) ((e,ps)::r) sc n)
   |[_,v]=>Fa (eN r sc n v)
   |_=>FB)
  | .sum y lo hi b=>(match ps with
   |[]=>Fa (kz lo ((e,ps)::r) sc n)
   |[_]=>Fa (kz hi ((e,ps)::r) sc n)
   |p::q::acc=>gJ e y b p q acc r sc n))
 |_=>FB
inductive lV (F:Funs) (f:Mc->Prop):Mc->Fm->Prop
 |here {m:Mc} :f m->lV F f m 0
 |step {m m':Mc}{j:Fm} :eA F m=Fa m'->lV F f m' j->lV F f m (j+1)
def HE (F:Funs) (f:Mc->Prop) (m:Mc):Prop:= ∃j,lV F f m j
theorem HE.step {f:Mc->Prop}(h:eA F m=Fa m') (k:HE F f m'):HE F f m:=let ⟨j,k⟩:=k;#[j+1, .step h k]
mutual
def WS:EV F7->EV (F7×Fm)->Exp->Prop
 |_,_, .num n=>n<1000000000000000000
 |V,_, .name x=>x∈V
 |V,F, .call f l=>(∃p,(F.find? λg=>g.1 == f)=Fa p/\(kX l).length=p.2)/\om V F l
 |V,F, .neg e=>WS V F e
 |V,F, .not e=>WS V F e
 |V,F, .sums e r=>WS V F e/\(∃op a s,r= .cons op a s)/\uB ["+","-"] V F r
 |V,F, .prods e r=>WS V F e/\(∃op a s,r= .cons op a s)/\uB ["*","/","%"] V F r
 |V,F, .cmp op a b=>op∈(["==","!=","<=",">=","<",">"].map text)/\WS V F a/\WS V F b
 |V,F, .both e l=>WS V F e/\(∃a s,l= .cons a s)/\om V F l
 |V,F, .either e l=>WS V F e/\(∃a s,l= .cons a s)/\om V F l
 |V,F, .pick c a b=>WS V F c/\WS V F a/\WS V F b
 |V,F, .sum y lo hi e=>y∉V/\WS V F lo/\WS V F hi/\WS (y::V) F e
def om:EV F7->EV (F7×Fm)->Exps->Prop
 |_,_, .nil=>True
 |V,F, .cons e l=>WS V F e/\om V F l
def uB:EV String->EV F7->EV (F7×Fm)->Rest->Prop
 |_,_,_, .nil=>True
 |L,V,F, .cons op e r=>op∈L.map text/\WS V F e/\uB L V F r
end
abbrev dA (a:Int):Prop:= -BIG<=a/\a<=BIG
structure Ag (S:Scope) (V:EV F7) (v:Env) (sc:EV fz):Prop where
 val: ∀x∈V,look sc x=Fa (valueIn v x)
 bot: ∀x∈S.consts.map (·.1),fN sc x=Fa (valueIn S.consts x)
 low:sc.length=1-> ∀x∈S.consts.map (·.1),x∈V
 big: ∀x,dA (valueIn v x)
structure ahp (S:Scope) (F:EV (F7×Fm)) (g:F7×EV F7×Exp):Prop where
 ws: ∃Kg Fg,WS (g.2.1++Kg) Fg g.2.2/\(∀x∈Kg,x∈S.consts.map (·.1))/\ ∀f p,(Fg.find? λh=>h.1 == f)=Fa p->(F.find? λh=>h.1 == f)=Fa p
 nd:g.2.1.Nodup
 le:g.2.1.length<=6
structure gz (S:Scope) (F:EV (F7×Fm)):Prop where
 all: ∀f p,(F.find? λh=>h.1 == f)=Fa p->(∃g,(S.funs.find? λh=>h.1 == f)=Fa g/\g.2.1.length=p.2/\ahp S F g)\/((S.funs.find? λh=>h.1 == f)=FB/\(BUILT.find? λh=>h.1 == f)=Fa p)
 ahq: ∀x,dA (valueIn S.consts x)
def Sub (G F:EV (F7×Fm)):Prop:= ∀f p,(G.find? λh=>h.1 == f)=Fa p->(F.find? λh=>h.1 == f)=Fa p
section
variable {h:fz}
theorem gV {a:Int} :valueIn ((y,a)::v) x=if x=y then a else valueIn v x:=by
 unfold valueIn;rw[G6];by_cases e:x=y
 ·rw[E7 e,e,show(y == y)=FM from GN y]
  rfl
 ·rw[E5 e,show(y == x)=FS from beq_eq_false_iff_ne.mpr λz=>e z.symm]
theorem mW {a:Int} :fN ((λz=>if z=y then Fa a else h z)::tl) x=if x=y/\tl=[] then Fa a else fN (h::tl) x:=by
 cases tl with
 |nil=>
  unfold fN;by_cases e:x=y
  ·rw[E7 #[e,Gc]];exact E7 e
  ·rw[E5 λz=>e z.1];exact E5 e
 |cons t r=>rw[E5 λz=>by cases z.2];rfl
theorem Ag.set (A:Ag S V v (h::tl)) {a:Int}(ny:y∉V) (ba:dA a):Ag S (y::V) ((y,a)::v) (oZ (h::tl) y a):=by
 refine#[λx hx=>?_,λx hx=>?_,λl x hx=>E9 _ (A.low l x hx),λx=>?_]
 ·rw[gV]
  unfold oZ look;by_cases e:x=y
  ·rw[E7 e]
   show(match (if x=y then Fa a else h x) with|some a=>Fa a|none=>_)=_
   rw[E7 e]
  ·rw[E5 e]
   have hv:x∈V:=by
    rcases Fi.mp hx with z|z
    ·exact Fv z e
    ·exact z
   have:=A.val x hv;unfold look at this
   show(match (if x=y then Fa a else h x) with|some a=>Fa a|none=>_)=_
   rw[E5 e,mW,E5 λz=>e z.1];exact this
 ·unfold oZ
  rw[mW];by_cases e:x=y/\tl=[]
  ·exact Fv (A.low (by rw[e.2];rfl) x hx) (by rw[e.1];exact ny)
  ·rw[E5 e]
   exact A.bot x hx
 ·rw[gV]
  split
  ·exact ba
  ·exact A.big x
theorem Ag.unset {a:Int}(A:Ag S (y::V) ((y,a)::v) (h::tl)) (ny:y∉V) (bg: ∀x,dA (valueIn v x)) (lo:tl=[]-> ∀x∈S.consts.map (·.1),x∈V):Ag S V v (h::tl):=by
 refine#[λx hx=>?_,A.bot,λl=>lo (Qw (Ra l)),bg];rw[A.val x (E9 _ hx),gV,E5 λz=>ny (by rw[<-z];exact hx)]
end
end OS
namespace OS
open Vbemac
theorem bQ {a:Int}(h:checked x n= .ok (a,m)):dA a/\m=n/\a=x:=by
 unfold checked at h;split at h
 ·rename_i z
  cases h;exact#[z,Gc,Gc]
 ·cases h
theorem gK (b:Gg):dA (truth b):=by cases b<;>decide
theorem pk {x y a:Int}(h:arith op x y n= .ok (a,m)):dA a/\m=n:=by
 unfold arith at h;split at h
 ·exact#[(bQ h).1,(bQ h).2.1]
 split at h
 ·exact#[(bQ h).1,(bQ h).2.1]
 split at h
 ·exact#[(bQ h).1,(bQ h).2.1]
 split at h
 ·cases h
 split at h
 ·exact#[(bQ h).1,(bQ h).2.1]
 ·exact#[(bQ h).1,(bQ h).2.1]
theorem wV {a:Int}(h:dA a):dA (-a):=by unfold dA BIG at *; lia
theorem pS {f:F7}(h: ∀a∈l,dA a):dA (builtIn f l):=by
 have z:dA 0:=by decide
 have g: ∀i,dA (l.getD i 0):=λi=>by
  rw[IA];cases e:l[i]? with
  |none=>exact z
  |some a=>exact h a (GP e)
 have g0:=g 0
 have g1:=g 1;unfold builtIn;dsimp only;unfold dA BIG at*;split
 ·lia
 split
 ·lia
 split<;>lia
theorem lF {u v:Env} :valueIn (u++v) x=match u.find? (λa=>a.1 == x) with
  |some a=>a.2
  |none=>valueIn v x:=by
 unfold valueIn;rw[Vw];cases u.find? (λa=>a.1 == x)<;>rfl
section
variable {f:Mc->Prop}
def aa0 (S:Scope) (f:Mc->Prop) (V:EV F7) (v:Env) (tl:EV fz) (n:Fm) (r:Res Int) (k:Int->EV fz->Fm->Mc):Prop:=match r with
 | .error c=>f (.err c)
 | .ok (a,m)=>dA a->m<n-> ∀h,Ag S V v (h::tl)->HE S.funs f (k a (h::tl) m)
def EvP (S:Scope) (F0:EV (F7×Fm)) (f:Mc->Prop) (k:Fm):Prop:= ∀V v G e ts h tl n,Ag S V v (h::tl)->WS V G e->Sub G F0->3*n+1<=k->aa0 S f V v tl n (ev k S v e n) (λa sc m=>eN ts sc m a)->HE S.funs f (kz e ts (h::tl) n)
theorem qS (h:f (.err c)):HE F f (.err c):=#[0, .here h]
variable {h:fz}
theorem kg {α:Type}{l:EV α}{x:α}{r:EV α}(h:l.drop k=x::r):l[k]?=Fa x/\l.drop (k+1)=r:=by
 constructor
 ·have:=Ga (λz:EV α=>z[0]?) h
  simpa using this
 ·have:=Ga (EV.drop 1) h
  simpa [Ot,Ku] using this
theorem pM {α:Type}{l:EV α}(h:l.drop k=[]):l[k]?=FB:=IF (by simpa using h)
theorem wW (sb:Sub G F0): ∀(r:Exps) (k n:Fm) (ps:EV Int) (h:fz),(∀j,j<k->EvP S F0 f j)->Ag S V v (h::tl)->om V G r->3*n+2<=k->(kX l).drop ps.length=kX r->(∀a∈ps,dA a)->
  (match evAll k S v r n with
   | .error c=>f (.err c)
   | .ok (as,m)=>(∀a∈ps++as,dA a)->as.length=(kX r).length->m<=n-> ∀h,Ag S V v (h::tl)->HE S.funs f (.go ((.call g l,ps++as)::ts) (h::tl) m))->HE S.funs f (.go ((.call g l,ps)::ts) (h::tl) n)
 |r,0,n,ps,h,_,_,_,hk,_,_,_=>by lia
 | .nil,k+1,n,ps,h,IH,A,w,hk,hd,bp,q=>by
  unfold evAll at q;have:=q (by rw[GL];exact bp) rfl (Fq _) h A;rw[GL] at this;exact this
 | .cons e r,k+1,n,ps,h,IH,A,w,hk,hd,bp,q=>by
  unfold om at w;unfold evAll at q;dsimp only at q;obtain⟨d1,d2⟩:=kg hd;refine HE.step (m':=kz e ((.call g l,ps)::ts) (h::tl) n) (by unfold eA;dsimp only;rw[d1]) (IH k (Ht _) V v G e _ h tl n A w.1 sb (by lia) ?_);cases h1:ev k S v e n with
  |error c=>rw[h1] at q;exact q
  |ok z=>
   obtain⟨a,m1⟩:=z;rw[h1] at q;intro b1 l1 h' A';refine wW sb r k m1 (ps++[a]) h' (λj hj=>IH j (Jb hj)) A' w.2 (by lia) (by rw[Ft];exact d2) (λx hx=>?_) ?_
   ·rcases FK.mp hx with z|z
    ·exact bp x z
    ·rw[Fz.mp z];exact b1
   ·dsimp only at q
    cases h2:evAll k S v r m1 with
    |error c=>rw[h2] at q;exact q
    |ok z=>
     obtain⟨bs,m2⟩:=z;rw[h2] at q;dsimp only at q ⊢;intro b2 q2 l2 h2 A2;rw[Gr] at b2 ⊢;exact q b2 (by show bs.length+1=(kX r).length+1;rw[q2]) (by lia) h2 A2
def qV (ops:EV Exp) (e:Exp) (ps:EV Int) (r:EV dX) (sc:EV fz) (n:Fm):Fd Mc:=match ops[ps.length]? with
 |some o=>Fa (kz o ((e,ps)::r) sc n)
 |none=>ps.getLast?.map λa=>eN r sc n a
theorem nE (h:ps.length<=1):kP s ops sgs e ps ts sc n=qV ops e ps ts sc n:=by
 unfold kP;dsimp only;rw[E5 (by lia)]
 rfl
theorem rH {a b:Int}(h:sgs[qs.length]?=Fa op):kP s ops sgs e (qs++[a,b]) ts sc n=match fO s op a b with
  | .error c=>Fa (.err c)
  | .ok v=>qV ops e (qs++[a,v]) ts sc n:=by
 have l:(qs++[a,b]).length=qs.length+2:=by simp
 unfold kP;dsimp only;rw[l,E7 (by lia),MW,h,show(qs++[a,b])[qs.length]?=Fa a by simp,show qs.length+2-1=qs.length+1 from rfl,show(qs++[a,b])[qs.length+1]?=Fa b by simp];dsimp only;rw[show(qs++[a,b]).take (qs.length+1)=qs++[a] by rw[Qr,Jf (K8 _)];simp];cases fO s op a b with
 |error c=>rfl
 |ok v=>dsimp only;rw[Gr];rfl
theorem ou (hs:s≠2) {a b:Int} :arith op a b n=match fO s op a b with
  | .error c=> .error c
  | .ok d=> .ok (d,n):=by
 have ck: ∀x:Int,checked x n=match checked x 0 with
   | .error c=> .error c
   | .ok (d,_)=> .ok (d,n):=λx=>by unfold checked;split<;>rfl
 have go:arith op a b n=match arith op a b 0 with
   | .error c=> .error c
   | .ok (d,_)=> .ok (d,n):=by
  unfold arith;split
  ·exact ck _
  split
  ·exact ck _
  split
  ·exact ck _
  split
  ·rfl
  split
  ·exact ck _
  ·exact ck _
 rw[go];unfold fO;rw[E5 hs];cases arith op a b 0<;>rfl
theorem mI (hs:s≠2) (hm: ∀ps ts sc n,eA S.funs (.go ((e,ps)::ts) sc n)=kP s ops sgs e ps ts sc n) (sb:Sub G F0): ∀(r:Rest) (k n:Fm) (qs:EV Int) (x:Int) (h:fz),(∀j,j<k->EvP S F0 f j)->Ag S V v (h::tl)->uB L V G r->3*n+2<=k->dA x->
  ops.drop (qs.length+1)=Dh r->sgs.drop qs.length=zI r->(match VI k S v x r n with
   | .error c=>f (.err c)
   | .ok (a,m)=>dA a->m<=n-> ∀h,Ag S V v (h::tl)->HE S.funs f (eN ts (h::tl) m a))-> ∃m,qV ops e (qs++[x]) ts (h::tl) n=Fa m/\HE S.funs f m
 |r,0,n,qs,x,h,_,_,_,hk,_,_,_,_=>by lia
 | .nil,k+1,n,qs,x,h,IH,A,w,hk,bx,hd,hg,q=>by
  unfold VI at q;refine#[_,?_,q bx (Fq _) h A];unfold qV;rw[Ft,show qs.length+[x].length=qs.length+1 from rfl,pM hd];simp
 | .cons op o r,k+1,n,qs,x,h,IH,A,w,hk,bx,hd,hg,q=>by
  unfold uB at w;unfold VI at q;dsimp only at q;obtain⟨d1,d2⟩:=kg hd;obtain⟨g1,g2⟩:=kg hg;refine#[kz o ((e,qs++[x])::ts) (h::tl) n,by unfold qV;rw[Ft,show qs.length+[x].length=qs.length+1 from rfl,d1],IH k (Ht _) V v G o _ h tl n A w.2.1 sb (by lia) ?_];cases h1:ev k S v o n with
  |error c=>rw[h1] at q;exact q
  |ok z=>
   obtain⟨b,m1⟩:=z;rw[h1] at q;intro b1 l1 h' A';dsimp only at q;rw[ou hs] at q;have st: ∀m,(match fO s op x b with
     | .error c=>Fa (.err c)
     | .ok d=>qV ops e (qs++[x,d]) ts (h'::tl) m1)=Fa m->HE S.funs f m->HE S.funs f (eN ((e,qs++[x])::ts) (h'::tl) m1 b):=λm PM hq=>by
    refine HE.step (m':=m) ?_ hq;show eA S.funs (.go ((e,(qs++[x])++[b])::ts) (h'::tl) m1)=Fa m;rw[hm,Gr];exact(rH g1).trans PM
   cases h2:fO s op x b with
   |error c=>
    rw[h2] at q st;exact st _ rfl (qS q)
   |ok d=>
    rw[h2] at q st;dsimp only at q st;have bd:dA d:=by
     have z:=ou hs (op:=op) (a:=x) (b:=b) (n:=0);rw[h2] at z;exact(pk z).1
    obtain⟨m,e1,e2⟩:=mI hs hm sb r k m1 (qs++[x]) d h' (λj hj=>IH j (Jb hj)) A' w.2.2 (by lia) bd (by rw[Ft];exact d2) (by rw[Ft];exact g2) (by
     cases h3:VI k S v d r m1 with
     |error c=>rw[h3] at q;exact q
     |ok z=>
      rw[h3] at q;intro y1 y2;exact q y1 (by lia))
    rw[Gr] at e1;exact st m e1 e2
def evD (s:Fm) (k:Fm) (S:Scope) (v:Env) (l:Exps) (n:Fm):Res Int:=if s=1 then YX k S v l n else Tq k S v l n
theorem D3:evD s (k+1) S v .nil n= .ok (1-nQ s,n):=by
 unfold evD nQ;split
 ·unfold YX;rfl
 ·unfold Tq;rfl
theorem oh:evD s (k+1) S v (.cons e r) n=match ev k S v e n with
  | .error c=> .error c
  | .ok (a,m)=>if jg s a=FM then .ok (nQ s,m) else evD s k S v r m:=by
 unfold evD nQ jg;split
 ·rw[YX]
  cases ev k S v e n with
  |error c=>rfl
  |ok z=>dsimp only;simp only[beq_iff_eq]
 ·rw[Tq]
  cases ev k S v e n with
  |error c=>rfl
  |ok z=>dsimp only;simp only[bne_iff_ne]
theorem ma (s:Fm):dA (nQ s)/\dA (1-nQ s):=by unfold nQ;split<;>decide
theorem qQ (hm: ∀ps ts sc n,eA S.funs (.go ((e,ps)::ts) sc n)=oY s ops e ps ts sc n) (sb:Sub G F0): ∀(l:Exps) (k n:Fm) (ps:EV Int) (h:fz),(∀j,j<k->EvP S F0 f j)->Ag S V v (h::tl)->om V G l->3*n+2<=k->
  ops.drop ps.length=kX l-> ¬ps.getLast?.any (jg s)=FM->(match evD s k S v l n with
   | .error c=>f (.err c)
   | .ok (a,m)=>dA a->m<=n-> ∀h,Ag S V v (h::tl)->HE S.funs f (eN ts (h::tl) m a))->HE S.funs f (.go ((e,ps)::ts) (h::tl) n)
 |l,0,n,ps,h,_,_,_,hk,_,_,_=>by lia
 | .nil,k+1,n,ps,h,IH,A,w,hk,hd,hp,q=>by
  rw[D3] at q;exact HE.step (by rw[hm];unfold oY;rw[E5 hp,pM hd]) (q (ma s).2 (Fq _) h A)
 | .cons o r,k+1,n,ps,h,IH,A,w,hk,hd,hp,q=>by
  unfold om at w;rw[oh] at q;obtain⟨d1,d2⟩:=kg hd;refine HE.step (by rw[hm];unfold oY;rw[E5 hp,d1]) (IH k (Ht _) V v G o _ h tl n A w.1 sb (by lia) ?_);cases h1:ev k S v o n with
  |error c=>rw[h1] at q;exact q
  |ok z=>
   obtain⟨a,m1⟩:=z;rw[h1] at q;intro b1 l1 h' A';dsimp only at q;by_cases ha:jg s a=FM
   ·rw[E7 ha] at q
    exact HE.step (by show eA S.funs (.go ((e,ps++[a])::ts) _ _)=_;rw[hm];unfold oY;rw[E7 (by simp [ha])]) (q (ma s).1 (by lia) h' A')
   ·rw[E5 ha] at q
    refine qQ hm sb r k m1 (ps++[a]) h' (λj hj=>IH j (Jb hj)) A' w.2 (by lia) (by rw[Ft];exact d2) (by simp [ha]) ?_;cases h3:evD s k S v r m1 with
    |error c=>rw[h3] at q;exact q
    |ok z=>
     rw[h3] at q;intro y1 y2;exact q y1 (by lia)
def DR (e:Exp) (y:F7) (b:Exp) (p q:Int) (acc:EV Int) (r:EV dX) (sc:EV fz) (n:Fm):Mc:=if p+(acc.length:Int)<=q then(match n with
   |0=> .err (-13)
   |n+1=>kz b ((e,p::q::acc)::r) (oZ sc y (p+(acc.length:Int))) n)
  else eN r sc n (acc.getLast?.getD 0)
theorem pN (h':acc.length<=1):gJ e y b p q acc ts (h::tl) n=Fa (DR e y b p q acc ts (h::tl) n):=by
 unfold gJ DR;dsimp only;rw[E5 (by lia)];dsimp only;split
 ·cases n<;>rfl
 ·rfl
theorem zE:gJ e y b p q (acc++[x,z]) ts (h::tl) n=Fa (match checked (x+z) 0 with
  | .error c=> .err c
  | .ok (d,_)=>DR e y b p q (acc++[x,d]) ts (h::tl) n):=by
 have l: ∀d,(acc++[x,d]).length=acc.length+2:=λd=>by simp
 unfold gJ DR;dsimp only;rw[l,E7 (by lia),MW,show(acc++[x,z]).getD acc.length 0=x by simp [IA],show acc.length+2-1=acc.length+1 from rfl,show(acc++[x,z]).getD (acc.length+1) 0=z by simp [IA],
  show(acc++[x,z]).take (acc.length+1)=acc++[x] by rw[Qr,Jf (K8 _)];simp]
 cases checked (x+z) 0 with
 |error c=>rfl
 |ok d=>
  obtain⟨d,_⟩:=d;dsimp only;rw[l,Gr];split
  ·cases n<;>rfl
  ·rfl
theorem vq:checked x n=match checked x 0 with
  | .error c=> .error c
  | .ok (d,_)=> .ok (d,n):=by unfold checked;split<;>rfl
theorem xk (sb:Sub G F0) (ny:y∉V) (bp:dA p) (bq:dA q) (w:WS (y::V) G b): ∀(k n:Fm) (acc:EV Int) (x:Int) (h:fz),(∀j,j<k->EvP S F0 f j)->Ag S V v (h::tl)->3*n+2<=k->dA x->(acc=[]/\x=0\/ ∃qs,acc=qs++[x])->
  (match evSum k S v y (p+(acc.length:Int)) q b x n with
   | .error c=>f (.err c)
   | .ok (a,m)=>dA a->m<=n-> ∀h,Ag S V v (h::tl)->HE S.funs f (eN ts (h::tl) m a))->HE S.funs f (DR (.sum y lo hi b) y b p q acc ts (h::tl) n)
 |0,n,acc,x,h,_,_,hk,_,_,_=>by lia
 |k+1,n,acc,x,h,IH,A,hk,bx,ha,r=>by
  unfold evSum at r;unfold DR;have lx:acc.getLast?.getD 0=x:=by
   rcases ha with⟨e1,e2⟩|⟨qs,e⟩
   ·rw[e1,e2];rfl
   ·rw[e];simp
  by_cases hq:p+(acc.length:Int)<=q
  ·rw[E7 hq]
   rw[E5 (by lia)] at r;cases n with
   |zero=>exact qS r
   |succ n=>
    dsimp only at r ⊢;have bpt:dA (p+(acc.length:Int)):=by unfold dA at *; lia
    refine IH k (Ht _) (y::V) _ G b _ _ tl n (A.set ny bpt) w sb (by lia) ?_;cases h1:ev k S ((y,p+(acc.length:Int))::v) b n with
    |error c=>rw[h1] at r;exact r
    |ok z=>
     obtain⟨z,m1⟩:=z;rw[h1] at r;intro b1 l1 h' A0;have A':Ag S V v (h'::tl):=A0.unset ny A.big λe=>A.low (by rw[e];rfl);dsimp only at r;rw[vq] at r;have go: ∀(as:EV Int) (d:Int) (hd:dA d) (hl: ∃qs,as=qs++[d]) (hn:as.length=acc.length+1),(match evSum k S v y (p+(acc.length:Int)+1) q b d m1 with
       | .error c=>f (.err c)
       | .ok (a,m)=>dA a->m<=n+1-> ∀h,Ag S V v (h::tl)->HE S.funs f (eN ts (h::tl) m a))->HE S.funs f (DR (.sum y lo hi b) y b p q as ts (h'::tl) m1):=λas d hd hl hn r=>by
      refine xk sb ny bp bq w k m1 as d h' (λj hj=>IH j (Jb hj)) A' (by lia) hd (.inr hl) ?_;rw[show p+(as.length:Int)=p+(acc.length:Int)+1 by rw[hn];lia];cases h3:evSum k S v y (p+(acc.length:Int)+1) q b d m1 with
      |error c=>rw[h3] at r;exact r
      |ok z=>
       rw[h3] at r;intro y1 y2;exact r y1 (by lia)
     show HE S.funs f (.go ((.sum y lo hi b,p::q::(acc++[z]))::ts) (h'::tl) m1)
     rcases ha with⟨e1,e2⟩|⟨qs,e⟩
     ·subst e1 e2
      have cz:checked (0+z) 0= .ok (z,0):=by unfold checked;rw[Int.zero_add];exact E7 b1
      rw[cz] at r;exact HE.step (m':=DR (.sum y lo hi b) y b p q [z] ts (h'::tl) m1) (pN (acc:=[z]) (Fq 1)) (go [z] z b1 #[[],Gc] rfl r)
     ·subst e
      have st: ∀m,gJ (.sum y lo hi b) y b p q (qs++[x,z]) ts (h'::tl) m1=Fa m->HE S.funs f m->HE S.funs f (.go ((.sum y lo hi b,p::q::((qs++[x])++[z]))::ts) (h'::tl) m1):=λm e hm=>HE.step (m':=m) (by rw[Gr];exact e) hm
      refine st _ zE ?_;cases h2:checked (x+z) 0 with
      |error c=>rw[h2] at r;exact qS r
      |ok d=>
       obtain⟨d,o⟩:=d;rw[h2] at r;exact go _ d (bQ h2).1 #[qs++[x],by rw[Gr];rfl] (by simp) r
  ·rw[E5 hq,lx]
   rw[E7 (by lia)] at r;exact r bx (Fq _) h A
theorem aa1 (FO:gz S F0): ∀k,EvP S F0 f k:=by
 intro k
 induction k using Fm.strongRecOn with
 |_ k IH=>
  intro V v G e ts h tl n A w sb hk q;cases k with
  |zero=>lia
  |succ k=>
   cases n with
   |zero=>unfold ev at q;exact qS q
   |succ n=>
    have IH': ∀j,j<k->EvP S F0 f j:=λj hj=>IH j (Jb hj)
    have Ik:EvP S F0 f k:=IH k (Ht _)
    show HE S.funs f (.go ((e,[])::ts) (h::tl) n)
    unfold ev at q;unfold aa0 at q;cases e with
    |num x=>
     unfold WS at w;exact HE.step rfl (q (by unfold dA BIG;lia) (Ht _) h A)
    |name x=>
     exact HE.step (by unfold eA;dsimp only;rw[A.val x w];rfl) (q (A.big x) (Ht _) h A)
    |call g l=>
     dsimp only at q;unfold WS at w;obtain⟨⟨p,hp,hl⟩,wl⟩:=w;refine wW sb l k n [] h IH' A wl (by lia) rfl (λ_ z=>nomatch z) ?_
     cases h1:evAll k S v l n with
     |error c=>rw[h1] at q;exact q
     |ok z=>
      obtain⟨as,m1⟩:=z;rw[h1] at q;dsimp only at q ⊢;intro b1 q1 l1 h' A';rw[EV.nil_append] at b1 ⊢;have no:(kX l)[as.length]?=FB:=IF (J1 q1.symm);rcases FO.all g p (sb g p hp) with⟨fu,hg,hn,⟨Kg,Fg,wg,sg,sf⟩,_,_⟩|⟨hg,hb⟩
      ·rw[hg] at q
       dsimp only at q;have la:fu.2.1.length=as.length:=by rw[hn,<-hl,q1]
       refine HE.step (by unfold eA;dsimp only;rw[no,hg];dsimp only;rw[E7 q1]) (Ik (fu.2.1++Kg) (fu.2.1.zip as++S.consts) Fg fu.2.2 _ _ (h'::tl) m1 ?_ wg sf (by lia) ?_)
       ·have zf: ∀x,uV fu.2.1 as x=((fu.2.1.zip as).find? λa=>a.1 == x).map (·.2):=λ_=>rfl
        refine#[λx hx=>?_,λx hx=>A'.bot x hx,λz=>?_,λx=>?_]
        ·show(match uV fu.2.1 as x with|some a=>Fa a|none=>fN (h'::tl) x)=_
         rw[zf,lF];cases z:(fu.2.1.zip as).find? λa=>a.1 == x with
         |some a=>rfl
         |none=>
          refine A'.bot x ?_;rcases FK.mp hx with hx|hx
          ·exfalso
           obtain⟨i,hi,ei⟩:=EV.getElem_of_mem hx;have hz:=Pk.mp z (fu.2.1[i],as[i]'(by lia)) (EV.mem_iff_getElem.mpr #[i,by rw[WC];lia,by simp]);exact hz (by simp [ei])
          ·exact sg x hx
        ·have:(h'::tl).length+1=1:=z
         rw[Fj] at this;lia
        ·rw[lF]
         split
         ·rename_i a ha
          exact b1 _ (KS (Kq ha)).2
         ·exact FO.ahq x
       ·cases h2:ev k S (fu.2.1.zip as++S.consts) fu.2.2 m1 with
        |error c=>rw[h2] at q;exact q
        |ok z=>
         obtain⟨b,m2⟩:=z;rw[h2] at q;intro b2 l2 h2 A2;have no2:(kX l)[(as++[b]).length]?=FB:=IF (by rw[Ft,q1];exact JN _ _);refine HE.step (m':=eN ts (h'::tl) m2 b) ?_ (q b2 (by lia) h' A');show eA S.funs (.go ((.call g l,as++[b])::ts) _ _)=_;unfold eA;dsimp only;rw[no2,hg];dsimp only;rw[E5 (by rw[Ft,q1];exact Fm.succ_ne_self _),<-q1,EV.getElem?_concat_length]
         rfl
      ·rw[hg] at q
       exact HE.step (by unfold eA;dsimp only;rw[no,hg];dsimp only;rw[E7 q1]) (q (pS b1) (by lia) h' A')
    |neg e=>
     dsimp only at q;unfold WS at w;refine HE.step rfl (Ik V v G e _ h tl n A w sb (by lia) ?_);cases h1:ev k S v e n with
     |error c=>rw[h1] at q;exact q
     |ok z=>
      rw[h1] at q;intro b1 l1 h' A';exact HE.step rfl (q (wV b1) (by lia) h' A')
    |not e=>
     dsimp only at q;unfold WS at w;refine HE.step rfl (Ik V v G e _ h tl n A w sb (by lia) ?_);cases h1:ev k S v e n with
     |error c=>rw[h1] at q;exact q
     |ok z=>
      rw[h1] at q;intro b1 l1 h' A';exact HE.step rfl (q (gK _) (by lia) h' A')
    |sums e r=>
     dsimp only at q;unfold WS at w;refine HE.step rfl (Ik V v G e _ h tl n A w.1 sb (by lia) ?_);cases h1:ev k S v e n with
     |error c=>rw[h1] at q;exact q
     |ok z=>
      obtain⟨x,m1⟩:=z;rw[h1] at q;intro b1 l1 h' A';obtain⟨m,e1,e2⟩:=mI (s:=3) (e:= .sums e r) (ops:=e::Dh r) (sgs:=zI r) [01] (λ_ _ _ _=>rfl) sb r k m1 [] x h' IH' A' w.2.2 (by lia) b1 rfl rfl (by
       dsimp only at q;cases h3:VI k S v x r m1 with
       |error c=>rw[h3] at q;exact q
       |ok z=>rw[h3] at q;intro y1 y2;exact q y1 (by lia))
      exact HE.step ((nE (s:=3) (sgs:=zI r) (ps:=[x]) (Fq 1)).trans e1) e2
    |prods e r=>
     dsimp only at q;unfold WS at w;refine HE.step rfl (Ik V v G e _ h tl n A w.1 sb (by lia) ?_);cases h1:ev k S v e n with
     |error c=>rw[h1] at q;exact q
     |ok z=>
      obtain⟨x,m1⟩:=z;rw[h1] at q;intro b1 l1 h' A';obtain⟨m,e1,e2⟩:=mI (s:=4) (e:= .prods e r) (ops:=e::Dh r) (sgs:=zI r) [01] (λ_ _ _ _=>rfl) sb r k m1 [] x h' IH' A' w.2.2 (by lia) b1 rfl rfl (by
       dsimp only at q;cases h3:VI k S v x r m1 with
       |error c=>rw[h3] at q;exact q
       |ok z=>rw[h3] at q;intro y1 y2;exact q y1 (by lia))
      exact HE.step ((nE (s:=4) (sgs:=zI r) (ps:=[x]) (Fq 1)).trans e1) e2
    |cmp op x y=>
     dsimp only at q;unfold WS at w;refine HE.step rfl (Ik V v G x _ h tl n A w.2.1 sb (by lia) ?_);cases h1:ev k S v x n with
     |error c=>rw[h1] at q;exact q
     |ok z=>
      obtain⟨p,m1⟩:=z;rw[h1] at q;intro b1 l1 h' A';refine HE.step rfl (Ik V v G y _ h' tl m1 A' w.2.2 sb (by lia) ?_);dsimp only at q;cases h2:ev k S v y m1 with
      |error c=>rw[h2] at q;exact q
      |ok z=>
       rw[h2] at q;intro b2 l2 h2 A2;exact HE.step rfl (q (gK _) (by lia) h2 A2)
    |both e l=>
     dsimp only at q;unfold WS at w;refine qQ (s:=1) (λ_ _ _ _=>rfl) sb (.cons e l) (k+1) n [] h (λj hj=>IH j hj) A (by unfold om;exact#[w.1,w.2.2]) (by lia) rfl (by simp) ?_;rw[oh];cases h1:ev k S v e n with
     |error c=>rw[h1] at q;exact q
     |ok z=>
      obtain⟨x,m1⟩:=z;rw[h1] at q;dsimp only at q ⊢;by_cases hx:x=0
      ·rw[E7 hx] at q
       rw[E7 (show jg 1 x=FM by simp [jg,hx])];intro y1 y2;exact q y1 (by lia)
      ·rw[E5 hx] at q
       rw[E5 (show¬jg 1 x=FM by simp [jg,hx])];show match YX k S v l m1 with| .error c=>_| .ok (a,m)=>_
       cases h3:YX k S v l m1 with
       |error c=>rw[h3] at q;exact q
       |ok z=>rw[h3] at q;intro y1 y2;exact q y1 (by lia)
    |either e l=>
     dsimp only at q;unfold WS at w;refine qQ (s:=0) (λ_ _ _ _=>rfl) sb (.cons e l) (k+1) n [] h (λj hj=>IH j hj) A (by unfold om;exact#[w.1,w.2.2]) (by lia) rfl (by simp) ?_;rw[oh];cases h1:ev k S v e n with
     |error c=>rw[h1] at q;exact q
     |ok z=>
      obtain⟨x,m1⟩:=z;rw[h1] at q;dsimp only at q ⊢;by_cases hx:x≠0
      ·rw[E7 hx] at q
       rw[E7 (show jg 0 x=FM by simp [jg,hx])];intro y1 y2;exact q y1 (by lia)
      ·rw[E5 hx] at q
       rw[E5 (show¬jg 0 x=FM by simp [jg,hx])];show match Tq k S v l m1 with| .error c=>_| .ok (a,m)=>_
       cases h3:Tq k S v l m1 with
       |error c=>rw[h3] at q;exact q
       |ok z=>rw[h3] at q;intro y1 y2;exact q y1 (by lia)
    |pick c x y=>
     dsimp only at q;unfold WS at w;refine HE.step rfl (Ik V v G c _ h tl n A w.1 sb (by lia) ?_);cases h1:ev k S v c n with
     |error c=>rw[h1] at q;exact q
     |ok z=>
      obtain⟨p,m1⟩:=z;rw[h1] at q;intro b1 l1 h' A';dsimp only at q;by_cases hp:p≠0
      ·rw[E7 hp] at q
       refine HE.step (m':=kz x ((.pick c x y,[p])::ts) (h'::tl) m1) (by show Fa (kz (if p≠0 then x else y) _ _ _)=_;rw[E7 hp];rfl) (Ik V v G x _ h' tl m1 A' w.2.1 sb (by lia) ?_)
       cases h2:ev k S v x m1 with
       |error c=>rw[h2] at q;exact q
       |ok z=>
        rw[h2] at q;intro b2 l2 h2 A2;exact HE.step rfl (q b2 (by lia) h2 A2)
      ·rw[E5 hp] at q
       refine HE.step (m':=kz y ((.pick c x y,[p])::ts) (h'::tl) m1) (by show Fa (kz (if p≠0 then x else y) _ _ _)=_;rw[E5 hp];rfl) (Ik V v G y _ h' tl m1 A' w.2.2 sb (by lia) ?_)
       cases h2:ev k S v y m1 with
       |error c=>rw[h2] at q;exact q
       |ok z=>
        rw[h2] at q;intro b2 l2 h2 A2;exact HE.step rfl (q b2 (by lia) h2 A2)
    |sum y lo hi b=>
     dsimp only at q;unfold WS at w;refine HE.step rfl (Ik V v G lo _ h tl n A w.2.1 sb (by lia) ?_);cases h1:ev k S v lo n with
     |error c=>rw[h1] at q;exact q
     |ok z=>
      obtain⟨p,m1⟩:=z;rw[h1] at q;intro b1 l1 h' A';refine HE.step rfl (Ik V v G hi _ h' tl m1 A' w.2.2.1 sb (by lia) ?_);dsimp only at q;cases h2:ev k S v hi m1 with
      |error c=>rw[h2] at q;exact q
      |ok z=>
       obtain⟨r,m2⟩:=z;rw[h2] at q;intro b2 l2 h2 A2;dsimp only at q;refine HE.step (m':=DR (.sum y lo hi b) y b p r [] ts (h2::tl) m2) (pN (acc:=[]) (FI 1)) (xk sb w.1 b1 b2 w.2.2.2 k m2 [] 0 h2 IH' A2 (by lia) [01] (.inl #[Gc,Gc]) ?_);show match evSum k S v y (p+0) r b 0 m2 with| .error c=>_| .ok (a,m)=>_
       rw[Int.add_zero];cases h3:evSum k S v y p r b 0 m2 with
       |error c=>rw[h3] at q;exact q
       |ok z=>rw[h3] at q;intro y1 y2;exact q y1 (by lia)
end
end OS
namespace OS
open Vbemac
def WSx (F0:EV (F7×Fm)) (e:Exp):Prop:= ∃V G,WS V G e/\Sub G F0
structure Dm (F0:EV (F7×Fm)) (t:dX):Prop where
 ws:WSx F0 t.1
 ps: ∀x∈t.2,dA x
def xP (sc:EV fz):Prop:= ∀s∈sc,∀y x,s y=Fa x->dA x
def Gd (F0:EV (F7×Fm)):Mc->Prop
 | .go ts sc n=>(∀t∈ts,Dm F0 t)/\xP sc/\sc.length+n<=10001
 | .done x sc n=>dA x/\xP sc/\sc.length+n<=10001
 | .err _=>True
theorem fX (h: ∀t∈ts,Dm F0 t) (g:xP sc) (b:dA x) (sn:sc.length+n<=10001):Gd F0 (eN ts sc n x):=by
 cases ts with
 |nil=>exact#[b,g,sn]
 |cons t r=>
  refine#[λu hu=>?_,g,sn];rcases Fi.mp hu with z|z
  ·have:=h t (Fb ..)
   rw[z];refine#[this.ws,λy hy=>?_];rcases FK.mp hy with hy|hy
   ·exact this.ps y hy
   ·rw[Fz.mp hy];exact b
  ·exact h u (E9 _ z)
theorem fB (h: ∀t∈ts,Dm F0 t) (g:xP sc) (w:WSx F0 e) (sn:sc.length+n<=10002):Gd F0 (kz e ts sc n):=by
 cases n with
 |zero=>trivial
 |succ n=>
  refine#[λu hu=>?_,g,by lia];rcases Fi.mp hu with z|z
  ·rw[z];exact#[w,λy hy=>nomatch hy]
  ·exact h u z
theorem mf {V:EV F7}{G:EV (F7×Fm)} : ∀ {l:Exps}{e:Exp},om V G l->e∈kX l->WS V G e
 | .nil,_,_,h=>nomatch h
 | .cons a l,e,w,h=>by
  unfold om at w;rcases Fi.mp h with z|z
  ·rw[z];exact w.1
  ·exact mf w.2 z
theorem qA {L:EV String}{V:EV F7}{G:EV (F7×Fm)} : ∀ {r:Rest}{e:Exp},uB L V G r->e∈Dh r->WS V G e
 | .nil,_,_,h=>nomatch h
 | .cons op a l,e,w,h=>by
  unfold uB at w;rcases Fi.mp h with z|z
  ·rw[z];exact w.2.1
  ·exact qA w.2.2 z
theorem Cm (h: ∀t∈(e,ps)::ts,Dm F0 t) (g:xP sc) (sn:sc.length+n<=10001) (w: ∀o∈ops,WSx F0 o) (hm:oY s ops e ps ts sc n=Fa m):Gd F0 m:=by
 have h': ∀t∈ts,Dm F0 t:=λt ht=>h t (E9 _ ht)
 unfold oY at hm;split at hm
 ·cases hm;exact fX h' g (ma s).1 sn
 ·split at hm
  ·rename_i o ho
   cases hm;exact fB h g (w o (GP ho)) (by lia)
  ·cases hm;exact fX h' g (ma s).2 sn
theorem uc {a b v:Int}(h:fO s op a b= .ok v):dA v:=by
 unfold fO at h;split at h
 ·cases h;exact gK _
 ·split at h
  ·cases h
  ·rename_i e
   cases h;exact(pk e).1
theorem ve (h: ∀t∈(e,ps)::ts,Dm F0 t) (g:xP sc) (sn:sc.length+n<=10001) (w: ∀o∈ops,WSx F0 o) (hm:kP s ops sgs e ps ts sc n=Fa m):Gd F0 m:=by
 have h': ∀t∈ts,Dm F0 t:=λt ht=>h t (E9 _ ht)
 have h0:=h (e,ps) (Fb ..)
 have go: ∀qs:EV Int,(∀x∈qs,dA x)->(match ops[qs.length]? with
   |some o=>Fa (kz o ((e,qs)::ts) sc n)
   |none=>qs.getLast?.map λa=>eN ts sc n a)=Fa m->Gd F0 m:=λqs hq hm=>by
  split at hm
  ·rename_i o ho
   cases hm;refine fB (λt ht=>?_) g (w o (GP ho)) (by lia);rcases Fi.mp ht with z|z
   ·rw[z];exact#[h0.ws,hq]
   ·exact h' t z
  ·obtain⟨x,hx,rfl⟩:=F4.mp hm
   exact fX h' g (hq x (LY hx)) sn
 unfold kP at hm;dsimp only at hm;split at hm
 ·cases hm
 ·cases hm;trivial
 ·rename_i qs he
  refine go qs (λx hx=>?_) hm;split at he
  ·split at he
   ·rename_i op a b _ ha hb
    have he:=Fs he;split at he
    ·cases he
    ·rename_i v hv
     cases he;rcases FK.mp hx with hx|hx
     ·exact h0.ps x (T3 hx)
     ·rw[Fz.mp hx];exact uc hv
   ·cases he
  ·cases he;exact h0.ps x hx
theorem A9 (g:xP sc) (b:dA x):xP (oZ sc y x):=by
 cases sc with
 |nil=>exact g
 |cons s r=>
  intro t ht z v hv;unfold oZ at ht;rcases Fi.mp ht with e|e
  ·rw[e] at hv
   dsimp only at hv;split at hv
   ·cases hv;exact b
   ·exact g s (Fb ..) z v hv
  ·exact g t (E9 _ e) z v hv
theorem Eb (h: ∀t∈(e,p::q::acc)::ts,Dm F0 t) (g:xP sc) (sn:sc.length+n<=10001) (w:WSx F0 b) (hm:gJ e y b p q acc ts sc n=Fa m):Gd F0 m:=by
 have h': ∀t∈ts,Dm F0 t:=λt ht=>h t (E9 _ ht)
 have h0:=h (e,p::q::acc) (Fb ..)
 have hp:dA p:=h0.ps p (Fb ..)
 have hq:dA q:=h0.ps q (E9 _ (Fb ..))
 have ha: ∀x∈acc,dA x:=λx hx=>h0.ps x (E9 _ (E9 _ hx))
 unfold gJ at hm;dsimp only at hm;split at hm
 ·cases hm;trivial
 ·rename_i as he
  have hs: ∀x∈as,dA x:=λx hx=>by
   split at he
   ·split at he
    ·cases he
    ·rename_i v _ hv
     cases he;rcases FK.mp hx with hx|hx
     ·exact ha x (T3 hx)
     ·rw[Fz.mp hx];exact(bQ hv).1
   ·cases he;exact ha x hx
  split at hm
  ·rename_i hle
   cases n with
   |zero=>cases hm;trivial
   |succ n=>
    cases sc with
    |nil=>cases hm
    |cons s0 sc=>
    cases hm;refine fB (λt ht=>?_) (A9 g (by unfold dA at *; lia)) w (by show(s0::sc).length+n<=10002;lia);rcases Fi.mp ht with z|z
    ·rw[z]
     refine#[h0.ws,λx hx=>?_];rcases Fi.mp hx with z|hx
     ·rw[z];exact hp
     ·rcases Fi.mp hx with z|hx
      ·rw[z];exact hq
      ·exact hs x hx
    ·exact h' t z
  ·cases hm
   refine fX h' g ?_ sn;cases z:as.getLast? with
   |none=>show dA 0;decide
   |some x=>exact hs x (LY z)
theorem Em (FO:gz S F0) {m m':Mc}(h:Gd F0 m) (hm:eA S.funs m=Fa m'):Gd F0 m':=by
 cases m with
 |done x sc n=>cases hm
 |err c=>cases hm
 |go ts sc n=>
  cases ts with
  |nil=>cases hm
  |cons t ts=>
   obtain⟨e,ps⟩:=t;obtain⟨h,g,sn⟩:=h;have h': ∀t∈ts,Dm F0 t:=λt ht=>h t (E9 _ ht)
   have h0:=h (e,ps) (Fb ..);obtain⟨V,G,w,sb⟩:=h0.ws;unfold eA at hm;cases e with
   |num x=>cases hm;unfold WS at w;exact fX h' g (by unfold dA BIG;lia) sn
   |name x=>
    obtain⟨v,hv,rfl⟩:=F4.mp hm;refine fX h' g ?_ sn;unfold look at hv;cases sc with
    |nil=>cases hv
    |cons s r=>
     split at hv
     ·rename_i a ha
      cases hv;exact g s (Fb ..) x v ha
     ·unfold fN at hv
      rw[Rl] at hv;cases z:(s::r).getLast? with
      |none=>rw[z] at hv;cases hv
      |some t=>rw[z] at hv;exact g t (LY z) x v hv
   |call f l=>
    dsimp only at hm;unfold WS at w;split at hm
    ·rename_i o ho
     cases hm;exact fB h g #[V,G,mf w.2 (GP ho),sb] (by lia)
    ·split at hm
     ·split at hm
      ·cases hm;exact fX h' g (pS h0.ps) sn
      ·cases hm
     ·rename_i fu hf
      obtain⟨⟨p,hp,hl⟩,wl⟩:=w;split at hm
      ·cases hm
       rcases FO.all f p (sb f p hp) with⟨g',hg,hn,⟨Kg,Fg,wg,sg,sf⟩,_,_⟩|⟨hg,_⟩
       ·rw[hf] at hg
        cases hg;refine fB h (λs hs y x hx=>?_) #[_,Fg,wg,sf] (by rw[Fj];lia);rcases Fi.mp hs with z|z
        ·rw[z] at hx
         obtain⟨a,ha,rfl⟩:=F4.mp hx;exact h0.ps _ (KS (Kq ha)).2
        ·exact g s z y x hx
       ·rw[hf] at hg;cases hg
      ·cases sc with
       |nil=>cases hm
       |cons s0 sc=>
       obtain⟨v,hv,rfl⟩:=F4.mp hm;exact fX h' (λs hs=>g s (E9 _ hs)) (h0.ps v (GP hv)) (by rw[Fj] at sn;lia)
   |neg e=>
    unfold WS at w;cases ps with
    |nil=>cases hm;exact fB h g #[V,G,w,sb] (by lia)
    |cons b r=>cases hm;exact fX h' g (wV (h0.ps b (Fb ..))) sn
   |not e=>
    unfold WS at w;cases ps with
    |nil=>cases hm;exact fB h g #[V,G,w,sb] (by lia)
    |cons b r=>cases hm;exact fX h' g (gK _) sn
   |sums e r=>
    unfold WS at w;refine ve h g sn (λo ho=>?_) hm;rcases Fi.mp ho with z|z
    ·rw[z];exact#[V,G,w.1,sb]
    ·exact#[V,G,qA w.2.2 z,sb]
   |prods e r=>
    unfold WS at w;refine ve h g sn (λo ho=>?_) hm;rcases Fi.mp ho with z|z
    ·rw[z];exact#[V,G,w.1,sb]
    ·exact#[V,G,qA w.2.2 z,sb]
   |cmp op x y=>
    unfold WS at w;refine ve h g sn (λo ho=>?_) hm;rcases Fi.mp ho with z|z
    ·rw[z];exact#[V,G,w.2.1,sb]
    ·rw[Fz.mp z];exact#[V,G,w.2.2,sb]
   |both e l=>
    unfold WS at w;refine Cm h g sn (λo ho=>?_) hm;rcases Fi.mp ho with z|z
    ·rw[z];exact#[V,G,w.1,sb]
    ·exact#[V,G,mf w.2.2 z,sb]
   |either e l=>
    unfold WS at w;refine Cm h g sn (λo ho=>?_) hm;rcases Fi.mp ho with z|z
    ·rw[z];exact#[V,G,w.1,sb]
    ·exact#[V,G,mf w.2.2 z,sb]
   |pick c x y=>
    unfold WS at w;dsimp only at hm;split at hm
    ·cases hm;exact fB h g #[V,G,w.1,sb] (by lia)
    ·rename_i p
     cases hm;refine fB h g ?_ (by lia);split
     ·exact#[V,G,w.2.1,sb]
     ·exact#[V,G,w.2.2,sb]
    ·rename_i v
     cases hm;exact fX h' g (h0.ps _ (E9 _ (Fb ..))) sn
    ·cases hm
   |sum y lo hi b=>
    unfold WS at w;dsimp only at hm;split at hm
    ·cases hm;exact fB h g #[V,G,w.2.1,sb] (by lia)
    ·cases hm;exact fB h g #[V,G,w.2.2.1,sb] (by lia)
    ·exact Eb h g sn #[y::V,G,w.2.2.2,sb] hm
end OS
namespace OS
open PySem PySem.Spec L2
open PyProof.Rows hiding St
variable {P:FW}{w:Gx}{K:E1}{mg:FD->Fd E3}{base:GI}{a:bf}
abbrev IsZ (h:GI) (z TI TO T:E4) (b:Gg):Prop:=
 h.get? z=Fa { cls:= .type "zip",dict:=FB,data:= .fields [NX T, .bool b, .bool FS, .ref TI, .ref TO].toArray,slots:= [].toArray }
section
variable {prog:FW}{A:GG}{E:E3->E8->Prop}{s:E8}{z TI TO T i1 i2 l1 l2:E4}{b:Gg}{k1 k2:Fm}{xs ys:Jk E3}{x y:E3}{oT:IG}
theorem BW {a:E4}{Q:Fd IG->E8->Prop}(h:Q (s.heap.get? a) s):FG (model prog w) A (loadIfAlive a) Q E s:=λΓ p _=>by
 unfold loadIfAlive;rw[PySem.Sem.wp_loadIfAlive];exact h
theorem Cj {Q:Gg->E8->Prop}(hz:IsZ s.heap z TI TO T b) (hT:s.heap.get? T=Fa oT) (hQ: ∀h',IsZ h' z TI TO T FM->My z s.heap h'->Q FS { s with heap:=h' }):FG (model prog w) A (MU (.ref z)) Q E s:=by
 unfold MU;refine Fn (wpAny_field hz rfl (x:=NX T) rfl ?_);refine Fn (BW ?_);rw[show((T:Int)).toNat=T from rfl,hT];refine Fn (wpAny_field hz rfl (x:= .bool b) rfl ?_);cases b with
 |true=>exact Fn (FT (FT (hQ _ hz #[Gc,λ_ _=>rfl])))
 |false=>exact Fn (wpAny_setField_rec hz (by simp) λh' hz' hs=>FT (hQ h' hz' hs))
theorem Ar (hh:A.handled=FB) (D:WG z TI TO i1 i2 l1 l2) (hz:IsZ s.heap z TI TO T b) (hT:s.heap.get? T=Fa oT) (TU:Ru s.heap TI (.ref i1) (.ref i2))
  (h1:s.heap.IsListIter i1 l1 k1) (h2:s.heap.IsListIter i2 l2 k1) (Ux:s.heap.IsList l1 xs) (TM:s.heap.IsList l2 ys) {Q:Fd E3->E8->Prop}
  (hE:xs[k1]?=FB-> ∀h',(∀c o,c≠z->c≠i1->s.heap.get? c=Fa o->h'.get? c=Fa o)->Q FB { s with heap:=h' })
  (hQ: ∀x,xs[k1]?=Fa x-> ∃y,ys[k1]?=Fa y/\ ∀h',IsZ h' z TI TO T FM->h'.IsListIter i1 l1 (k1+1)->h'.IsListIter i2 l2 (k1+1)->Ru h' s.heap.objs.size x y->h'.objs.size=s.heap.objs.size+1->
   (∀c o,c≠z->c≠i1->c≠i2->s.heap.get? c=Fa o->h'.get? c=Fa o)->Q (Fa (.ref s.heap.objs.size)) { s with heap:=h' }):
  FG (model prog w) A (Rt (.ref z)) Q E s:=by
 have hTy:s.TypeIs (.ref z) "zip":=#[_,hz,Gc];unfold Rt;refine Fn (wpAny_attempt (wpAny_callSpecial?_slot (name:=FD.ofString "__next__") hTy F.slot_zip_next (wpAny_call_entry F.slot_zip_next hTy F.entry_zip_next ?_ (F.args_zip_next_1 _))))
 show FG _ _ (field (.ref z) 2>>=_) _ _ _
 refine Fn (wpAny_field hz rfl (x:= .bool FS) rfl ?_);show FG _ _ (field (.ref z) 3>>=_) _ _ _;refine Fn (wpAny_field hz rfl (x:= .ref TI) rfl ?_);refine Fn (wpAny_seqItems TU rfl ?_);refine Fn (Cj hz hT λh₁ hz₁ Xj=>?_);refine Fn ?_;simp only[<-Jk.forIn_toList,WB,Q7];refine Fn (Fn (NW ?_));show FG _ _ (Ol (.ref i1)>>=_) _ _ _;cases hx:xs[k1]? with
 |none=>
  refine Fn (wpAny_nextOf_list_end hh (h1.extBut Xj.extBut D.i1z) (Ux.extBut Xj.extBut D.l1z) hx λh₂ e hs₂ he=>?_);obtain⟨o,ho,hc⟩:=he;exact Fn (wpAny_isInstance (T:="StopIteration") (b:=FM) #[o,ho,hc] isSubtype_stop (FT (hE hx _ λc o n1 n2 e=>hs₂ _ _ n2 (Xj.extBut _ _ n1 e))))
 |some x=>
  obtain⟨y,hy,hQ⟩:=hQ x hx;refine Fn (Vq (h1.extBut Xj.extBut D.i1z) (Ux.extBut Xj.extBut D.l1z) hx λh₂ h1₂ hs₂=>FT (FT (Fn (Fn (NW ?_)))));show FG _ _ (Ol (.ref i2)>>=_) _ _ _;refine Fn (Vq ((h2.extBut Xj.extBut D.i2z).extBut hs₂.extBut D.i12.symm) ((TM.extBut Xj.extBut D.l2z).extBut hs₂.extBut D.l2i1) hy λh₃ h2₃ hs₃=>FT (FT (FT (Fn (wpAny_newTuple (hsz:=by show 2<=FP;decide) (FT #[_,Gc,FT ?_]))))));have hsz:h₃.objs.size=s.heap.objs.size:=by rw[hs₃.1,hs₂.1,Xj.1]
  have up: ∀ {c:E4}{o:IG}{q:IG},h₃.get? c=Fa o->(h₃.push q).get? c=Fa o:=λe=>Fl _ e
  rw[hsz];exact hQ _ (up (hs₃.extBut _ _ D.i2z.symm (hs₂.extBut _ _ D.i1z.symm hz₁))) ((h1₂.extBut hs₃.extBut D.i12).at λo e=>up e) (h2₃.at λo e=>up e) (by show GI.get? _ _=_;rw[<-hsz];exact GK _ rfl) (by rw[HC,hsz]) λc o n1 n2 n3 e=>up (hs₃.extBut _ _ n3 (hs₂.extBut _ _ n2 (Xj.extBut _ _ n1 e)))
theorem o6:HD (.type "zip") "keys"=pure FB:=am_miss_of_fast [00]
theorem lj:HD (.type "zip") "__getattr__"=pure FB:=am_miss_of_fast [00]
theorem rE:entryFor table "zip.__getattribute__"=Fa Builtin.«object.__getattribute__»:=
 entryFor_alias (id':="object.__getattribute__") (by kernel_rfl) [00] [00] (by kernel_rfl)
theorem aa2 (a:E4) (vs:Jk E3) (u:Tok):
  Meets (Builtin.«object.__getattribute__» #[[.ref a, .str "keys" u],[]]) (λA R s=>s.heap.get? a=Fa { cls:= .type "zip",dict:=FB,data:= .fields vs,slots:= [].toArray } /\raisesAttr (.ref a) "keys" A R s):=
 Meets.of_wp λprog w A R s hs=>by
  obtain⟨hp,g,d,tk,os⟩:=s;obtain⟨hx,hs⟩:=hs;have hT:(⟨hp,g,d,tk,os⟩:E8).TypeIs (.ref a) "zip":=#[_,hx,Gc];have amo:=o6;unfold Builtin.«object.__getattribute__»
  repeat (any_goals (first|assumption|wp_step))
  exact wpAny_raiseAttrError hs.1 hs.2 (attrMsg_fits [00] [00])
theorem CI {a:E4}{vs:Jk E3}{Q:Fd E3->E8->Prop}(hx:s.heap.get? a=Fa { cls:= .type "zip",dict:=FB,data:= .fields vs,slots:= [].toArray }) (hA:A.handled=FB)
  (h: ∀h' tk,(∀b ob,s.heap.get? b=Fa ob->h'.get? b=Fa ob)->Q FB { s with heap:=h',toks:=tk }):FG (model prog w) A (getAttr? (.ref a) "keys") Q E s:=by
 obtain⟨hp,g,d,tk,os⟩:=s;have hT: ∀TN,(⟨hp,g,d,TN,os⟩:E8).TypeIs (.ref a) "zip":=λ_=>#[_,hx,Gc]
 have f1:=sub_AttributeError
 have f3:=Lz.lookup
 have f4:=Lz.bind (.ref a)
 have f5:=lj;unfold getAttr? getAttrBy? getAttrBy
 repeat (any_goals (first|assumption|exact hT _|((with_reducible show FG _ _ (call (LM "zip.__getattribute__") _ _) _ _ _);refine call_meets Lz (hT _) rE (PySem.F.args_zip_getattribute_2 _ _) (aa2 a vs _) #[hx,hA,λh' TN e hx'=>?_])|wp_step))
 obtain⟨t',u',he⟩:=hx'.there;show FG _ _ (YQ _ _ _ _ _ _ _) _ _ _;unfold YQ
 repeat (any_goals (first|assumption|wp_step))
 all_goals first|exact h _ _ hx'.keeps|(dsimp only;repeat (any_goals (first|assumption|exact h _ _ hx'.keeps|wp_step)))
end
section
variable {prog:FW}{A:GG}{E:E3->E8->Prop}{s:E8}{z TI TO T i1 i2 l1 l2:E4}{b:Gg}{k1 k2:Fm}{xs ys:Jk E3}{x y:E3}{oT:IG}
def ZS (S z TI TO i1 i2:E4) (h:GI):Prop:=(IsZip h z TI TO .none/\ ∃x y,Ru h TO x y)\/ ∃T oT b,IsZ h z TI TO T b/\h.get? T=Fa oT/\T≠S/\T≠z/\T≠i1/\T≠i2
abbrev Fr (s:GI) (l:EV E4) (h':GI):Prop:= ∀c o,c∉l->s.get? c=Fa o->h'.get? c=Fa o
theorem w8 (hh:A.handled=FB) (D:WG z TI TO i1 i2 l1 l2) (hz:ZS S z TI TO i1 i2 s.heap) (TU:Ru s.heap TI (.ref i1) (.ref i2)) (hS:S<s.heap.objs.size)
  (h1:s.heap.IsListIter i1 l1 k1) (h2:s.heap.IsListIter i2 l2 k1) (Ux:s.heap.IsList l1 xs) (TM:s.heap.IsList l2 ys) {Q:Fd E3->E8->Prop}
  (hE:xs[k1]?=FB-> ∀h',Fr s.heap [z,TO,i1,i2] h'->Q FB { s with heap:=h' })
  (hQ: ∀x,xs[k1]?=Fa x-> ∃y,ys[k1]?=Fa y/\ ∀h',ZS S z TI TO i1 i2 h'->h'.IsListIter i1 l1 (k1+1)->h'.IsListIter i2 l2 (k1+1)->Ru h' s.heap.objs.size x y->Fr s.heap [z,TO,i1,i2] h'->Q (Fa (.ref s.heap.objs.size)) { s with heap:=h' }):
  FG (model prog w) A (Rt (.ref z)) Q E s:=by
 have lt: ∀ {c:E4}{o:IG},s.heap.get? c=Fa o->s.heap.objs.size≠c:=λe=>Lk (FJ e)
 have fr: ∀ {h':GI},(∀c o,c≠z->c≠TO->c≠i1->c≠i2->s.heap.get? c=Fa o->h'.get? c=Fa o)->Fr s.heap [z,TO,i1,i2] h':=λk c o n e=>by
  simp only[Fi,Hs,or_false,VH] at n;exact k c o n.1 n.2.1 n.2.2.1 n.2.2.2 e
 have j1:s.heap.objs.size≠i1:=by obtain⟨_,e,_⟩:=h1;exact lt e
 have j2:s.heap.objs.size≠i2:=by obtain⟨_,e,_⟩:=h2;exact lt e
 rcases hz with⟨hz,x0,y0,hTO⟩|⟨T,oT,b,hz,hT,n1,n2,n3,n4⟩
 ·cases hx:xs[k1]? with
  |none=>exact wpAny_pyNext_zip_end hh D hz TU hTO h1 h2 Ux TM (.inl hx) λh' k=>hE hx h' (fr k)
  |some x=>
   obtain⟨y,hy,hQ⟩:=hQ x hx;exact wpAny_pyNext_zip_item D hz TU hTO h1 h2 Ux TM hx hy λh' a1 a2 a3 a4 a5 a6 k=>hQ h' (.inr #[_,_,FS,a1,a5,Lk hS,lt hz,j1,j2]) a3 a4 a5 (fr k)
 ·refine Ar hh D hz hT TU h1 h2 Ux TM (λe h' k=>hE e h' (fr λc o m1 _ m3 _=>k c o m1 m3)) λx hx=>?_
  obtain⟨y,hy,hQ⟩:=hQ x hx;exact#[y,hy,λh' a1 a3 a4 a5 a6 k=>hQ h' (.inr #[T,oT,FM,a1,k _ _ n2 n3 n4 hT,n1,n2,n3,n4]) a3 a4 a5 (fr λc o m1 _ m3 m4=>k c o m1 m3 m4)]
theorem Cr {R:Result->E8->Prop}(hh:A.handled=FB) (D:WG z TI TO i1 i2 l1 l2) (nS:S∉[z,TO,i1,i2,TI,l1,l2]):
  ∀(rest:EV (a8×E3)) (k:Fm) (acc:EV (a8×E3)) (ix:Int) (t:Tok) (s:E8),xs.size=k+rest.length->acc.length+rest.length<=FP->
   (∀(j:Fm) (q:a8×E3),rest[j]?=Fa q-> ∃u,xs[k+j]?=Fa u/\ys[k+j]?=Fa q.2/\jn q.1 u=FM)->
   ZS S z TI TO i1 i2 s.heap->Ru s.heap TI (.ref i1) (.ref i2)->s.heap.IsListIter i1 l1 k->s.heap.IsListIter i2 l2 k->s.heap.IsList l1 xs->s.heap.IsList l2 ys->s.heap.DictOf (aT prog w) S acc->
   (∀h' tk,h'.DictOf (aT prog w) S (merged acc rest)->Fr s.heap [S,z,TO,i1,i2] h'->R (.ok (.ret res)) { s with heap:=h',toks:=tk })->
   Lf (model prog w) A (.builtin "dict.update.loop" #[[.ref S, .ref z, .int ix t,res],[]]) R s:=by
 simp only[Fi,Hs,or_false,VH] at nS;obtain⟨Sz,STO,Si1,Si2,STI,Sl1,Sl2⟩:=nS;intro rest
 induction rest with
 |nil=>
  intro k acc ix t s hsz hln ht hz TU h1 h2 Ux TM hm hR;refine codeAny_builtin sr ?_;rw[SN iG _];show FG _ A.in1 (Rt (.ref z)>>=_) _ _ s;refine Fn (w8 (A:=A.in1) hh D hz TU (by obtain⟨_,_,_,e,_⟩:=hm;exact FJ e) h1 h2 Ux TM (λ_ h' f=>?_) λx hx=>?_)
  ·show FG _ A.in1 (Builtin.Dict.addKeywords S []>>=_) _ _ _
   refine Fn (FT (FT ?_));exact hR h' s.toks (hm.at λo e=>f _ o (by simp [Sz,STO,Si1,Si2]) e) λc o n e=>f c o (λz=>n (E9 _ z)) e
  ·rw[Jk.getElem?_eq_none (show xs.size<=k from J1 hsz)] at hx
   cases hx
 |cons q rest ih=>
  intro k acc ix t s hsz hln ht hz TU h1 h2 Ux TM hm hR;obtain⟨u,hb,hb2,hk⟩:=ht 0 q rfl;rw[Fj] at hsz hln;have hS:S<s.heap.objs.size:=by obtain⟨_,_,_,e,_⟩:=hm;exact FJ e
  refine codeAny_builtin sr ?_;rw[SN iG _];show FG _ A.in1 (Rt (.ref z)>>=_) _ _ s;refine Fn (w8 (A:=A.in1) hh D hz TU hS h1 h2 Ux TM (λe=>?_) λx hx=>#[_,hb2,λh' z' i1' i2' pr f=>?_])
  ·rw[show xs[k]?=Fa u from hb] at e;cases e
  cases (show xs[k]?=Fa u from hb).symm.trans hx;have gs: ∀ {c:E4}{o:IG},c∉[z,TO,i1,i2]->s.heap.get? c=Fa o->h'.get? c=Fa o:=λn e=>f _ _ n e
  have hm1:h'.DictOf (aT prog w) S acc:=hm.at λo e=>gs (by simp [Sz,STO,Si1,Si2]) e
  show FG _ A.in1 (holding [FL s.heap.objs.size] _>>=_) _ _ _
  refine Fn (NW ?_);refine Fn (wpAny_tryCatch ?_);unfold Builtin.Dict.pairItems;refine Fn (Vv (T:="tuple") #[_,pr,Gc] ?_);rw[E7 (by first|decide|rfl|simp)]
  refine Fn (wpAny_seqItems pr rfl (FT ?_));show FG _ A.in1 (holding [u,q.2] (dictSet S u q.2)) _ _ _;refine NW (wpAny_dictSet_pairs (knd:=aT prog w) (k:=q.1) hk hm1 (λh2' hm2 Vm=>?_) (by lia));have up: ∀ {c:E4}{o:IG},c≠S->h'.get? c=Fa o->h2'.get? c=Fa o:=λn e=>Vm.extBut _ _ n e
  refine FT #[plainId_quiet iG _,ih (k+1) (stored acc q.1 q.2) (ix+1) 0 _ (show xs.size=k+1+rest.length by lia) ?_ (λj q' e=>?_) ?_ ?_ ?_ ?_ ?_ ?_ hm2 λh3 tk Xe k3=>?_]
  ·have z:=stored_length_le acc q.1 q.2
   lia
  ·rw[show k+1+j=k+(j+1) by lia]
   exact ht (j+1) q' e
  ·rcases z' with⟨a1,x0,y0,a2⟩|⟨T,oT,b,a1,a2,n1,n2,n3,n4⟩
   ·exact .inl #[up (Iu Sz) a1,x0,y0,up (Iu STO) a2]
   ·exact .inr #[T,oT,b,up (Iu Sz) a1,up n1 a2,n1,n2,n3,n4]
  ·exact up (Iu STI) (gs (by simp [D.TIz,D.TITO,D.TIi1,D.TIi2]) TU)
  ·exact i1'.at λo e=>up (Iu Si1) e
  ·exact i2'.at λo e=>up (Iu Si2) e
  ·exact Ux.at λo e=>up (Iu Sl1) (gs (by simp [D.l1z,D.l1TO,D.l1i1,D.l1i2]) e)
  ·exact TM.at λo e=>up (Iu Sl2) (gs (by simp [D.l2z,D.l2TO,D.l2i1,D.l2i2]) e)
  ·exact hR h3 tk Xe λc o n e=>k3 c o n (up (λz=>n (by rw[z];exact Fb)) (gs (λz=>n (E9 _ z)) e))
theorem oW {Q:E3->E8->Prop}(hh:A.handled=FB) (D:WG z TI TO i1 i2 l1 l2) (hz:IsZip s.heap z TI TO .none) (hTO:Ru s.heap TO x y) (TU:Ru s.heap TI (.ref i1) (.ref i2))
  (h1:s.heap.IsListIter i1 l1 0) (h2:s.heap.IsListIter i2 l2 0) (Ux:s.heap.IsList l1 xs) (TM:s.heap.IsList l2 ys) (hsz:xs.size=oR.length) (hln:oR.length<=FP)
  (ht: ∀(j:Fm) (q:a8×E3),oR[j]?=Fa q-> ∃u,xs[j]?=Fa u/\ys[j]?=Fa q.2/\jn q.1 u=FM)
  (h: ∀h' tk,h'.DictOf (aT prog w) s.heap.objs.size (merged [] oR)->Fr s.heap [z,TO,i1,i2] h'->Q (.ref s.heap.objs.size) { s with heap:=h',toks:=tk }):
  FG (model prog w) A (call (.type "dict") [.ref z]) Q E s:=by
 refine callType_codes (Q₁:=λobj s₁=>obj= .ref s.heap.objs.size/\s₁= { s with heap:=s.heap.push { cls:= .type "dict",data:= .dict [].toArray } }) PySem.F.kt_called_dict (PySem.F.kt_typeCall_dict_1 _) PySem.F.entry_dict_init (kt_code_dict_new _ #[Gc,Gc]) ?_;rintro obj s₁ ⟨rfl,rfl⟩;have aa3:(s.heap.push { cls:= .type "dict",data:= .dict [].toArray }).DictOf (aT prog w) s.heap.objs.size []:=S9 s.heap;have k0: ∀ {b:E4}{o:IG},s.heap.get? b=Fa o->(s.heap.push { cls:= .type "dict",data:= .dict [].toArray }).get? b=Fa o:=λe=>Fl _ e
 refine#[aa3.typeIs,PySem.F.args_dict_init_2 _ _,?_];unfold Builtin.«dict.__init__»;refine Fn ?_;unfold Builtin.Dict.selfAndRest;refine Fn (wpAny_notOrdered_dict aa3.typeIs ?_);show FG _ _ (pure (s.heap.objs.size,[FL z])) _ _ _;refine FT ?_;show FG _ _ (Qi "dict.__init__" s.heap.objs.size (.ref z) [] .none) _ _ _;unfold Qi;refine Fn (Vv (T:="zip") #[_,k0 hz,Gc] ?_);rw[E7 (by first|decide|rfl|simp)]
 refine Fn (CI (k0 hz) hh λh1' tk1 hk1=>?_);rw[E7 (show(FB:Fd E3).isNone=FM from rfl)];refine Fn (wpAny_rule ?_);have up: ∀ {b:E4}{o:IG},s.heap.get? b=Fa o->h1'.get? b=Fa o:=λe=>hk1 _ _ (k0 e)
 refine Fn (wpAny_pyIter_zip (up hz) ?_);have ne: ∀ {b:E4}{o:IG},s.heap.get? b=Fa o->s.heap.objs.size≠b:=λe=>Lk (FJ e)
 have key:=Cr (prog:=prog) (w:=w) (A:=A.in1) (R:=wants (λr s₂=>r= .none/\Q (.ref s.heap.objs.size) s₂) E) (S:=s.heap.objs.size) (res:=HK) (xs:=xs) (ys:=ys) hh D
  (by
   obtain⟨_,e1,_⟩:=h1;obtain⟨_,e2,_⟩:=h2;obtain⟨_,e3,_⟩:=Ux;obtain⟨_,e4,_⟩:=TM;simp only[Fi,Hs,or_false,VH];exact#[ne hz,ne hTO,ne e1,ne e2,ne TU,ne e3,ne e4]) oR 0 [] 0 0 { s with heap:=h1',toks:=tk1 } (by rw[hsz,Kv]) (by rw[J5,Kv];exact hln)
  (λj q e=>by rw[Kv];exact ht j q e) (.inl #[up hz,_,_,up hTO]) (up TU) (h1.at λo e=>up e) (h2.at λo e=>up e) (Ux.at λo e=>up e) (TM.at λo e=>up e) (aa3.at λo e=>hk1 _ _ e)
  (λh' tk Xe k=>#[Gc,h h' tk Xe λb o n e=>k b o (λz=>(Fi.mp z).elim (λz=>ne e z.symm) n) (up e)])
 first
  |exact FT #[plainId_quiet iG _,key]
  |exact Fn (FT (FT #[plainId_quiet iG _,key]))
end
section
variable {X:Cx}
theorem Cf {P:FW}{w:Gx} : ∀ {aD:EV (a8×V)}{Ho Qp:EV E3},aY (aD.map λq=>kV q.1) Ho->aY (aD.map (·.2)) Qp-> ∃oR:EV (a8×E3),KV aD oR/\ ∀(j:Fm) (q:a8×E3),oR[j]?=Fa q-> ∃u,Ho[j]?=Fa u/\Qp[j]?=Fa q.2/\jn q.1 u=FM
 |[],_,_,h1,h2=>by cases h1;cases h2;exact#[[], .nil,λj q e=>by simp at e]
 |kv::aD,_,_, .cons (b:=u) a1 r1, .cons (b:=y) a2 r2=>by
  obtain⟨oR,r,hp⟩:=Cf (P:=P) (w:=w) r1 r2;refine#[(kv.1,y)::oR, .cons #[Gc,a2] r,λj q e=>?_];cases j with
  |zero=>cases e;exact#[u,Gc,Gc,oH (P:=P) (w:=w) a1]
  |succ j=>exact hp j q e
theorem vD {e e2:Hv}{ta:TA}{p p' pos Nt:Pos}(hc:X.calm=FM) (hg:Gl X "zip") (hm:X.mg "zip"=FB) (hg':Gl X "dict") (PM:X.mg "dict"=FB) (ha:PA X [e,e2] ta)
  (hs:Fy [e,e2] X.env=[001]::Fy [e2] X.env) (MJ:(IE pos (Fy [e2] X.env)).any (·.1)=FS):
  PE X (.Call (.Name "dict" p') [.Call (.Name "zip" p) [e,e2] [] pos] [] Nt) (λσ H Q=>ta σ H λvs H1=> ∃(a b:E4) (aD:EV (a8×V)),vs=[.ref a, .ref b]/\cC X.K H1 a (aD.map λq=>kV q.1)/\cC X.K H1 b (aD.map (·.2))/\ ∀d,H1 d=FB->Q (.ref d) (aF H1 d (.dK (fR [] aD)))):=by
 rw[01];refine Call_ (kT I hg' PM (show KQ "dict"=Fa (.type "dict") by decide+kernel) (JM ?_ rfl rfl));show FG _ _ (spliced [(FS,_)]) _ _ s;refine KR (Call_ (kT I hg hm zw (JM (b9 (ha pos pins s σ H _ I h) λus s1 ⟨vs,H1,I1,r1,q1⟩=>?_) hs MJ)));obtain⟨a,b,aD,ex,hqx,hqy,q⟩:=q1;subst ex;cases r1 with
 |cons r rr=>
  cases rr with
  |cons r' rr=>
   cases rr;cases r;cases r';obtain⟨Ho,rv,p1,hz⟩:=I1.list hqx;obtain⟨Qp,rv2,p2,_⟩:=I1.list hqy;have hi:Ho.length=aD.length:=by rw[<-rv.length,Fh]
   refine call_zip_2 p1.isList p2.isList λh' hz' TU hTO h1 h2 hsz hk=>Lb ?_;obtain⟨oR,rel,hp⟩: ∃oR:EV (a8×E3),KV aD oR/\ ∀(j:Fm) (q:a8×E3),oR[j]?=Fa q-> ∃u,Ho[j]?=Fa u/\Qp[j]?=Fa q.2/\jn q.1 u=FM:=Cf (P:=X.prog) (w:=X.w) rv rv2;have pl:oR.length=aD.length:=rel.length.symm;refine oW (oR:=oR) (I1.ok.hd hc) (PySem.W.ktu_apart s1.heap.objs.size a b p1.lt p2.lt) hz' hTO TU h1 h2 (p1.isList.at λo e=>hk _ _ e) (p2.isList.at λo e=>hk _ _ e) (by simp [hi,pl]) (by rw[pl,<-hi,<-rv.length];exact hz) (λj q' e=>by simpa using hp j q' e) λh2' tk Xe k=>?_;have le:s1.heap.objs.size<=h'.objs.size:=by rw[hsz];exact JN _ _
   have hm:(h'.objs.size == Io)=FS:=beq_eq_false_iff_ne.mpr (Lk (FQ I1.big le))
   have Nr:(fR [] aD).length<=FP:=by
    refine FA (gu aD []) ?_;rw[J5,Kv,<-hi,<-rv.length];exact hz
   refine#[.ref h'.objs.size,aF H1 h'.objs.size (.dK (fR [] aD)),I1.laid (t':=tk) (λc o e=>k c o (λz=>?_) (hk c o e)) le (show cu X.prog X.w _ _ _ (.dK (fR [] aD)) from#[Nr,hm,merged [] oR,KV.merge rel .nil,Xe]),Gc,q _ (I1.Ic.fresh le)];have:=FJ e;simp only[Fi,Hs,or_false] at z;lia
end
def Rfs (C:E4) (E:XK) (H:Hp) (c:Int):Prop:= ∀d,H d=FB->E (.ref C) (Fa d) (aF H d (cn d (Dp c)))
def xcl (a:bf):EV (Int×E4):=[(-11,a.Jp),(-12,a.KN),(-13,a.Kj),(-14,a.Kk),(-15,a.Jq),(-16,a.Ln)]
def oV (a:bf) (E:XK) (H:Hp) (c:Int):Prop:= ∀C,(c,C)∈xcl a->Rfs C E H c
def gC (c:Int):EV V->EV (FD×V)->Prop:=λus fs=>us=[]/\fs=Dp c
theorem okI {x GU:FD}{st:Stmt}{f C:E4}{fd:Gb}{c:Int}(F:oU K x GU st f fd) (S:az ["self"] ["self"] (af st))
  (h: ∀(GF:E3) (A:GG) (outer:EV Env) (s:E8) (H:Hp) (p:E4) (Q:VK),bX 1 (A.deeper (Jz GU (af st) s.heap.objs.size f GF))->dU C ahl [.ref p, .int c] H Q E0->Bd (e8 wH P w K mg base ["self"] GU (af st) f GF A outer s H E0).nox (be st) { nx:=λ_ H'=>Q .Iw H',rt:=Q } [Fa (.ref p)] H):
  bU P w K mg base wH 2 f fd ["self"] (dU C (gC c)):=by
 refine F.ok S (λvs H Q E h=>?_) (λGF A outer s H vs Q E hr z=>?_)
 ·obtain⟨p,us,fs,rfl,⟨rfl,rfl⟩,_⟩:=h
  rfl
 ·obtain⟨p,us,fs,rfl,⟨rfl,rfl⟩,hp,q⟩:=z
  exact h GF A outer s H p Q hr #[p,_,_,Gc,#[c,Gc,Gc],hp,q]
theorem io (T:aU K mg a) (XC:XW K a):T.d_O.U P w mg base 2 (dU a.Jp (gC (-11))):=
 okI T.d_O.F akU λGF A outer s H p Q hr q=>#[_,ai (bh (fg (by rfl) T.HG XC.rm (bP T XC.LV) hr T.Wq.c.b .nil aV (aa (pv 0) (aa (dL cK ak) ag)))),_,Gc,q]
theorem k8 (T:aU K mg a) (XC:XW K a):T.d_P.U P w mg base 2 (dU a.KN (gC (-12))):=
 okI T.d_P.F akV λGF A outer s H p Q hr q=>#[_,ai (bh (fg (by rfl) T.HG XC.rm (bP T XC.OM) hr T.Wq.c.b .nil aV (aa (pv 0) (aa (dL cK ak) ag)))),_,Gc,q]
theorem jD (T:aU K mg a) (XC:XW K a):T.Zj.U P w mg base 2 (dU a.Kj (gC (-13))):=
 okI T.Zj.F af8 λGF A outer s H p Q hr q=>#[_,ai (bh (fg (by rfl) T.HG XC.rm (bP T XC.NH) hr T.Wq.c.b .nil aV (aa (pv 0) (aa (dL cK ak) ag)))),_,Gc,q]
theorem jJ (T:aU K mg a) (XC:XW K a):T.Zk.U P w mg base 2 (dU a.Kk (gC (-14))):=
 okI T.Zk.F af9 λGF A outer s H p Q hr q=>#[_,ai (bh (fg (by rfl) T.HG XC.rm (bP T XC.NI) hr T.Wq.c.b .nil aV (aa (pv 0) (aa (dL cK ak) ag)))),_,Gc,q]
theorem ij (T:aU K mg a) (XC:XW K a):T.Zl.U P w mg base 2 (dU a.Jq (gC (-15))):=
 okI T.Zl.F aga λGF A outer s H p Q hr q=>#[_,ai (bh (fg (by rfl) T.HG XC.rm (bP T XC.LW) hr T.Wq.c.b .nil aV (aa (pv 0) (aa (dL cK ak) ag)))),_,Gc,q]
theorem kM (T:aU K mg a) (XC:XW K a):T.Zm.U P w mg base 2 (dU a.Ln (gC (-16))):=
 okI T.Zm.F agb λGF A outer s H p Q hr q=>#[_,ai (bh (fg (by rfl) T.HG XC.rm (bP T XC.ON) hr T.Wq.c.b .nil aV (aa (pv 0) (aa (dL cK ak) ag)))),_,Gc,q]
def wkF (t:Int) (fa sl tl:E4) (r:V):EV (FD×V):=[("taken", .int t),("functions", .ref fa),("scopes", .ref sl),("tasks", .ref tl),("result",r)]
def xH (v:V) (p:E4):EV (FD×V):=[("exp",v),("parts", .ref p)]
structure qd where
 wk:E4
 dw:E4
 fa:E4
 sl:E4
 tl:E4
 z:Fm
structure sC where
 M:E4->Prop
 H:Hp
structure oQ where
 t:E4
 p:E4
 d:E4
 v:V
 ps:EV Int
abbrev rF:=E4×EV (a8×V)
def tkC (a:bf):EV oQ->EV lh
 |[]=>[]
 |u::us=>(u.t, .ins a.Mn u.d (xH u.v u.p))::(u.p, .lst (u.ps.map V.int))::tkC a us
def scC (ds:EV rF):EV lh:=ds.map λd=>(d.1, .dK d.2)
abbrev wkL (a:bf) (c:qd) (n:Fm) (r:V) (ff:EV (a8×V)) (ds:EV rF) (us:EV oQ):EV lh:=
 (c.wk, .ins a.Hq c.dw (wkF (10000-(n:Int)) c.fa c.sl c.tl r))::(c.tl, .lst (us.map λu=>V.ref u.t).reverse)::(c.sl, .lst (ds.map λd=>V.ref d.1).reverse)::(c.fa, .dK ff)::(tkC a us++scC ds)
def DD (a:bf) (B:sC) (F:Jw) (ff:EV (a8×V)):Prop:=ff.length<=F.length/\ ∀f,(match F.find? λg=>g.1 == f with
  |some g=> ∃v,bO ff (nk f)=Fa v/\fh a B.M B.H (.func g.1 g.2.1 g.2.2) v
  |none=>bO ff (nk f)=FB)
def aa4 (b:Fm) (d:rF) (s:fz):Prop:=(∀u,bO d.2 (nk u)=(s u).map V.int)/\d.2.length<=b
def alD (a:bf) (B:sC) (u:oQ) (t:dX):Prop:=au a B.M B.H t.1 u.v/\u.ps=t.2
structure Bn (z b:Fm) (ts:EV dX) (sc:EV fz) (n:Fm):Prop where
 Vn:n<=10000
 tl: ∀i t,ts[i]?=Fa t->t.2.length+i+n<=10000
 sl:sc.length+n<=10002
 b6:6<=b
 bn:b+5*n<=z
 zl:z<=60000
structure eS (a:bf) (B:sC) (H:Hp) (c:qd) (F:Jw) (r:V) (b:Fm) (ff:EV (a8×V)) (ds:EV rF) (us:EV oQ) (ts:EV dX) (sc:EV fz) (n:Fm):Prop where
 O:Ow B.H (wkL a c n r ff ds us) H
 fn:DD a B F ff
 sq:Paired (aa4 b) ds sc
 tk:Paired (alD a B) us ts
 bn:Bn c.z b ts sc n
inductive Wk (a:bf) (B:sC) (H:Hp) (c:qd) (F:Jw) (r:V) (b:Fm) (ts:EV dX) (sc:EV fz) (n:Fm):Prop
 |mk {ff:EV (a8×V)}{ds:EV rF}{us:EV oQ}(_:eS a B H c F r b ff ds us ts sc n):Wk a B H c F r b ts sc n
def mT (a:bf) (B:sC) (c:qd) (F:Jw) (N:Hp->Prop) (E:XK):Mc->Prop
 | .err k=> ∀H',aW B.H H'->oV a E H' k
 | .go ts sc n=> ∀H' r b,Wk a B H' c F r b ts sc n->N H'
 | .done x sc n=> ∀H' b,Wk a B H' c F (.int x) b [] sc n->N H'
theorem Bn.mono {z b m n:Fm}{ts:EV dX}{sc:EV fz}(h:Bn z b ts sc n) (hm:m<=n):Bn z b ts sc m:=#[by have:=h.Vn;lia,λi t e=>by have:=h.tl i t e;lia,by have:=h.sl;lia,h.b6,by have:=h.bn;lia,h.zl]
theorem Bn.len {z b n:Fm}{ts:EV dX}{sc:EV fz}(h:Bn z b ts sc n):ts.length+n<=10001:=by
 cases e:ts[ts.length-1]? with
 |none=>have:=EV.getElem?_eq_none_iff.mp e;have:=h.Vn;lia
 |some t=>have:=h.tl _ t e;lia
theorem bI.fld {M:E4->Prop}{B H:Hp}{K:E1}{Q:VK}(i:bI M B C fs v) (s:aW B H) (cl:gI K C) (no:ao K C f) (hl:fs.lookup f=Fa u) (q:Q u H):dB K f Q v H:=by
 obtain⟨p,dx,rfl,_,h⟩:=i;exact#[p,C,dx,_,u,Gc,s _ _ h,cl,no,hl,q]
section
variable {H H':Hp}{Q:VK}
theorem eS.fld (W:eS a B H c F r b ff ds us ts sc n) (T:aU K mg a) (no:ao K a.Hq f) (hl:(wkF (10000-(n:Int)) c.fa c.sl c.tl r).lookup f=Fa u) (q:Q u H):dB K f Q (.ref c.wk) H:=#[c.wk,_,c.dw,_,u,Gc,W.O.get 0 rfl,T.HS,no,hl,q]
theorem eS.own (W:eS a B H c F r b ff ds us ts sc n) (hm:m<=n) (h:H' c.wk=Fa (.ins a.Hq c.dw (wkF (10000-(m:Int)) c.fa c.sl c.tl r'))) (k: ∀b u,H b=Fa u->b≠c.wk->H' b=Fa u):eS a B H' c F r' b ff ds us ts sc m:=#[W.O.set (L1:=[]) h k,W.fn,W.sq,W.tk,W.bn.mono hm]
theorem eS.tl (W:eS a B H c F r b ff ds us ts sc n):H c.tl=Fa (.lst (us.map λu=>V.ref u.t).reverse):=W.O.get 1 rfl
theorem eS.tl1 (W:eS a B H c F r b ff ds (u::us) ts sc n):H c.tl=Fa (.lst ((us.map λu=>V.ref u.t).reverse++[V.ref u.t])):=by
 rw[<-GA];exact W.tl
theorem eS.ins (W:eS a B H c F r b ff ds us ts sc n):H c.wk=Fa (.ins a.Hq c.dw (wkF (10000-(n:Int)) c.fa c.sl c.tl r)):=W.O.get 0 rfl
end
inductive m8 (a:bf) (vs:EV V) (H:Hp) (Q:VK) (E:XK):Prop
 |mk {B:sC}{c:qd}{F:Jw}{r:V}{b:Fm}{ff:EV (a8×V)}{ds:EV rF}{us:EV oQ}{ts:EV dX}{sc:EV fz}{n:Fm}(_:vs=[.ref c.wk]) (_:eS a B H c F r b ff ds us ts sc n) (_:n=0->oV a E H (-13)) (_: ∀m,n=m+1-> ∀H',eS a B H' c F r b ff ds us ts sc m->Q .Iw H'):m8 a vs H Q E
theorem hJ (T:aU K mg a) (XC:XW K a):T.VQ.O P w mg base 4 (m8 a):=by
 refine fQ T.VQ.F agh [03] [02];obtain @⟨B,c,F,r,b,ff,ds,us,ts,sc,n,rfl,W,h0,h1⟩:=h;refine bH (jm (ci (bC 0 (W.fld T T.LQ rfl #[_,aR (by rfl) T.RF,_,_,Gc,Gc,dC (λe=>?_) λe=>?_])) rfl))
 ·exact aQ (eW eB XC.NH (jD T XC) hr (by rfl) T.Oy T.Zj.c.b) #[FI _,_,#[Gc,Gc],h0 (by lia) _ (.tail _ (.tail _ (.head _)))]
 ·obtain⟨m,rfl⟩: ∃m,n=m+1:=#[n-1,by have:=W.bn.Vn;lia]
  refine eu (gD (pv 0) ak mP) #[c.wk,_,c.dw,_,_,Gc,W.ins,T.HS,T.LQ,Gc,_,_,Gc,Gc,c.dw,_,W.ins,(by show 5<1000;decide),h1 m rfl _ (W.own (K8 m) ?_ mL)];rw[ae,show(10000:Int)-(m:Int)=10000-((m+1:Fm):Int)+1 by lia]
  rfl
section
variable {H H':Hp}
theorem eS.push (W:eS a B H c F r b ff ds us ts sc n) (ev:au a B.M B.H e v) (hx:H x=FB) (hp:H p=FB) (ne:p≠x) (k:aW H H') (h1:H' x=Fa (.ins a.Mn dx (xH v p))) (h2:H' p=Fa (.lst [])) (b1:Bn c.z b ts sc (n+1)):
  eS a B (aF H' c.tl (.lst ((us.map λu=>V.ref u.t).reverse++[.ref x]))) c F r b ff ds (#[x,p,dx,v,[]]::us) ((e,[])::ts) sc n:=by
 have O:=W.O.adds (N:=[(x, .ins a.Mn dx (xH v p)),(p, .lst [])]) k (λy hy=>by
  rcases Fi.mp hy with z|hy
  ·rw[z];exact#[hx,h1]
  ·rw[Fz.mp hy];exact#[hp,h2]) (F6.mpr #[λz=>ne (Fz.mp z).symm,F6.mpr #[nofun, .nil]])
 have O:=(O.perm ((EV.perm_append_comm (l₁:=[_,_]) (l₂:=[_,_,_,_])).append_right _)).put (L1:=[_]) (o':= .lst ((us.map λu=>V.ref u.t).reverse++[.ref x]))
 rw[<-GA] at O ⊢;refine#[O,W.fn,W.sq, .cons #[ev,Gc] W.tk,W.bn.Vn,λi t e=>?_,W.bn.sl,W.bn.b6,W.bn.bn,W.bn.zl];cases i with
 |zero=>cases e;have:=b1.Vn;show 0+0+n<=10000;lia
 |succ i=>have:=b1.tl i t e;lia
theorem eS.pop (W:eS a B H c F r b ff ds (u::us) (t::ts) sc n):eS a B (aF H c.tl (.lst (us.map λu=>V.ref u.t).reverse)) c F r b ff ds us ts sc n:=by
 cases W.tk with
 |cons _ tk=>exact#[(W.O.put (L1:=[_])).sub (.cons₂ _ (.cons₂ _ (.cons₂ _ (.cons₂ _ (.cons _ (.cons _ (.refl _))))))),W.fn,W.sq,tk,W.bn.Vn,λi t e=>by have:=W.bn.tl (i+1) t e;lia,W.bn.sl,W.bn.b6,W.bn.bn,W.bn.zl]
theorem eS.parts (W:eS a B H c F r b ff ds (u::us) ((e,u.ps)::ts) sc n) (h:H' u.p=Fa (.lst (ps.map V.int))) (k: ∀b o,H b=Fa o->b≠u.p->H' b=Fa o) (hl:ps.length+n<=10000):eS a B H' c F r b ff ds ({ u with ps:=ps } ::us) ((e,ps)::ts) sc n:=by
 cases W.tk with
 |cons h1 tk=>
  refine#[W.O.set (L1:=[_,_,_,_,_]) h k,W.fn,W.sq, .cons #[h1.1,Gc] tk,W.bn.Vn,λi t e=>?_,W.bn.sl,W.bn.b6,W.bn.bn,W.bn.zl];cases i with
  |zero=>cases e;exact hl
  |succ i=>exact W.bn.tl (i+1) t e
theorem eS.grow (W:eS a B H c F r b ff ds us ts sc n) (k:aW H H'):eS a B H' c F r b ff ds us ts sc n:=#[W.O.grow k,W.fn,W.sq,W.tk,W.bn]
theorem eS.scs (W:eS a B H c F r b ff ds us ts sc n) (h:d∈ds):H d.1=Fa (.dK d.2):=(W.O.at_ (d.1, .dK d.2) (.tail _ (.tail _ (.tail _ (.tail _ (G8 _ (Lg.mpr #[d,h,Gc]))))))).1
theorem lH {α β:Type}{F:α->β->Prop} : ∀ {l:EV α}{m:EV β}{y:β},Paired F l m->m.getLast?=Fa y-> ∃x,l.getLast?=Fa x/\F x y
 |_,_,_, .nil,h=>by cases h
 |[x],[y],_, .cons r .nil,h=>by cases h;exact#[x,Gc,r]
 |_::x::l,_::y::m,z, .cons r (.cons s t),h=>by
  rw[R9] at h;rw[R9];exact lH (.cons s t) h
theorem dZ {α β:Type}{F G:α->β->Prop} : ∀ {l:EV α}{m:EV β},Paired F l m->(∀x y,F x y->G x y)->Paired G l m
 |_,_, .nil,_=> .nil
 |_,_, .cons h t,g=> .cons (g _ _ h) (dZ t g)
end
inductive BK (a:bf) (vs:EV V) (H:Hp) (Q:VK) (_E:XK):Prop
 |mk (t dt:E4) (v:V) (_:vs=[.ref t,v]) (_:H t=Fa (.ins a.Mn dt [])) (_: ∀(p:E4) (H':Hp),H p=FB->p≠t->H' t=Fa (.ins a.Mn dt (xH v p))->H' p=Fa (.lst [])->(∀b o,H b=Fa o->b≠t->H' b=Fa o)->Q .Iw H'):BK a vs H Q _E
theorem qH (T:aU K mg a):T.Zq.U P w mg base 1 (BK a):=by
 refine T.Zq.F.ok agf [03] [02];obtain⟨t,dt,v,rfl,ht,q⟩:=h;refine aQ (b3 (pv 0) (pv 1) rfl) #[t,_,dt,_,Gc,ht,T.Pb,T.Qb,Fm.zero_lt_succ _,eu (b3 (pv 0) (fM ag) rfl) #[FI _,λp hp=>?_]];have np:p≠t:=λz=>by rw[z,ae] at hp;cases hp
 rw[ac np] at hp;exact#[t,_,dt,_,Gc,(by rw[ac np.symm,ae]),T.Pb,T.M4,(by show 1<1000;decide),q p _ hp np ae (by rw[ac np,ae]) λb o e nb=>by rw[ac nb,ac (aj e hp),ac nb];exact e]
inductive wp (a:bf) (vs:EV V) (H:Hp) (Q:VK) (E:XK):Prop
 |mk {B:sC}{c:qd}{F:Jw}{r:V}{b:Fm}{ff:EV (a8×V)}{ds:EV rF}{us:EV oQ}{ts:EV dX}{sc:EV fz}{n:Fm}{e:Fc}{v:V}(_:vs=[.ref c.wk,v]) (_:eS a B H c F r b ff ds us ts sc n) (_:au a B.M B.H e v) (_:mT a B c F (Q .Iw) E (kz e ts sc n)):wp a vs H Q E
theorem sH (T:aU K mg a) (XC:XW K a):T.WM.O P w mg base 5 (wp a):=by
 refine fQ T.WM.F agk [03] [02];obtain @⟨B,c,F,r,b,ff,ds,us,ts,sc,n,e,v,rfl,W,ev,g⟩:=h;refine aQ (bh (bS (pv 0) T.HS T.VQ.c (hJ T XC) hr aA)) #[c.wk,c.dw,_,Gc,W.ins,Gc, .mk rfl W (λz=>?_) λm z H1 W1=>?_]
 ·rw[z] at g
  exact g H W.O.same
 ·subst z
  refine iJ [08] (λ_ q=>W1.fld T T.IB rfl q) W1.tl #[_,gT T.Xb (qH T) [07] (by rfl) T.WK T.Zq.c.b .nil aV (aa (pv 1) ag),λx dx hx UZ ne=>#[x,dx,v,Gc,ae,λp H2 hp np h1 h2 k=>#[Gc,?_]]];have hp:=hp;rw[ac np] at hp;have pd:p≠dx:=λz=>by rw[z,ae] at hp;cases hp
  rw[ac pd] at hp;have sm:aW H1 H2:=λb o e=>k b o (by rw[ac (aj e hx),ac (aj e UZ)];exact e) (aj e hx);exact#[_,sm _ _ W1.tl,by rw[Gv,Fh,bj W1.tk,HP];have:=W1.bn.len;lia,cf (g _ r b #[W1.push ev hx hp np sm h1 h2 W.bn])]
inductive tY (a:bf) (vs:EV V) (H:Hp) (Q:VK) (E:XK):Prop
 |mk {B:sC}{c:qd}{F:Jw}{r:V}{b:Fm}{ff:EV (a8×V)}{ds:EV rF}{u:oQ}{us:EV oQ}{t:dX}{ts:EV dX}{sc:EV fz}{n:Fm}{x:Int}(_:vs=[.ref c.wk, .int x]) (_:eS a B H c F r b ff ds (u::us) (t::ts) sc n) (_:mT a B c F (Q .Iw) E (eN ts sc n x)):tY a vs H Q E
theorem yu (T:aU K mg a):T.Zu.U P w mg base 1 (tY a):=by
 refine T.Zu.F.ok agl [03] [02];obtain @⟨B,c,F,r,b,ff,ds,u,us,t,ts,sc,n,x,rfl,W,g⟩:=h;have tl:=W.tl1;refine bE #[_,CW Ie RP RQ A7 [08],W.fld T T.IB rfl #[.inl #[Gc,_,cC.of tl],c.tl,_, .ref u.t,Gc,Gc,tl,by simp,?_]];rw[T4];have W1:=W.pop;have tk:=W1.tk;have ul:=bj tk;refine cw (cR gk (iA T.JW W1.tl [08] (λ_ q=>W1.fld T T.IB rfl q) (cN #[_,_,Gc,Gc,_,Gc,?_])));rw[Gv,Fh];cases tk with
 |nil=>exact bN (eu (b3 (pv 0) (pv 1) rfl) #[c.wk,_,c.dw,_,Gc,W1.ins,T.HS,T.Lq,(by show 5<1000;decide),g _ b #[W1.own (Fq n) ae mL]])
 | @cons v t1 us ts h tk=>
  obtain⟨e1,ps⟩:=t1;obtain rfl:v.ps=ps:=h.2;refine dC (λ_=>?_) λz=>Fv z (by rw[Fj];lia);have hp:=W1.O.get 5 rfl;have b1:=W.bn.tl 1 _ rfl;refine eu (bh (r8 Ie Kr Ks jb (ah (cM bD [08] (dL cK ak) [002]) rfl) (aa (pv 1) ag))) (W1.fld T T.IB rfl #[_,Gc,c.tl,_,_,V.ref v.t,Gc,Gc,cC.of W1.tl1,eG _ _,v.t,_,v.d,_,V.ref v.p,Gc,W1.O.get 4 rfl,T.Pb,T.M4,Gc, .inl #[Gc,_,cC.of hp],v.p,_,_,Gc,Gc,hp,by rw[Fh,HP];lia,g _ r b #[W1.parts (ps:=v.ps++[x]) ?_ mL (by rw[Ft];show v.ps.length+1+n<=10000;lia)]]);rw[ae,GS]
  rfl
section
variable {H H':Hp}
theorem eS.sl1 (W:eS a B H c F r b ff (d::ds) us ts sc n):H c.sl=Fa (.lst ((ds.map λd=>V.ref d.1).reverse++[V.ref d.1])):=by
 rw[<-GA];exact W.O.get 2 rfl
theorem eS.alE {s:fz}(W:eS a B H c F r b ff (d::ds) us ts (s::sc) n) (hb:b+1+5*n<=c.z):eS a B (aF H d.1 (.dK (dy d.2 (nk y) (.int x)))) c F r (b+1) ff ((d.1,dy d.2 (nk y) (.int x))::ds) us ts (oZ (s::sc) y x) n:=by
 have O:Ow B.H ((_::_::_::_::tkC a us)++(d.1, .dK d.2)::scC ds) H:=W.O;cases W.sq with
 |cons h sq=>
  refine#[O.put,W.fn, .cons #[λu=>?_,FA (cD _ _ _) (Hu h.2)] (dZ sq λ_ _ z=>#[z.1,Nu z.2]),W.tk,W.bn.Vn,W.bn.tl,W.bn.sl,Nu W.bn.b6,hb,W.bn.zl];rw[gE];show _=Fd.map V.int (if u=y then Fa x else s u)
  by_cases hu:u=y
  ·rw[E7 (by rw[hu]),E7 hu];rfl
  ·rw[E5 λz=>hu (ee (Jt z)),E5 hu];exact h.1 u
theorem eS.pushS {s:fz}(W:eS a B H c F r b ff ds us ts sc n) (hq:H q=FB) (k:aW H H') (h:H' q=Fa (.dK kk)) (hs:aa4 b (q,kk) s) (hl:sc.length+1+n<=10002):eS a B (aF H' c.sl (.lst ((ds.map λd=>V.ref d.1).reverse++[.ref q]))) c F r b ff ((q,kk)::ds) us ts (s::sc) n:=by
 have O:=W.O.adds (N:=[(q, .dK kk)]) k (λy hy=>by rw[Fz.mp hy];exact#[hq,h]) (F6.mpr #[nofun, .nil])
 have O:Ow B.H (_::_::_::_::(tkC a us++(q, .dK kk)::scC ds)) H':=O.perm (Wd (l₁:=_::_::_::_::tkC a us)).symm
 have O:=O.put (L1:=[_,_]) (o':= .lst ((ds.map λd=>V.ref d.1).reverse++[.ref q]))
 rw[<-GA] at O ⊢;exact#[O,W.fn, .cons hs W.sq,W.tk,W.bn.Vn,W.bn.tl,hl,W.bn.b6,W.bn.bn,W.bn.zl]
theorem eS.alF {s:fz}(W:eS a B H c F r b ff (d::ds) us ts (s::sc) n):eS a B (aF H c.sl (.lst (ds.map λd=>V.ref d.1).reverse)) c F r b ff ds us ts sc n:=by
 cases W.sq with
 |cons _ sq=>exact#[(W.O.put (L1:=[_,_])).sub (.cons₂ _ (.cons₂ _ (.cons₂ _ (.cons₂ _ ((EV.sublist_cons_self _ _).append_left _))))),W.fn,sq,W.tk,W.bn.Vn,W.bn.tl,by have:sc.length+1+n<=10002:=W.bn.sl;lia,W.bn.b6,W.bn.bn,W.bn.zl]
end
inductive qc (a:bf) (vs:EV V) (H:Hp) (Q:VK) (_E:XK):Prop
 |mk {B:sC}{c:qd}{F:Jw}{r:V}{b:Fm}{ff:EV (a8×V)}{ds:EV rF}{us:EV oQ}{ts:EV dX}{sc:EV fz}{n:Fm}{y:EW}{x:Int}(_:vs=[.ref c.wk, .str (sb y)]) (_:eS a B H c F r b ff ds us ts sc n) (_:look sc y=Fa x) (_:Q (.int x) H):qc a vs H Q _E
theorem sS (T:aU K mg a):T.Zs.U P w mg base 1 (qc a):=by
 refine T.Zs.F.ok agj [03] [02];obtain @⟨B,c,F,r,b,ff,ds,us,ts,sc,n,y,x,rfl,W,hl,q⟩:=h;have sq:=W.sq;cases sq with
 |nil=>cases hl
 | @cons d s ds sc hd sq=>
 have k1:=W.scs (d:=d) (.head _)
 have fl: ∀ {Q:VK},Q (.ref c.sl) H->dB K "scopes" Q (.ref c.wk) H:=λq=>W.fld T T.JE rfl q
 have at1: ∀ {Q:VK},Q (.ref d.1) H->dB K "scopes" (λx H1=>tUn (rU λi=> .int (-i)) (tC (.int 1)) [Fa (.ref c.wk),Fa (.str (sb y))] H1 λu H2=>Cl K x u H2 Q) (.ref c.wk) H:=λq=>fl #[_,Gc,c.sl,_,_,V.ref d.1,Gc,Gc,cC.of W.sl1,eG _ _,q]
 have lk:look (s::sc) y=(match s y with|some a=>Fa a|none=>fN (s::sc) y):=rfl
 refine bH #[_,fD (nZ (dn hr) (pv 1) (cM bD [08] (dL cK ak) [002])),at1 #[d.1,_,Gc,gy.k (k:=nk y) k1,_,Gc,?_]];rw[hd.1,HR];have g:=gy.k (k:=nk y) k1;rw[hd.1] at g;cases hs:s y with
 |some z=>
  rw[lk,hs] at hl;cases hl;rw[hs] at g;exact cc (aL #[_,jO (dn hr) (cM bD [08] (dL cK ak) [002]) (pv 1) [002],at1 #[d.1, .int x,Gc,g,q]])
 |none=>
  rw[lk,hs] at hl;have hl:fN (s::sc) y=Fa x:=hl;cases z:(s::sc).getLast? with
  |none=>simp at z
  |some z'=>
  obtain⟨e,h1,h2⟩:=lH (.cons hd sq) z;have:fN (s::sc)=z':=by unfold fN;rw[Rl,z];rfl
  rw[this] at hl;have j1:=W.scs (LY h1);have g:=gy.k (k:=nk y) j1;rw[h2.1,hl] at g;have h0:((d::ds).map λd=>V.ref d.1).reverse[0]?=Fa (V.ref e.1):=by
   rw[<-EV.head?_eq_getElem?,EV.head?_reverse,EV.getLast?_map,h1]
   rfl
  exact bN (aL #[_,jO (dn hr) (cM bD [08] ak [002]) (pv 1) [002],fl #[c.sl,_,_,V.ref e.1,Gc,Gc,cC.of (W.O.get 2 rfl),bw (j:=0) h0,e.1, .int x,Gc,g,q]])
inductive B4 (a:bf) (vs:EV V) (H:Hp) (Q:VK) (_E:XK):Prop
 |mk {B:sC}{c:qd}{F:Jw}{r:V}{b:Fm}{ff:EV (a8×V)}{d:rF}{ds:EV rF}{us:EV oQ}{ts:EV dX}{s:fz}{sc:EV fz}{n:Fm}{y:EW}{x:Int}(_:vs=[.ref c.wk, .str (sb y), .int x]) (_:eS a B H c F r b ff (d::ds) us ts (s::sc) n) (_:b+1+5*n<=c.z) (_: ∀H',eS a B H' c F r (b+1) ff ((d.1,dy d.2 (nk y) (.int x))::ds) us ts (oZ (s::sc) y x) n->Q .Iw H'):B4 a vs H Q _E
theorem kE (T:aU K mg a):T.WL.U P w mg base 1 (B4 a):=by
 refine T.WL.F.ok agi [03] [02];obtain @⟨B,c,F,r,b,ff,d,ds,us,ts,s0,sc,n,y,x,rfl,W,hb,q⟩:=h;cases W.sq with
 |cons hd _=>exact eu (hZ (dn hr) (cM bD (ah (pv 0) rfl) (dL cK ak) (λ_ _=>rfl)) (pv 1) (pv 2) rfl) (W.fld T T.JE rfl #[_,Gc,c.sl,_,_,V.ref d.1,Gc,Gc,cC.of W.sl1,eG _ _,d.1,_,Gc,ug.k (k:=nk y) (W.scs (.head _)) (by rw[HP];have:=hd.2;have:=W.bn.zl;lia),q _ (W.alE hb)])
theorem Bf:kJ X (Oj .FloorDiv) (rI (λ_ j=>j≠0/\j.natAbs.log2<9000) λi j=> .int (i.fdiv j)):=opI λ_ _ _ _ _ _ _ hc q=>floordiv_int hc.1 q (.inl (PyProof.noPylong_of_log2 hc.2))
theorem yy {l:EV Int} : ∀ {us:EV E3},aY (l.map V.int) us-> ∃xs:Jk (Int×Tok),us.toArray=KI xs/\xs.toList.map (·.1)=l:=by
 induction l with
 |nil=>intro us h;cases h;exact#[[].toArray,by simp [KI],Gc]
 |cons i l ih=>
  intro us h;cases h with
  |cons h1 h2=>
   obtain⟨t,rfl⟩:=h1;obtain⟨xs,e1,e2⟩:=ih h2;refine#[#[(i,t)::xs.toList],?_,by rw[<-e2];rfl];unfold KI at e1 ⊢;have e1:=Ga Sd e1;rw[VC] at e1;apply Jk.ext';rw[VC];simp only[FC];rw[<-e1]
theorem tF {pins:EV (E4×IG)}{σ:L2.St}{H:Hp}{s:E8}{p:E4}{l:EV Int}(I:aE X pins σ H s) (h:H p=Fa (.lst (l.map V.int))): ∃xs:Jk (Int×Tok),s.heap.IsList p (KI xs)/\xs.toList.map (·.1)=l:=by
 obtain⟨z,Ho,n,r,hl,e⟩:=I.TK h;obtain⟨xs,e1,e2⟩:=yy r;exact#[xs,#[_,e,Gc,n,by rw[<-e1]],e2]
theorem yl (hc:X.calm=FM):gG X (.builtin "min") (λxs H Q=> ∃p i j,xs=[.ref p]/\H p=Fa (.lst [.int i, .int j])/\Q (.int (min i j)) H):=by
 intro pins s σ H xs us Q I r h;obtain⟨p,i,j,rfl,hp,q⟩:=h;obtain⟨u,rfl,r1⟩:=mM r;cases r1;obtain⟨as,l,e⟩:=tF (l:=[i,j]) I hp;obtain⟨as⟩:=as;obtain⟨⟨i',t⟩,⟨j',t'⟩,rfl⟩: ∃x y,as=[x,y]:=by
  match as,e with
  |[x,y],_=>exact#[x,y,Gc]
 obtain⟨rfl,rfl⟩:i=i'/\j=j':=by simpa [eq_comm] using e
 refine min_intList (I.ok.hd hc) l (by show 0<2;decide) λv h' tk hv k=>#[.int (min i j),H,I.kept k,?_,q];by_cases hij:j<i
 ·have e:Mz (λx y=>decide (Mi [(i,t),(j,t')].toArray x<Mi [(i,t),(j,t')].toArray y)) 1=1:=by simp [Mz,Mi,hij]
  have hv:(KI [(i,t),(j,t')].toArray)[Mz (λx y=>decide (Mi [(i,t),(j,t')].toArray x<Mi [(i,t),(j,t')].toArray y)) 1]?=Fa v:=hv
  rw[e] at hv;have hv:J6 j t'=v:=by simpa [KI] using hv
  exact#[t',by rw[<-hv,Int.min_def,E5 (by lia)]]
 ·have e:Mz (λx y=>decide (Mi [(i,t),(j,t')].toArray x<Mi [(i,t),(j,t')].toArray y)) 1=0:=by simp [Mz,Mi,hij]
  have hv:(KI [(i,t),(j,t')].toArray)[Mz (λx y=>decide (Mi [(i,t),(j,t')].toArray x<Mi [(i,t),(j,t')].toArray y)) 1]?=Fa v:=hv
  rw[e] at hv;have hv:J6 i t=v:=by simpa [KI] using hv
  exact#[t,by rw[<-hv,Int.min_def,E7 (by lia)]]
theorem yQ (hc:X.calm=FM):gG X (.builtin "max") (λxs H Q=> ∃p i j,xs=[.ref p]/\H p=Fa (.lst [.int i, .int j])/\Q (.int (max i j)) H):=by
 intro pins s σ H xs us Q I r h;obtain⟨p,i,j,rfl,hp,q⟩:=h;obtain⟨u,rfl,r1⟩:=mM r;cases r1;obtain⟨as,l,e⟩:=tF (l:=[i,j]) I hp;obtain⟨as⟩:=as;obtain⟨⟨i',t⟩,⟨j',t'⟩,rfl⟩: ∃x y,as=[x,y]:=by
  match as,e with
  |[x,y],_=>exact#[x,y,Gc]
 obtain⟨rfl,rfl⟩:i=i'/\j=j':=by simpa [eq_comm] using e
 refine max_intList (I.ok.hd hc) l (by show 0<2;decide) λv h' tk hv k=>#[.int (max i j),H,I.kept k,?_,q];by_cases hij:j>i
 ·have e:Mz (λx y=>decide (Mi [(i,t),(j,t')].toArray x>Mi [(i,t),(j,t')].toArray y)) 1=1:=by simp [Mz,Mi,hij]
  have hv:(KI [(i,t),(j,t')].toArray)[Mz (λx y=>decide (Mi [(i,t),(j,t')].toArray x>Mi [(i,t),(j,t')].toArray y)) 1]?=Fa v:=hv
  rw[e] at hv;have hv:J6 j t'=v:=by simpa [KI] using hv
  exact#[t',by rw[<-hv,Int.max_def,E7 (by lia)]]
 ·have e:Mz (λx y=>decide (Mi [(i,t),(j,t')].toArray x>Mi [(i,t),(j,t')].toArray y)) 1=0:=by simp [Mz,Mi,hij]
  have hv:(KI [(i,t),(j,t')].toArray)[Mz (λx y=>decide (Mi [(i,t),(j,t')].toArray x>Mi [(i,t),(j,t')].toArray y)) 1]?=Fa v:=hv
  rw[e] at hv;have hv:J6 i t=v:=by simpa [KI] using hv
  refine#[t,?_];rw[<-hv,Int.max_def];by_cases z:i<=j
  ·rw[E7 z,show j=i by lia]
  ·rw[E5 z]
theorem A5 (ho:op∈Gu) (h:d7 x s):decide (V.str (dI op)=V.str x)=decide (op=s):=by
 obtain⟨rfl,hs⟩:=h;exact decide_eq_decide.mpr #[λz=>wB op ho s hs (V.str.inj z),λz=>by rw[z]]
theorem js {X:Cx}{H:Hp}(ho:op∈Gu) (l:d7 v s) (yes:op=s->Pe X e (Fa (.str (dI op))::σ) H D.rt) (no:op≠s->Bd X ss D (Fa (.str (dI op))::σ) H) (n0:X.N[0]?=Fa ("sign":FD):=by rfl) (v0:oS X.env.scope "sign":=by exact GO rfl):
  Bd X (.If (.Compare (.Name "sign" p1) [.Eq] [.Constant (.str v) j p2] p3) [.Return (Fa e) p4] [] p5::ss) D (Fa (.str (dI op))::σ) H:=
 bH (cR b8 (bC 0 (X9 #[Gc,_,Gc,by rw[A5 ho l];exact dC (λz=>aL (yes z)) no]) n0 v0))
theorem Dk {α:Type}{Q:α->Prop}{c:Prop} [Decidable c] {x y:α}(q:Q (if c then x else y)):(c->Q x)/\(¬c->Q y):=#[λh=>by rw[E7 h] at q;exact q,λh=>by rw[E5 h] at q;exact q]
def xW (op:EW) (b:Int):Gg:=b !=0||!(decide (op=EY "/")||decide (op=EY "%"))
def mz (op:EW) (a b:Int):Int:=if op=EY "+" then a+b else if op=EY "-" then a-b else if op=EY "*" then a*b else if op=EY "/" then a.fdiv b else if op=EY "%" then a.fmod b else NL (MA op a b)
def rZ (a:Int):Prop:= -(2 ^ 64)<a/\a<2 ^ 64
theorem wQ:d7 "+" (EY "+")/\d7 "-" (EY "-")/\d7 "*" (EY "*")/\d7 "/" (EY "/")/\d7 "/rest" (EY "%")/\d7 "==" (EY "==")/\d7 "!=" (EY "!=")/\d7 "<=" (EY "<=")/\d7 ">=" (EY ">=")/\d7 "<" (EY "<"):=#[[008],[008],[008],[008],[008],[008],[008],[008],[008],[008]]
inductive At (vs:EV V) (H:Hp) (Q:VK) (_E:XK):Prop
 |mk (op:EW) (b:Int) (_:vs=[.str (dI op), .int b]) (_:op∈Gu) (_: ∀H',aW H H'->Q (.bl (xW op b)) H'):At vs H Q _E
theorem alG (T:aU K mg a):T.d_Q.U P w base 1 At:=by
 refine T.d_Q.F.ok akW [03] [02];obtain⟨op,b,rfl,ho,q⟩:=h;refine#[_,(ai (aI (Bp (ca py (pv 1) ak (aM _)) (jx (ca jV (pv 0) (Da (aa dJ (aa dJ ag))) rfl))))),?_];refine#[Gc,_,Gc,?_];rw[cj];unfold xW at q;by_cases hb:b=0
 ·subst hb
  refine bN ?_;refine#[by show 2<=FP;decide,λp hp=>#[p,_,Gc, .inr (qG.of ae),Gc,Gc,?_]];have e:uj (.str (dI op)) [.str "/", .str "/rest"]=(decide (op=EY "/")||decide (op=EY "%")):=by
   rw[<-A5 ho wQ.2.2.2.1,<-A5 ho wQ.2.2.2.2.1];show(("/":FD) == dI op||(("/rest":FD) == dI op||false))=_
   have b: ∀x:FD,(x == dI op)=decide (V.str (dI op)=V.str x):=λx=>by
    rw[GZ,beq_iff_eq,F5];exact#[λz=>by rw[z],λz=>(V.str.inj z).symm]
   rw[OX,b,b]
  show Q (.bl (!uj (.str (dI op)) [.str "/", .str "/rest"])) _
  rw[e];exact q _ (a0 hp)
 ·rw[FU hb]
  refine cc ?_;have z:=q H λ_ _ e=>e
  rw[show(b !=0)=FM from bne_iff_ne.mpr hb] at z;exact z
inductive BV (vs:EV V) (H:Hp) (Q:VK) (_E:XK):Prop
 |mk (op:EW) (x y:Int) (_:vs=[.str (dI op), .int x, .int y]) (_:op∈Gu) (_:Q (.bl (MA op x y)) H):BV vs H Q _E
theorem alH (T:aU K mg a):T.d_S.U P w base 1 BV:=by
 refine T.d_S.F.ok akY [03] [02];obtain⟨op,x,y,rfl,ho,q⟩:=h;obtain⟨_,_,_,_,_,l1,l2,l3,l4,l5⟩:=wQ;unfold MA at q;have q:=Dk (Q:=λz=>Q (.bl z) H) q
 refine js ho l1 (λe=>#[_,ca b8 (pv 1) (pv 2) (aM _),Gc,by rw[cj];exact q.1 e]) λe=>?_;have q:=Dk (Q:=λz=>Q (.bl z) H) (q.2 e)
 refine js ho l2 (λe=>#[_,ca py (pv 1) (pv 2) (aM _),Gc,by rw[cj,<-decide_not];exact q.1 e]) λe=>?_;have q:=Dk (Q:=λz=>Q (.bl z) H) (q.2 e)
 refine js ho l3 (λe=>#[_,ca eP (pv 1) (pv 2) (aM _),_,_,Gc,Gc,q.1 e]) λe=>?_;have q:=Dk (Q:=λz=>Q (.bl z) H) (q.2 e)
 refine js ho l4 (λe=>#[_,ca afn (pv 1) (pv 2) (aM _),_,_,Gc,Gc,q.1 e]) λe=>?_;have q:=Dk (Q:=λz=>Q (.bl z) H) (q.2 e)
 exact js ho l5 (λe=>#[_,ca ka (pv 1) (pv 2) (aM _),_,_,Gc,Gc,q.1 e]) λe=>aL #[_,ca gk (pv 1) (pv 2) (aM _),_,_,Gc,Gc,q.2 e]
theorem u9 (h:rZ j):j.natAbs.log2<9000:=by
 by_cases z:j.natAbs=0
 ·rw[z];decide
 ·refine Fm.lt_trans ((Fm.log2_lt z).mpr (show j.natAbs<2 ^ 65 by unfold rZ at h;lia)) [01]
inductive Yk (vs:EV V) (H:Hp) (Q:VK) (_E:XK):Prop
 |mk (op:EW) (x y:Int) (_:vs=[.str (dI op), .int x, .int y]) (_:op∈Gu) (_:rZ x) (_:rZ y) (_:xW op y=FM) (_:Q (.int (mz op x y)) H):Yk vs H Q _E
theorem alI (T:aU K mg a):T.d_R.U P w base 2 Yk:=by
 have G_S:=alH (P:=P) (w:=w) (base:=base) T;refine T.d_R.F.ok akX [03] [02];obtain⟨op,x,y,rfl,ho,bx,b_y,hh,q⟩:=h;obtain⟨l1,l2,l3,l4,l5,_⟩:=wQ
 have y0:op=EY "/"\/op=EY "%"->y≠0:=λo z=>by
  rw[z] at hh;rcases o with o|o
  ·rw[o] at hh;exact Fv hh [00]
  ·rw[o] at hh;exact Fv hh [00]
 unfold mz at q;have q:=Dk (Q:=λz=>Q (.int z) H) q
 refine js ho l1 (λe=>#[_,bW dP (pv 1) (pv 2),_,_,Gc,Gc,q.1 e]) λe=>?_;have q:=Dk (Q:=λz=>Q (.int z) H) (q.2 e)
 refine js ho l2 (λe=>#[_,bW cV (pv 1) (pv 2),_,_,Gc,Gc,q.1 e]) λe=>?_;have q:=Dk (Q:=λz=>Q (.int z) H) (q.2 e)
 refine js ho l3 (λe=>#[_,bW zL (pv 1) (pv 2),_,_,Gc,Gc, .inl bx,q.1 e]) λe=>?_;have q:=Dk (Q:=λz=>Q (.int z) H) (q.2 e)
 refine js ho l4 (λe=>#[_,bW Bf (pv 1) (pv 2),_,_,Gc,Gc,#[y0 (.inl e),u9 b_y],q.1 e]) λe=>?_;have q:=Dk (Q:=λz=>Q (.int z) H) (q.2 e)
 refine js ho l5 (λe=>#[_,bW DY (pv 1) (pv 2),_,_,Gc,Gc,y0 (.inr e),q.1 e]) λe=>?_;refine aL #[_,dF (cZ (aJ G_S hr (by rfl) T.d_S.c aV (aa (pv 0) (aa (pv 1) (aa (pv 2) ag))))) ak ak,op,x,y,Gc,ho,_,Gc,?_];have q:=q.2 e;unfold NL at q;cases hc:MA op x y with
 |true=>rw[hc] at q;exact cc q
 |false=>rw[hc] at q;exact bN q
inductive ahr (vs:EV V) (H:Hp) (Q:VK) (_E:XK):Prop
 |mk (x:Int) (_:(vs=[.str "-", .int x]/\Q (.int (-x)) H)\/(vs=[.str "!", .int x]/\Q (.int (NL (x == 0))) H)):ahr vs H Q _E
theorem ahs (T:aU K mg a):T.Zn.U P w base 1 ahr:=by
 refine T.Zn.F.ok agc (λvs H Q E h=>?_) [02]
 ·obtain⟨x,⟨rfl,_⟩|⟨rfl,_⟩⟩:=h
  ·rfl
  ·rfl
 ·obtain⟨x,⟨rfl,q⟩|⟨rfl,q⟩⟩:=h
  ·refine#[_,(ax (cx (a9 b8 (pv 0) dJ (aM _)) (ai (aI (bW cV ak (pv 1)))) br)
    (ai (aI (dF (a9 b8 (pv 1) ak (aM _)) ak ak)))),?_]
   refine#[Gc,_,Gc,aP (λ_=>?_) λe=>Fv e [00]];exact#[_,_,Gc,Gc,by show Q (.int (0-x)) H;rw[Int.zero_sub];exact q]
  ·refine#[_,(ax (cx (a9 b8 (pv 0) dJ (aM _)) (ai (aI (bW cV ak (pv 1)))) br)
    (ai (aI (dF (a9 b8 (pv 1) ak (aM _)) ak ak)))),?_]
   refine#[Gc,_,Gc,aP (λe=>Fv e [00]) λ_=>?_];refine#[Gc,_,Gc,?_];rw[cj];unfold NL at q;by_cases hx:x=0
   ·rw[show(x == 0)=FM from beq_iff_eq.mpr hx] at q
    rw[Gy hx];exact cc q
   ·rw[show(x == 0)=FS from beq_eq_false_iff_ne.mpr hx] at q
    rw[FU hx];exact bN q
inductive pY (vs:EV V) (H:Hp) (Q:VK) (_E:XK):Prop
 |mk (s:Fm) (x:Int) (_:vs=[.int s, .int x]) (_:Q (.bl (jg s x)) H):pY vs H Q _E
theorem aht (T:aU K mg a):T.Zp.U P w base 1 pY:=by
 refine T.Zp.F.ok age [03] [02];obtain⟨st,x,rfl,q⟩:=h;refine#[_,(ax (cx (a9 b8 (pv 0) (aR (by rfl) T.Tx) (aM _)) (ai (aI (ca b8 (pv 1) ak (aM _)))) br)
   (ai (aI (ca py (pv 1) ak (aM _))))),?_]
 refine#[Gc,_,Gc,?_];rw[cj];unfold jg at q;refine aP (λe=>?_) λe=>?_
 ·rw[E7 (by have:=FN e;lia)] at q
  exact#[Gc,by rw[cj];exact q]
 ·rw[E5 (by have:=FR e;lia)] at q
  exact#[Gc,by rw[cj];exact q]
inductive Ba (vs:EV V) (H:Hp) (Q:VK) (_E:XK):Prop
 |mk (s:Fm) (_:vs=[.int s]) (_:Q (.int (nQ s)) H):Ba vs H Q _E
theorem ahu (T:aU K mg a):T.d_T.U P w base 1 Ba:=by
 refine T.d_T.F.ok akZ [03] [02];obtain⟨st,rfl,q⟩:=h;refine#[_,(ai (aI (dF (a9 b8 (pv 0) (aR (by rfl) T.Tx) (aM _)) ak ak))),?_];refine#[Gc,_,Gc,?_];rw[cj];unfold nQ at q;refine aP (λe=>?_) λe=>?_
 ·rw[E7 (by have:=FN e;lia)] at q
  exact q
 ·rw[E5 (by have:=FR e;lia)] at q
  exact q
inductive CM (vs:EV V) (H:Hp) (Q:VK) (_E:XK):Prop
 |mk (f:EW) (p:E4) (l:EV Int) (k:EW×Fm) (_:vs=[.str (sb f), .ref p]) (_:H p=Fa (.lst (l.map V.int))) (_:(K9.find? λg=>g.1 == f)=Fa k) (_:l.length=k.2) (_:Q (.int (We f l)) H):CM vs H Q _E
theorem Yl (h:x=sb s):decide (V.str (sb f)=V.str x)=decide (f=s):=by
 rw[h];exact decide_eq_decide.mpr #[λz=>ee (V.str.inj z),λz=>by rw[z]]
theorem ahv (T:aU K mg a):T.Zo.U P w base 1 CM:=by
 refine T.Zo.F.ok agd [03] [02];obtain⟨f,p,l,k,rfl,hp,hk,hl,q⟩:=h;refine#[_,(ax (cx (a9 b8 (pv 0) dJ (aM _)) (ai (aI (bv (yl rfl) (by rfl) T.ae9 boot_min (aa (pv 1) ag)))) br)
   (ax (cx (a9 b8 (pv 0) dJ (aM _)) (ai (aI (bv (yQ rfl) (by rfl) T.ae8 boot_max (aa (pv 1) ag)))) br)
   (ai (aI (bv tU (by rfl) T.XM boot_abs (aa (cM bD (pv 1) ak [002]) ag)))))),?_]
 unfold We at q;dsimp only at q;have kf:k.1=f:=by have:=QQ hk;exact beq_iff_eq.mp this
 have km:=Kq hk
 have kk:k=(EY "min",2)\/k=(EY "max",2)\/k=(EY "abs",1):=by
  unfold K9 at km
  simpa using km
 refine#[Gc,_,Gc,?_];rw[Yl (s:=EY "min") [00]];refine aP (λe=>?_) λe=>?_
 ·have e:=FN e
  rw[E7 e] at q;have:l.length=2:=by
   rcases kk with z|z|z
   ·rw[hl,z]
   ·rw[hl,z]
   ·rw[z] at kf;rw[e] at kf;exact Fv kf [00]
  match l,this with
  |[i,j],_=>exact#[p,i,j,Gc,hp,q]
 have e1:=FR e;rw[E5 e1] at q;refine#[Gc,_,Gc,?_];rw[Yl (s:=EY "max") [00]];refine aP (λe=>?_) λe=>?_
 ·have e:=FN e
  rw[E7 e] at q;have:l.length=2:=by
   rcases kk with z|z|z
   ·rw[hl,z]
   ·rw[hl,z]
   ·rw[z] at kf;rw[e] at kf;exact Fv kf [00]
  match l,this with
  |[i,j],_=>exact#[p,i,j,Gc,hp,q]
 have e2:=FR e;rw[E5 e2] at q
 have:l.length=1:=by
  rcases kk with z|z|z
  ·rw[z] at kf;exact Fv kf.symm e1
  ·rw[z] at kf;exact Fv kf.symm e2
  ·rw[hl,z]
 match l,this with
 |[i],_=>exact#[p,_,_,V.int i,Gc,Gc,cC.of hp,bw (j:=0) rfl,i,Gc,q]
inductive Ym (a:bf) (vs:EV V) (H:Hp) (Q:VK) (E:XK):Prop
 |mk (x:Int) (_:vs=[.int x]) (_:(dA x->Q (.int x) H)) (_:(¬dA x->Rfs a.KN E H (-12))):Ym a vs H Q E
theorem ahw (T:aU K mg a) (XC:XW K a):T.d_w.O P w base 4 (Ym a):=by
 have G_P:=k8 (P:=P) (w:=w) (base:=base) T XC;refine fQ T.d_w.F ak5 [03] [02];obtain⟨x,rfl,h1,h2⟩:=h;refine#[_,(ax (cx (a9 gk (bv tU (by rfl) T.XM boot_abs (aa (pv 0) ag)) (aR (by rfl) T.Tz) (aM _)) (ai (eW eB XC.OM G_P (hr.mono (by lia)) (by rfl) T.P2 T.d_P.c.b)) br)
   (ai (aI (pv 0)))),?_]
 refine#[_,Gc,_,_,Gc,Gc,_,Gc,?_];refine aP (λe=>?_) λe=>?_
 ·have e:=FN e
  exact#[by show 0<=9;decide,_,#[Gc,Gc],h2 λz=>by unfold dA Kc at z;split at e<;>lia]
 ·have e:=FR e
  exact h1 (by unfold dA Kc;split at e<;>lia)
inductive Yn (a:bf) (vs:EV V) (H:Hp) (Q:VK) (E:XK):Prop
 |mk (op:EW) (s:Fm) (x y:Int) (_:vs=[.str (dI op), .int x, .int y]) (_:op∈Gu) (_:dA x) (_:dA y) (_:(s=2 ↔ op∈["==","!=","<=",">=","<",">"].map EY)) (_:(s≠2->op∈["+","-","*","/","%"].map EY)) (_:(match fO s op x y with
  | .error k=> ∀H',aW H H'->oV a E H' k
  | .ok z=> ∀H',aW H H'->Q (.int z) H')):Yn a vs H Q E
theorem BO (h:op∈["==","!=","<=",">=","<",">"].map EY):op≠EY "+"/\op≠EY "-"/\op≠EY "*"/\op≠EY "/"/\op≠EY "%":=by
 revert op
 decide+kernel
theorem ahx (T:aU K mg a) (XC:XW K a):T.Zw.O P w base 5 (Yn a):=by
 have G_Q:=alG (P:=P) (w:=w) (base:=base) T
 have G_R:=alI (P:=P) (w:=w) (base:=base) T
 have G_w:=ahw (P:=P) (w:=w) (base:=base) T XC
 have G_O:=io (P:=P) (w:=w) (base:=base) T XC;refine fQ T.Zw.F ago [03] [02];obtain⟨op,st,x,y,rfl,ho,bx,b_y,h2,hn,q⟩:=h;refine#[_,(ax (cx (lf (cZ (aJ G_Q (hr.mono (by lia)) (by rfl) T.d_Q.c aV (aa (pv 0) (aa (pv 2) ag))))) (ai (eW eB XC.LV G_O (hr.mono (by lia)) (by rfl) T.Nf T.d_O.c.b)) br)
   (ai (aI (aJ G_w (hr.mono (by lia)) (by rfl) T.d_w.c aA (aa (aJ G_R (hr.mono (by lia)) (by rfl) T.d_R.c aV (aa (pv 0) (aa (pv 1) (aa (pv 2) ag)))) ag))))),?_]
 refine#[op,y,Gc,ho,λH1 s1=>#[_,Gc,?_]];have bx':rZ x:=by unfold dA Kc at bx;unfold rZ;lia
 have alJ:rZ y:=by unfold dA Kc at b_y;unfold rZ;lia
 cases hh:xW op y with
 |false=>
  refine cc ?_;unfold xW at hh;rw[LZ] at hh;have y0:y=0:=by simpa using hh.1
  have od:op=EY "/"\/op=EY "%":=by have:=hh.2;rw[Pl,Mh,F5,F5] at this;exact this
  have n2:st≠2:=λz=>by
   have:=BO (h2.mp z);rcases od with z|z
   ·exact this.2.2.2.1 z
   ·exact this.2.2.2.2 z
  have ec:fO st op x y= .error (-11):=by
   unfold fO Xs;rw[E5 n2,y0];rcases od with z|z
   ·rw[z,E5 [00],E5 [00],E5 [00],E7 rfl]
   ·rw[z,E5 [00],E5 [00],E5 [00],E7 rfl]
  rw[ec] at q;exact#[by show 0<=9;decide,_,#[Gc,Gc],q H1 s1 _ (.head _)]
 |true=>
  refine bN ?_;refine#[op,x,y,Gc,ho,bx',alJ,hh,?_];have key:fO st op x y=if dA (mz op x y) then .ok (mz op x y) else .error (-12):=by
   unfold fO;by_cases z:st=2
   ·rw[E7 z]
    obtain⟨e1,e2,e3,e4,e5⟩:=BO (h2.mp z);have:mz op x y=NL (MA op x y):=by unfold mz;rw[E5 e1,E5 e2,E5 e3,E5 e4,E5 e5]
    rw[this,E7 (gK _)]
   ·rw[E5 z]
    have y0:op=EY "/"\/op=EY "%"->y≠0:=λo=>by
     unfold xW at hh;intro w0;rw[w0] at hh;rcases o with o|o
     ·rw[o] at hh;exact Fv hh [00]
     ·rw[o] at hh;exact Fv hh [00]
    have ck: ∀v:Int,(match Wf v 0 with
      | .error c=> .error c
      | .ok (v,_)=> .ok v)=if dA v then(.ok v:Except Int Int) else .error (-12):=λv=>by
     unfold Wf;by_cases h:dA v
     ·rw[E7 h,E7 h]
     ·rw[E5 h,E5 h]
    unfold Xs mz;by_cases e1:op=EY "+"
    ·rw[E7 e1,E7 e1];exact ck _
    rw[E5 e1,E5 e1];by_cases e2:op=EY "-"
    ·rw[E7 e2,E7 e2];exact ck _
    rw[E5 e2,E5 e2];by_cases e3:op=EY "*"
    ·rw[E7 e3,E7 e3];exact ck _
    rw[E5 e3,E5 e3];by_cases e4:op=EY "/"
    ·rw[E5 (y0 (.inl e4)),E7 e4,E7 e4];exact ck _
    rw[E5 e4];have e5:op=EY "%":=by
     have:=hn z;simp only[FC,PY,Fi,Hs,or_false] at this;rcases this with z|z|z|z|z
     ·exact Fv z e1
     ·exact Fv z e2
     ·exact Fv z e3
     ·exact Fv z e4
     ·exact z
    rw[E5 (y0 (.inr e5)),E5 e4,E7 e5];exact ck _
  rw[key] at q;refine#[_,Gc,λhb=>?_,λhb=>?_]
  ·rw[E7 hb] at q
   exact q H1 s1
  ·rw[E5 hb] at q
   exact q H1 s1 _ (.tail _ (.head _))
structure GX (X:Cx) (a:bf) (E:XK):Prop where
 T:aU X.K X.mg a
 C:XW X.K a
 hr:bX 5 X.A
 up:dg (fY X.prog X.w) X E
 nd:X.N.Nodup
 n0:X.N[0]?=Fa ("worker":FD)
 v0:oS X.env.scope "worker"
 n2:X.N[2]?=Fa ("parts":FD)
 v2:oS X.env.scope "parts"
structure pb (a:bf) (H:Hp) (B:sC) (c:qd) (S:HM) (F0:EV (EW×Fm)) (r:V) (b:Fm) (ff:EV (a8×V)) (ds:EV rF) (u:oQ) (us:EV oQ) (e:Fc) (ts:EV dX) (sc:EV fz) (n:Fm):Prop where
 FO:gz S F0
 gd:Gd F0 (.go ((e,u.ps)::ts) sc n)
 W:eS a B H c S.funs r b ff ds (u::us) ((e,u.ps)::ts) sc n
inductive ahy (a:bf) (ok:HM->Fc->EV Int->Prop) (vs:EV V) (H:Hp) (Q:VK) (E:XK):Prop
 |mk {B:sC}{c:qd}{S:HM}{F0:EV (EW×Fm)}{r:V}{b:Fm}{ff:EV (a8×V)}{ds:EV rF}{u:oQ}{us:EV oQ}{e:Fc}{ts:EV dX}{sc:EV fz}{n:Fm}{m:Mc}(_:vs=[.ref c.wk,u.v, .ref u.p]) (_:ok S e u.ps) (_:pb a H B c S F0 r b ff ds u us e ts sc n) (_:eA S.funs (.go ((e,u.ps)::ts) sc n)=Fa m) (_:mT a B c S.funs (Q .Iw) E m):ahy a ok vs H Q E
section
variable {H H':Hp}
theorem pb.ev (G:pb a H B c S F0 r b ff ds u us e ts sc n):au a B.M B.H e u.v:=by
 cases G.W.tk with
 |cons h _=>exact h.1
theorem pb.hp (G:pb a H B c S F0 r b ff ds u us e ts sc n):H u.p=Fa (.lst (u.ps.map V.int)):=G.W.O.get 5 rfl
theorem pb.psB (G:pb a H B c S F0 r b ff ds u us e ts sc n): ∀x∈u.ps,dA x:=(G.gd.1 (e,u.ps) Fb).ps
theorem pb.ws (G:pb a H B c S F0 r b ff ds u us e ts sc n):WSx F0 e:=(G.gd.1 (e,u.ps) Fb).ws
theorem pb.len (G:pb a H B c S F0 r b ff ds u us e ts sc n):u.ps.length+n<=10000:=G.W.bn.tl 0 _ rfl
theorem pb.grow (G:pb a H B c S F0 r b ff ds u us e ts sc n) (k:aW H H'):pb a H' B c S F0 r b ff ds u us e ts sc n:=#[G.FO,G.gd,G.W.grow k]
theorem pb.part (G:pb a H B c S F0 r b ff ds u us e ts sc n) (h:H' u.p=Fa (.lst (ps.map V.int))) (k: ∀b o,H b=Fa o->b≠u.p->H' b=Fa o) (hl:ps.length<=u.ps.length) (hb: ∀x∈ps,dA x):pb a H' B c S F0 r b ff ds { u with ps:=ps } us e ts sc n:=by
 refine#[G.FO,#[λt ht=>?_,G.gd.2],G.W.parts h k (by have:=G.len;lia)];rcases Fi.mp ht with z|z
 ·rw[z];exact#[G.ws,hb]
 ·exact G.gd.1 t (E9 _ z)
end
abbrev o7 (P:FW) (w:Gx) (K:E1) (mg:FD->Fd E3) (base:GI) (a:bf) (k:Fm) (f:E4) (fd:Gb) (y:FD) (ok:HM->Fc->EV Int->Prop):Prop:=bU P w K mg base (fY P w) k f fd ["worker",y,"parts"] (ahy a ok)
theorem rk {x GU y:FD}{st:Stmt}{f:E4}{fd:Gb}{N:EV FD}{ok:HM->Fc->EV Int->Prop}(T:aU K mg a) (XC:XW K a) (hk:5<=k) (F:oU K x GU st f fd) (S:az N ["worker",y,"parts"] (af st))
  (Jv: ∀(GF:E3) (A:GG) (outer:EV Env) (s:E8) (H:Hp) (B:sC) (c:qd) (S:HM) (F0:EV (EW×Fm)) (r:V) (b:Fm) (ff:EV (a8×V)) (ds:EV rF) (u:oQ) (us:EV oQ) (e:Fc) (ts:EV dX) (sc:EV fz) (n:Fm) (m:Mc) (Q:VK) (E:XK),bX k (A.deeper (Jz GU (af st) s.heap.objs.size f GF))->ok S e u.ps->pb a H B c S F0 r b ff ds u us e ts sc n->eA S.funs (.go ((e,u.ps)::ts) sc n)=Fa m->mT a B c S.funs (Q .Iw) E m->
   let X:=e8 (fY P w) P w K mg base N GU (af st) f GF A outer s H E
   let D:d8:= { nx:=λ_ H'=>Q .Iw H',rt:=Q }
   GX X a E->Bd X (be st) D (L2.start N [.ref c.wk,u.v, .ref u.p]) H):o7 P w K mg base a (k+1) f fd y ok:=by
 refine fQ F S [03] [02];obtain @⟨B,c,S',F0,r,b,ff,ds,u,us,e,ts,sc,n,m,rfl,ho,G,hm,g⟩:=h;have vis: ∀g∈[("worker":FD),y,"parts"],oS (af st) g:=λg hg=>(S.par g hg).elim .inl λz=> .inr (.inl z)
 have pre:=S.pre;refine Jv GF A outer s H B c S' F0 r b ff ds u us e ts sc n m Q E hr ho G hm g #[T,XC,hr.mono hk,aA,S.nd,?_,vis _ (.head _),?_,vis _ (.tail _ (.tail _ (.head _)))]
 ·match N,pre with
  |x::_,e=>exact Ga Fa (Js e).1
 ·match N,pre with
  |_::_::x::_,e=>exact Ga Fa (Js (Js (Js e).2).2).1
section
variable {X:Cx}{E:XK}{B:sC}{c:qd}{F:Jw}{r:V}{b:Fm}{ff:EV (a8×V)}{ds:EV rF}{u:oQ}{us:EV oQ}{t:dX}{ts:EV dX}{sc:EV fz}{n:Fm}{D:d8}{σ:L2.St}{H:Hp}{e:Hv}{p1 p2 p3 p4 p5:Pos}
theorem fj (Y:GX X a E) (q:Pe X e (Fa (.ref c.wk)::σ) H λv H1=> ∃(o:Fc) (us:EV oQ) (ts:EV dX),eS a B H1 c F r b ff ds us ts sc n/\au a B.M B.H o v/\mT a B c F (D.nx (Fa (.ref c.wk)::σ)) E (kz o ts sc n)) (W:eS a B H c F r b ff ds us ts sc n) (hp:ip p2 p4:=by rfl) (Kd:Fy [e] X.env=[[001]]:=by rfl):
  Bd X [.Expr (.Call (.Attribute (.Name "worker" p1) "begin" p2) [e] [] p4) p5] D (Fa (.ref c.wk)::σ) H:=
 eu (bh (cy (dR Y.n0 Y.v0) Y.T.HS Y.T.WM.c (sH Y.T Y.C) Y.hr Y.up (aa dq ag Kd) Kd rfl (d9 hp (by rw[Kd];rfl))) rfl) #[c.wk,c.dw,_,Gc,W.ins,Gc,q.mono λv H1 ⟨o,us,ts,W1,ev,g⟩=> .mk rfl W1 ev g]
theorem Bq {N:Hp->Prop}{E':XK}(g:mT a B c F N E (eN ts sc n x)):mT a B c F N E' (eN ts sc n x):=by
 cases ts<;>exact g
theorem df (Y:GX X a E) (W:eS a B H c F r b ff ds us ts sc n) (q:Pe X e (Fa (.ref c.wk)::σ) H λv H1=> ∃(x:Int) (ds:EV rF) (u:oQ) (us:EV oQ) (t:dX) (ts:EV dX) (sc:EV fz),v= .int x/\eS a B H1 c F r b ff ds (u::us) (t::ts) sc n/\mT a B c F (D.nx (Fa (.ref c.wk)::σ)) E (eN ts sc n x)) (hp:ip p2 p4:=by rfl) (Kd:Fy [e] X.env=[[001]]:=by rfl):
  Bd X [.Expr (.Call (.Attribute (.Name "worker" p1) "finish" p2) [e] [] p4) p5] D (Fa (.ref c.wk)::σ) H:=
 eu (bh (cy (dR Y.n0 Y.v0) Y.T.HS Y.T.Zu.c (yu Y.T) (Y.hr.mono [01]) aV (aa dq ag Kd) Kd rfl (d9 hp (by rw[Kd];rfl))) rfl) #[c.wk,c.dw,_,Gc,W.ins,Gc,q.mono λv H1 ⟨x,ds,u,us,t,ts,sc,hv,W1,g⟩=>by subst hv;exact .mk rfl W1 (Bq g)]
theorem dH {Q:VK}(Y:GX X a E) (hp:H p=Fa (.lst xs)) (q:Q (.int xs.length) H) (hg:Gl X "len":=by rfl):Pe X (.Call (.Name "len" p1) [.Name "parts" p3] [] p2) (Fa (.ref c.wk)::Fa v::Fa (.ref p)::σ) H Q:=iA Y.T.JW hp (dR Y.n2 Y.v2) [05] q hg
end
theorem jw {α β:Type}{F:α->β->Prop} : ∀ {l:EV α}{m:EV β}{i:Fm}{y:β},Paired F l m->m[i]?=Fa y-> ∃x,l[i]?=Fa x/\F x y
 |_,_,_,_, .nil,h=>by cases h
 |_,_,0,_, .cons r t,h=>#[_,Gc,by obtain rfl:=Fs h;exact r]
 |_,_,i+1,_, .cons r t,h=>jw (i:=i) t h
theorem ahz {a:bf}{M:E4->Prop}{H:Hp}{e x:Fc}(he:e= .neg x\/e= .not x) (h:au a M H e v): ∃sg u,bI M H a.KD [("sign", .str sg),("operand",u)] v/\au a M H x u/\(sg="-"/\e= .neg x\/sg="!"/\e= .not x):=by
 rcases he with rfl|rfl
 ·unfold au at h
  obtain⟨u,h1,h2⟩:=h;exact#[_,u,h1,h2, .inl #[Gc,Gc]]
 ·unfold au at h
  obtain⟨u,h1,h2⟩:=h;exact#[_,u,h1,h2, .inr #[Gc,Gc]]
theorem alK (T:aU K mg a) (XC:XW K a):o7 P w K mg base a 6 a.f_7 a.adZ "unary" λ_ e _=> ∃x,e= .neg x\/e= .not x:=by
 refine rk T XC [01] T.d_7.F ak2 λGF A outer s H B c S F0 r b ff ds u us e ts sc n m Q E hr ho G hm g=>?_;intro X D Y;obtain⟨x,he⟩:=ho;have W:=G.W;obtain⟨sg,w,i,hw,un⟩:=ahz he G.ev;refine cw (jm (dH Y G.hp (cN #[_,_,Gc,Gc,?_])));rw[Fh];have hp:=G.hp;generalize Ww:u.ps=ps at hm hp;cases ps with
 |nil=>
  refine cc (fj Y (ci (bC 1 (i.fld W.O.same T.O4 T.Nh rfl #[x,_,_,W,hw,?_])) rfl) W);rcases un with⟨_,rfl⟩|⟨_,rfl⟩
  ·cases hm;rw[Ww];exact g
  ·cases hm;rw[Ww];exact g
 |cons y ys=>
  refine bN (df Y W (bL (aO (ci (bC 1 (i.fld W.O.same T.O4 T.OA rfl (aO (li (bC 2 (cN #[u.p,_,_,V.int y,Gc,Gc,cC.of hp,bw (j:=0) rfl,cH #[y,?_]])) [002])))) rfl)) (ahs T) [07] T.Zn.c aV));rcases un with⟨rfl,rfl⟩|⟨rfl,rfl⟩
  ·cases hm
   exact .inl #[Gc,_,_,_,_,_,_,_,Gc,W,g]
  ·cases hm
   exact .inr #[Gc,_,_,_,_,_,_,_,Gc,W,g]
theorem ahA (T:aU K mg a) (XC:XW K a):o7 P w K mg base a 6 a.adi a.XD "choice" λ_ e _=> ∃x y z,e= .pick x y z:=by
 refine rk T XC [01] T.ae2.F agp λGF A outer s H B c S F0 r b ff ds u us e ts sc n m Q E hr ho G hm g=>?_;intro X D Y;obtain⟨x,y,z,rfl⟩:=ho;have W:=G.W;have ev:=G.ev;unfold au at ev;obtain⟨u1,u2,u3,i,e1,e2,e3⟩:=ev;have hp:=G.hp;refine cw (jm (dH Y hp (cN #[_,_,Gc,Gc,?_])));rw[Fh];generalize Ww:u.ps=ps at hm hp;have bg: ∀ {p1 p2 p3 p4 p5 p6:Pos}{f:FD}{o:Fc}{v:V},([("condition",u1),("chosen",u2),("otherwise",u3)]:EV (FD×V)).lookup f=Fa v->ao K a.Ka f->au a B.M B.H o v->mT a B c S.funs (Q .Iw) E (kz o ((.pick x y z,u.ps)::ts) sc n)->(p2.endLine == p4.line)=FM->Bd X [.Expr (.Call (.Attribute (.Name "worker" p1) "begin" p2) [.Attribute (.Name "choice" p3) f p6] [] p4) p5] D [Fa (.ref c.wk),Fa u.v,Fa (.ref u.p)] H:=λhl no ev g hp=>fj Y (ci (bC 1 (i.fld W.O.same T.PD no hl #[_,_,_,W,ev,g])) rfl) W hp
 match ps,hm with
 |[],hm=>cases hm;exact cc (bg rfl T.L4 e1 (by rw[Ww];exact g) rfl)
 |[t],hm=>
  cases hm;refine bN (cw (jm (dH Y hp (cN #[_,_,Gc,Gc,bN (cw (cR py (li (bC 2 (cN #[u.p,_,_,V.int t,Gc,Gc,cC.of hp,bw (j:=0) rfl,cN #[Gc,_,Gc,?_]])) [002])))]))));rw[cj];by_cases ht:t=0
  ·rw[E5 (λw=>w ht)] at g
   rw[Gy ht];exact bN (bg rfl T.L5 e3 (by rw[Ww];exact g) rfl)
  ·rw[E7 ht] at g
   rw[FU ht];exact cc (bg rfl T.Nj e2 (by rw[Ww];exact g) rfl)
 |[t,t'],hm=>
  cases hm;exact bN (cw (jm (dH Y hp (cN #[_,_,Gc,Gc,cc (df Y W (li (bC 2 (cN #[u.p,_,_,V.int t',Gc,Gc,cC.of hp,bw (j:=1) rfl,_,_,_,_,_,_,_,Gc,W,g])) [002]))]))))
 |_::_::_::_,hm=>cases hm
def lB:Fc->Fd (Fm×EV Fc×EV EW)
 | .sums e r=>Fa (3,e::Dh r,zI r)
 | .prods e r=>Fa (4,e::Dh r,zI r)
 | .cmp op x y=>Fa (2,[x,y],[op])
 | .both e l=>Fa (1,e::kX l,(kX l).map λ_=>EY "&&")
 | .either e l=>Fa (0,e::kX l,(kX l).map λ_=>EY "||")
 |_=>FB
section
variable {M:E4->Prop}{H:Hp}
theorem mh: ∀ {l:JP}{us:EV V},cr a M H l us->Paired (λu e=>au a M H e u) us (kX l)
 | .nil,us,h=>by unfold cr at h;rw[h];exact .nil
 | .cons e l,us,h=>by
  unfold cr at h;obtain⟨u,vs,rfl,h1,h2⟩:=h;exact .cons h1 (mh h2)
theorem qP: ∀ {l:Ql}{us ss:EV V},dE a M H l us ss->Paired (λu e=>au a M H e u) us (Dh l)/\ss=(zI l).map λo=>V.str (dI o)
 | .nil,us,ss,h=>by unfold dE at h;rw[h.1,h.2];exact#[.nil,Gc]
 | .cons op e l,us,ss,h=>by
  unfold dE at h;obtain⟨u,vs,ts,rfl,rfl,h1,h2⟩:=h;obtain⟨g1,g2⟩:=qP h2;exact#[.cons h1 g1,by rw[g2];rfl]
inductive aa5 (a:bf) (M:E4->Prop) (H:Hp) (s:Fm) (ops:EV Fc) (sgs:EV EW) (v:V):Prop
 |mk (oq gq:V) (us:EV V) (_:bI M H a.JD [("strength", .int s),("operands",oq),("signs",gq)] v) (_:b5 M H us oq) (_:Paired (λu e=>au a M H e u) us ops) (_:b5 M H (sgs.map λo=>V.str (dI o)) gq):aa5 a M H s ops sgs v
theorem mG {e:Fc}{v:V}{s:Fm}{ops:EV Fc}{sgs:EV EW}(h:au a M H e v) (hc:lB e=Fa (s,ops,sgs)):aa5 a M H s ops sgs v:=by
 have sg: ∀(t:EW) (x:FD) (l:JP) (us:EV V),dI t=x->us.length=(kX l).length->us.map (λ_=>V.str x)=((kX l).map λ_=>t).map λo=>V.str (dI o):=λt x l us e hl=>by
  rw[JA,<-e,WD,hl];exact(WD ..).symm
 cases e with
 |sums e r=>
  unfold au at h;cases hc;obtain⟨_,_,u,us,ss,h1,h2,h3,h4,h5⟩:=h;obtain⟨g1,g2⟩:=qP h5;exact#[_,_,_,h1,h2, .cons h4 g1,by rw[<-g2];exact h3]
 |prods e r=>
  unfold au at h;cases hc;obtain⟨_,_,u,us,ss,h1,h2,h3,h4,h5⟩:=h;obtain⟨g1,g2⟩:=qP h5;exact#[_,_,_,h1,h2, .cons h4 g1,by rw[<-g2];exact h3]
 |cmp op x y=>
  unfold au at h;cases hc;obtain⟨_,_,u1,u2,h1,h2,h3,h4,h5⟩:=h;exact#[_,_,_,h1,h2, .cons h4 (.cons h5 .nil),h3]
 |both e l=>
  unfold au at h;cases hc;obtain⟨_,_,u,us,h1,h2,h3,h4,h5⟩:=h;have g1:=mh h5;exact#[_,_,_,h1,h2, .cons h4 g1,by rw[<-sg (EY "&&") "&&" l us [00] (bj g1)];exact h3]
 |either e l=>
  unfold au at h;cases hc;obtain⟨_,_,u,us,h1,h2,h3,h4,h5⟩:=h;have g1:=mh h5;exact#[_,_,_,h1,h2, .cons h4 g1,by rw[<-sg (EY "||") "||" l us [00] (bj g1)];exact h3]
 |_=>cases hc
theorem nI {F:Jw}{e:Fc}{s:Fm}{ops:EV Fc}{sgs:EV EW}(hc:lB e=Fa (s,ops,sgs)) (ps:EV Int) (ts:EV dX) (sc:EV fz) (n:Fm):eA F (.go ((e,ps)::ts) sc n)=if s<=1 then oY s ops e ps ts sc n else kP s ops sgs e ps ts sc n:=by
 cases e<;>cases hc<;>rfl
end
theorem xN {s:Fm}{ops:EV Fc}{sgs:EV EW}(h:sgs[qs.length]?=FB):kP s ops sgs e (qs++[x,y]) ts sc n=FB:=by
 unfold kP;dsimp only;rw[show(qs++[x,y]).length=qs.length+2 by simp,E7 (by lia),MW,h]
theorem vB {L:EV String}{V:EV EW}{G:EV (EW×Fm)} : ∀ {l:Ql}{op:EW},uB L V G l->op∈zI l->op∈L.map EY
 | .nil,_,_,h=>nomatch h
 | .cons o x l,op,w,h=>by
  unfold uB at w;rcases Fi.mp h with z|z
  ·rw[z];exact w.1
  ·exact vB w.2.2 z
theorem qD:(∀o∈["+","-"].map EY,o∈Gu/\o∉["==","!=","<=",">=","<",">"].map EY/\o∈["+","-","*","/","%"].map EY)/\(∀o∈["*","/","%"].map EY,o∈Gu/\o∉["==","!=","<=",">=","<",">"].map EY/\o∈["+","-","*","/","%"].map EY)/\(∀o∈["==","!=","<=",">=","<",">"].map EY,o∈Gu):=by decide+kernel
theorem yn {s:Fm}{ops:EV Fc}{sgs:EV EW}{op:EW}(w:WSx F0 e) (hc:lB e=Fa (s,ops,sgs)) (h2: ¬s<=1) (ho:op∈sgs):op∈Gu/\(s=2 ↔ op∈["==","!=","<=",">=","<",">"].map EY)/\(s≠2->op∈["+","-","*","/","%"].map EY):=by
 obtain⟨V,G,w,_⟩:=w;cases e with
 |sums e l=>
  cases hc;unfold WS at w;have z:=qD.1 op (vB w.2.2 ho);exact#[z.1,#[(λy=>by cases y),λy=>Fv y z.2.1],λ_=>z.2.2]
 |prods e l=>
  cases hc;unfold WS at w;have z:=qD.2.1 op (vB w.2.2 ho);exact#[z.1,#[(λy=>by cases y),λy=>Fv y z.2.1],λ_=>z.2.2]
 |cmp o x y=>
  cases hc;unfold WS at w;rw[Fz.mp ho];exact#[qD.2.2 _ w.1,#[λ_=>w.1,λ_=>rfl],λz=>Fv rfl z]
 |both e l=>cases hc;exact Fv (Fq 1) h2
 |either e l=>cases hc;exact Fv (FI 1) h2
 |_=>cases hc
section
variable {E:XK}{H:Hp}{Q:VK}
theorem we (Y:GX X a E) (C:aa5 a B.M B.H s ops sgs v) (W:eS a B H c F r b ff ds (u::us) ((e,u.ps)::ts) sc n) (lt: ∀o,ops[u.ps.length]?=Fa o->mT a B c F (D.nx (Fa (.ref c.wk)::Fa v::Fa (.ref u.p)::σ)) E (kz o ((e,u.ps)::ts) sc n)) (ge:ops[u.ps.length]?=FB->Bd X TQ D (Fa (.ref c.wk)::Fa v::Fa (.ref u.p)::σ) H)
  (hg:Gl X "len":=by rfl) (n1:X.N[1]?=Fa ("chain":FD):=by rfl) (v1:oS X.env.scope "chain":=by exact GO rfl) (h2:(q1.endLine == q2.line)=FM:=by rfl):
  Bd X [.If (.Compare (.Call (.Name "len" p1) [.Name "parts" p2] [] p3) [.Lt] [.Call (.Name "len" p4) [.Attribute (.Name "chain" p5) "operands" p6] [] p7] p8) [.Expr (.Call (.Attribute (.Name "worker" q4) "begin" q1) [.Subscript (.Attribute (.Name "chain" q3) "operands" p9) (.Call (.Name "len" q5) [.Name "parts" q6] [] q7) q8] [] q2) q9] TQ q0] D (Fa (.ref c.wk)::Fa v::Fa (.ref u.p)::σ) H:=by
 obtain⟨oq,gq,V9,i,⟨o,rfl,_,ho⟩,pr,_⟩:=C;have ho:=W.O.same _ _ ho;have hp:=W.O.get 5 rfl;have fl: ∀ {Q:VK},Q (.ref o) H->dB X.K "operands" Q v H:=λq=>i.fld W.O.same Y.T.Ni Y.T.MM rfl q
 refine cw (cR ka (dH Y hp (iA Y.T.JW ho (ah (dR n1 v1) rfl) (λ_ q=>fl q) #[_,_,Gc,Gc,_,Gc,dC (λz=>?_) λz=>ge (IF ?_)] hg) hg) rfl)
 ·rw[Fh,bj pr] at z
  have lt':u.ps.length<ops.length:=by lia
  obtain⟨w,hw,ew⟩:=jw pr (Hi lt');exact fj Y (li (ci (bC 1 (fl (dH Y hp #[o,_,_,w,Gc,Gc,cC.of ho,by rw[Fh];exact bw hw,_,_,_,W,ew,lt _ (Hi lt')] hg)) n1 v1) rfl) [002]) W h2
 ·rw[Fh,bj pr] at z
  lia
end
theorem alL (T:aU K mg a) (XC:XW K a):o7 P w K mg base a 6 a.f_9 a.ad1 "chain" λ_ e _=> ∃s ops sgs,lB e=Fa (s,ops,sgs)/\s<=1:=by
 refine rk T XC [01] T.d_9.F ak4 λGF A outer s H B c S F0 r b ff ds u us e ts sc n m Q E hr ho G hm g=>?_;intro X D Y;obtain⟨st,ops,sgs,hc,hs⟩:=ho;have W:=G.W;rw[nI hc,E7 hs] at hm;have C:=mG G.ev hc;obtain⟨oq,gq,V9,i,_⟩:=id C;have fl: ∀ {Q:VK},Q (.int st) H->dB K "strength" Q u.v H:=λq=>i.fld W.O.same T.Ni T.K4 rfl q
 unfold oY at hm;refine aaE (Z:= ¬u.ps.getLast?.any (jg st)=FM) (λna=>we Y C W (λo ho=>?_) λho=>?_) λTQ=>Ai (cR gk (dH Y G.hp (cN #[_,_,Gc,Gc,_,Gc,?_])))
 ·rw[E5 na,ho] at hm
  cases hm;exact g
 ·rw[E5 na,ho] at hm
  cases hm;exact df Y W (CJ cV (cN (bL (aO (ci (bC 1 (fl (cH #[st,Gc,_,_,Gc,Gc,_,_,_,_,_,_,_,Gc,W,g]))) rfl)) (ahu T) [07] T.d_T.c aV)))
 ·rcases Te u.ps with z|⟨qs,y,z⟩
  ·rw[z]
   exact bN (bN (TQ (by rw[z];exact EZ)))
  ·rw[Tf] at z
   have hp:=G.hp;rw[z,GS] at hp;rw[z,Fh,Ft];refine dC (λ_=>?_) λz=>Fv z (by show¬ ¬(0:Int)<((qs.length+1:Fm):Int);lia)
   refine dv (bL (aO (ci (bC 1 (fl (aO (li (bC 2 #[_,dL cK ak,_,Gc,u.p,_,_,V.int y,Gc,Gc,cC.of hp,eG _ _,cH #[st,y,Gc,_,Gc,aP (λey=>?_) λey=>TQ (by rw[z];simp [ey])]]) [002])))) rfl)) (aht T) [07] T.Zp.c aV);rw[z,E7 (by simp [ey])] at hm;cases hm;exact df Y W (bL (aO (ci (bC 1 (fl (cH #[st,Gc,_,_,_,_,_,_,_,Gc,W,g]))) rfl)) (ahu T) [07] T.d_T.c aV)
theorem sJ {α:Type}(l:EV α) (h:2<=l.length): ∃qs x y,l=qs++[x,y]:=by
 refine#[l.take (l.length-2),l[l.length-2],l[l.length-1],?_];have t1:=Td (l.length-2) l;have t2:l.drop (l.length-2)=[l[l.length-2],l[l.length-1]]:=by
  rw[Hd (by lia),Hd (by lia),JY (by lia)]
  congr 2
  congr 1
  lia
 rw[t2] at t1;exact t1.symm
theorem Bh {H:Hp}{Q:VK}{te:TE}(he:PE X e te) (hv: ∀R:VK,R (.ref p) H->te σ H R) (h:H p=Fa (.lst (xs++[v]))) (q:Q v (aF H p (.lst xs))) (hb:Im e "pop" X.env (eval e X.env)=eval e X.env:=by rfl) (hp:ip p1 p2:=by rfl):Pe X (.Call (.Attribute e "pop" p1) [] [] p2) σ H Q:=
 #[_,CW Ie RP RQ A7 he hb hp,hv _ #[.inl #[Gc,_,cC.of h],p,_,v,Gc,Gc,h,by simp,by rw[T4];exact q]]
theorem ahB (T:aU K mg a) (XC:XW K a):o7 P w K mg base a 6 a.adh a.XB "chain" λ_ e _=> ∃s ops sgs,lB e=Fa (s,ops,sgs)/\ ¬s<=1:=by
 refine rk T XC [01] T.ae1.F agn λGF A outer s H B c S F0 r b ff ds u us e ts sc n m Q E hr ho G hm g=>?_;intro X D Y;obtain⟨st,ops,sgs,hc,hs⟩:=ho;rw[nI hc,E5 hs] at hm;have C:=mG G.ev hc;refine gc (λσ' H'=> ∃(ps:EV Int) (y:Fd V),σ'=[Fa (.ref c.wk),Fa u.v,Fa (.ref u.p),y]/\pb a H' B c S F0 r b ff ds { u with ps:=ps } us e ts sc n/\qV ops e ps ts sc n=Fa m) ?_ (cR gk (dH Y G.hp (cN #[_,_,Gc,Gc,_,Gc,?_])))
 ·rintro σ' H' ⟨ps,y,rfl,G',PM⟩
  refine we (u:= { u with ps:=ps }) Y C G'.W (λo ho=>?_) λho=>?_
  ·have ho:ops[ps.length]?=Fa o:=ho
   unfold qV at PM;rw[ho] at PM;cases PM;exact g
  ·have ho:ops[ps.length]?=FB:=ho
   unfold qV at PM;rw[ho] at PM;obtain⟨x,hx,rfl⟩:=F4.mp PM;obtain⟨qs,rfl⟩: ∃qs,ps=qs++[x]:=EV.getLast?_eq_some_iff.mp hx;have Uy:=G'.hp;rw[GS] at Uy;exact df Y G'.W (li (bC 2 #[_,dL cK ak,_,Gc,u.p,_,_,V.int x,Gc,Gc,cC.of Uy,eG _ _,_,_,_,_,_,_,_,Gc,G'.W,g]) [002])
 ·rw[Fh]
  refine dC (λz=>?_) λz=>#[u.ps,FB,Gc,G,by rw[<-hm];exact(nE (by lia)).symm];obtain⟨qs,x,y,ep⟩:=sJ u.ps (by lia);have hp:H u.p=Fa (.lst ((qs++[x]).map V.int++[V.int y])):=by rw[G.hp,ep];simp
  rw[ep] at hm;cases Xf:sgs[qs.length]? with
  |none=>rw[xN Xf] at hm;cases hm
  |some op=>
   rw[rH Xf] at hm;obtain⟨o1,o2,o3⟩:=yn G.ws hc hs (GP Xf);have bx:dA x:=G.psB x (by simp [ep]);have bY:dA y:=G.psB y (by simp [ep]);have mem: ∀z∈qs++[x],dA z:=λz hz=>G.psB z (by rw[ep];simp only[FK,Fi,Hs,or_false] at hz ⊢; rcases hz with h|h;exact .inl h;exact .inr (.inl h))
   have g1:pb a (aF H u.p (.lst ((qs++[x]).map V.int))) B c S F0 r b ff ds { u with ps:=qs++[x] } us e ts sc n:=G.part ae mL (by simp [ep]) mem;refine aN 3 Y.nd (Bh (pv 2) [05] hp ?_)
   have V8:=g1.hp
   have V8:aF H u.p (.lst ((qs++[x]).map V.int)) u.p=Fa (.lst (qs.map V.int++[V.int x])):=by rw[ae,GS];rfl
   obtain⟨oq,gq,V9,i,_,_,⟨sq,rfl,_,hsq⟩⟩:=C;refine iJ (pv 2) [05] V8 (bL (aO (li (ci (bC 1 (i.fld g1.W.O.same T.Ni T.N3 rfl (CJ cV (dH Y V8 (cN #[_,_,Gc,Gc,sq,_,_,V.str (dI op),Gc,Gc,cC.of (g1.W.O.same _ _ hsq),?_,aO (li (bC 2 #[_,dL cK ak,_,Gc,u.p,_,_,V.int x,Gc,Gc,cC.of V8,eG _ _,aO (bC 3 (cH #[op,st,x,y,Gc,o1,bx,bY,o2,o3,?_]))]) [002])]))))) rfl) [002])) (ahx T XC) hr T.Zw.c aA)
   ·rw[Ft,Fh,show(((qs.length+[V.int x].length:Fm):Int)-1)=((qs.length:Fm):Int) by show((qs.length+1:Fm):Int)-1=_;lia]
    exact bw (by rw[Gf,Xf];rfl)
   ·cases hk:fO st op x y with
    |error k=>
     rw[hk] at hm;cases hm;exact λH' sm=>g H' λb o z=>sm b o (g1.W.O.same b o z)
    |ok z=>
     rw[hk] at hm;have gl:=G.len;rw[ep,Ft] at gl;have gl:qs.length+2+n<=10000:=gl;intro H2 s2;refine#[_,s2 _ _ V8,by rw[Ft,Fh,HP];show qs.length+1<_;lia,cf #[qs++[x,z],Fa (.int y),Gc,?_,hm]];refine G.part (by rw[ae];simp) (λb o e nb=>?_) (by simp [ep]) λw hw=>?_
     ·rw[ac nb];exact s2 b o (mL b o e nb)
     ·have hw:w∈qs++[x]\/w=z:=by
       simp only[FK,Fi,Hs,or_false] at hw ⊢;rcases hw with h|h|h
       ·exact .inl (.inl h)
       ·exact .inl (.inr h)
       ·exact .inr h
      rcases hw with hw|hw
      ·exact mem w hw
      ·rw[hw];exact uc hk
theorem alM (T:aU K mg a) (XC:XW K a):o7 P w K mg base a 7 a.f_8 a.ad0 "chain" λ_ e _=> ∃x,lB e=Fa x:=by
 refine rk T XC [01] T.d_8.F ak3 λGF A outer s H B c S F0 r b ff ds u us e ts sc n m Q E hr ho G hm g=>?_;intro X D Y;obtain⟨⟨st,ops,sgs⟩,hc⟩:=ho;obtain⟨oq,gq,V9,i,_⟩:=mG G.ev hc;refine cw #[_,a9 lw (ah (pv 1) rfl) (Da (aa (aR (by rfl) T.VX) (aa (aR (by rfl) T.Tx) ag))) rfl,i.fld G.W.O.same T.Ni T.K4 rfl #[by show 2<=FP;decide,λt ht=>#[t,_,Gc, .inr (qG.of ae),Gc,Gc,_,Gc,?_]]];have G:=G.grow (a0 (o:= .tup [.int 0, .int 1]) ht);show if uj (.int st) [.int 0, .int 1]=FM then _ else _
 have e0:uj (.int st) [.int 0, .int 1]=decide (st<=1):=by
  show((0:Int) == (st:Int)||((1:Int) == (st:Int)||false))=_
  rw[OX,GZ,Mh,beq_iff_eq,beq_iff_eq,F5];lia
 rw[e0];have args: ∀ {sp:Sp}{x:FD}{k:Fm}{f:E4}{fd:Gb}{p1 p2 p3 p4 p5 p6:Pos},bU P w K mg base (fY P w) k f fd ["worker","chain","parts"] sp->bX k X.A->CD K mg x f fd ["worker","chain","parts"]->Gl X x->(x == [003])=FS->sp [.ref c.wk,u.v, .ref u.p] (aF H t (.tup [.int 0, .int 1])) (λ_ H'=>Q .Iw H') E->Bd X [.Expr (.Call (.Name x p1) [.Name "worker" p2, .Name "chain" p3, .Name "parts" p4] [] p5) p6] D [Fa (.ref c.wk),Fa u.v,Fa (.ref u.p)] (aF H t (.tup [.int 0, .int 1])):=λG hr d hg hx q=>fk (bL (aO (bC 0 (aO (bC 1 (aO (bC 2 (cH q))))))) G hr d aA hg hx) rfl
 exact dC (λs1=>args (alL T XC) hr T.d_9.c rfl [01] (.mk rfl #[st,ops,sgs,hc,s1] G hm g)) λs1=>args (ahB T XC) hr T.ae1.c rfl [01] (.mk rfl #[st,ops,sgs,hc,s1] G hm g)
section
open Vbemac (checked)
def mt3 (e:Fc) (y:EW) (b:Fc) (p q:Int) (acc:EV Int) (t:Fm) (r:EV dX) (sc:EV fz) (n:Fm):Fd Mc:=if p+(t:Int)<=q then(match n with
   |0=>Fa (.err (-13))
   |n+1=>(match sc with
    |[]=>FB
    |h::tl=>Fa (kz b ((e,p::q::acc)::r) (oZ (h::tl) y (p+(t:Int))) n)))
  else Fa (eN r sc n (acc.getLast?.getD 0))
theorem uR (h:acc.length<=1):gJ e y b p q acc ts sc n=mt3 e y b p q acc acc.length ts sc n:=by
 unfold gJ mt3;dsimp only;rw[E5 (by lia)]
 all_goals rfl
theorem uM:gJ e y b p q (acc++[x,z]) ts sc n=(match checked (x+z) 0 with
  | .error c=>Fa (.err c)
  | .ok (d,_)=>mt3 e y b p q (acc++[x,d]) (acc.length+2) ts sc n):=by
 have l: ∀d,(acc++[x,d]).length=acc.length+2:=λd=>by simp
 unfold gJ mt3;dsimp only;rw[l,E7 (by lia),MW,show(acc++[x,z]).getD acc.length 0=x by simp [IA],show acc.length+2-1=acc.length+1 from rfl,show(acc++[x,z]).getD (acc.length+1) 0=z by simp [IA],
  show(acc++[x,z]).take (acc.length+1)=acc++[x] by rw[Qr,Jf (K8 _)];simp]
 cases checked (x+z) 0 with
 |error c=>rfl
 |ok d=>
  obtain⟨d,_⟩:=d;dsimp only;rw[Gr]
  rfl
theorem ahC (T:aU K mg a) (XC:XW K a):o7 P w K mg base a 6 a.adk a.XF "summed" λ_ e ps=> ∃y lo hi x p q acc,e= .sum y lo hi x/\ps=p::q::acc:=by
 refine rk T XC [01] T.ae4.F agr λGF A outer s H B c S F0 r b ff ds u us e ts sc n m Q E hr ho G hm g=>?_;intro X D Y;obtain⟨y,lo,hi,x,p0,q0,acc,rfl,ep⟩:=ho;have ev:=G.ev;unfold au at ev;obtain⟨u1,u2,u3,i,_,_,e3⟩:=ev;have hp:=G.hp;have psB:=G.psB;have gl:=G.len;rw[ep] at hm hp psB gl;have gl:acc.length+2+n<=10000:=gl;have hm:gJ (.sum y lo hi x) y x p0 q0 acc ts sc n=Fa m:=hm;refine aN 3 Y.nd (CJ cV (dH Y hp (cN #[_,_,Gc,Gc,?_])));rw[Fh,show(((p0::q0::acc).length:Fm):Int)-2=((acc.length:Fm):Int) by rw[Fj,Fj];lia];refine gc (λσ' H'=> ∃(as:EV Int) (o:Fd V),σ'=[Fa (.ref c.wk),Fa u.v,Fa (.ref u.p),Fa (.int (acc.length:Fm)),o]/\as.length=acc.length/\pb a H' B c S F0 r b ff ds { u with ps:=p0::q0::as } us (.sum y lo hi x) ts sc n/\mt3 (.sum y lo hi x) y x p0 q0 as acc.length ts sc n=Fa m) ?_ (cR gk (bC 3 (cN #[_,_,Gc,Gc,_,Gc,dC (λz0=>?_) λz0=>#[acc,FB,Gc,Gc,?_,by rw[<-hm];exact(uR (by lia)).symm]])))
 ·rintro σ' H' ⟨as,o,rfl,la,G',PM⟩
  have Uy:=G'.hp
  have W:=G'.W;refine cw (cR eP (CJ dP (li (bC 2 (cN #[u.p,_,_,V.int p0,Gc,Gc,cC.of Uy,bw (j:=0) rfl,bC 3 #[_,_,Gc,Gc,li (bC 2 (cN #[u.p,_,_,V.int q0,Gc,Gc,cC.of Uy,bw (j:=1) rfl,_,_,Gc,Gc,_,Gc,dC (λe0=>?_) λe0=>?_])) [002]]])) [002])))
  ·unfold mt3 at PM
   rw[E7 e0] at PM;refine aQ (bh (bS (pv 0) T.HS T.VQ.c (hJ T XC) [07] aA)) #[c.wk,c.dw,_,Gc,W.ins,Gc, .mk rfl W (λz=>?_) λn' z H1 W1=>?_]
   ·rw[z] at PM
    cases PM;exact g H' W.O.same
   ·rw[z] at PM
    have sq:=W1.sq;cases sq with
    |nil=>cases PM
    | @cons d s0 ds sc h0 sq=>
    cases PM;have bn:=W.bn.bn;exact bE #[_,cy (pv 0) T.HS T.WL.c (kE T) [07] aV (aa (ah (pv 1) rfl) (aa (bW dP (cM bD (pv 2) ak [002]) (pv 3)) ag)),c.wk,c.dw,_,Gc,W1.ins,Gc,i.fld W1.O.same T.PF T.P5 rfl #[u.p,_,_,V.int p0,Gc,Gc,cC.of (W1.O.get 5 rfl),bw (j:=0) rfl,_,_,Gc,Gc, .mk rfl W1 (by lia) λH2 W2=>fj Y (ci (bC 1 (i.fld W2.O.same T.PF T.P7 rfl #[x,_,_,W2,e3,g])) rfl) W2]]
  ·unfold mt3 at PM
   rw[E5 e0] at PM;cases PM;refine df Y W #[_,dF (a9 gk (pv 3) ak (aM _)) (cM bD (pv 2) (dL cK ak) [002]) ak,_,_,Gc,Gc,_,Gc,dC (λe1=>?_) λe1=>?_]
   ·rcases Te as with z|⟨qs,zz,z⟩
    ·rw[z] at la;have la:0=acc.length:=la;lia
    rw[Tf] at z;subst z;have hp2:H' u.p=Fa (.lst ((p0::q0::qs).map V.int++[V.int zz])):=by rw[Uy];simp
    rw[show(qs++[zz]).getLast?.getD 0=zz by simp] at g;exact#[_,Gc,u.p,_,_,V.int zz,Gc,Gc,cC.of hp2,eG _ _,_,_,_,_,_,_,_,Gc,W,g]
   ·have:as=[]:=Qw (by lia)
    subst this;exact#[_,_,_,_,_,_,_,Gc,W,g]
 ·obtain⟨qs,xx,z,rfl⟩:=sJ acc (by lia)
  rw[uM] at hm;have Uy:H u.p=Fa (.lst ((p0::q0::(qs++[xx])).map V.int++[V.int z])):=by rw[hp];simp
  have sub: ∀w∈p0::q0::(qs++[xx]),dA w:=λw hw=>psB w (by
   simp only[Fi,FK,Hs,or_false] at hw ⊢;rcases hw with h|h|h|h
   ·exact .inl h
   ·exact .inr (.inl h)
   ·exact .inr (.inr (.inl h))
   ·exact .inr (.inr (.inr (.inl h))))
  have g1:=G.part (H':=aF H u.p (.lst ((p0::q0::(qs++[xx])).map V.int))) (ps:=p0::q0::(qs++[xx])) ae mL (by rw[ep];simp) sub
  have V8:aF H u.p (.lst ((p0::q0::(qs++[xx])).map V.int)) u.p=Fa (.lst ((p0::q0::qs).map V.int++[V.int xx])):=by rw[ae];simp
  refine aN 4 Y.nd (Bh (pv 2) [05] Uy (iJ (pv 2) [05] V8 (bL (aO (CJ dP (li (bC 2 #[_,dL cK ak,_,Gc,u.p,_,_,V.int xx,Gc,Gc,cC.of V8,eG _ _,bC 4 #[_,_,Gc,Gc,cH #[xx+z,Gc,λhb=>?_,λhb=>?_]]]) [002]))) (ahw T XC) [07] T.d_w.c aA)))
  ·rw[show checked (xx+z) 0= .ok (xx+z,0) by unfold checked;exact E7 hb] at hm
   refine#[_,V8,by rw[Ft,Fh,HP];simp only[Fj,Ft,J5] at gl ⊢; lia,cf #[qs++[xx,xx+z],Fa (.int z),Gc,by simp,?_,by rw[show(qs++[xx,z]).length=qs.length+2 by simp];exact hm]];refine G.part (by rw[ae];simp) (λb o e nb=>by rw[ac nb,ac nb];exact e) (by rw[ep];simp) λw hw=>?_;have hw:w∈p0::q0::(qs++[xx])\/w=xx+z:=by
    simp only[Fi,FK,Hs,or_false] at hw ⊢;rcases hw with h|h|h|h|h
    ·exact .inl (.inl h)
    ·exact .inl (.inr (.inl h))
    ·exact .inl (.inr (.inr (.inl h)))
    ·exact .inl (.inr (.inr (.inr h)))
    ·exact .inr h
   rcases hw with hw|hw
   ·exact sub w hw
   ·rw[hw];exact hb
  ·rw[show checked (xx+z) 0= .error (-12) by unfold checked;exact E5 hb] at hm
   cases hm;exact g _ g1.W.O.same _ (.tail _ (.head _))
 ·rw[<-ep];exact G
theorem ahD (T:aU K mg a) (XC:XW K a):o7 P w K mg base a 7 a.adj a.XE "summed" λ_ e _=> ∃y lo hi x,e= .sum y lo hi x:=by
 refine rk T XC [01] T.ae3.F agq λGF A outer s H B c S F0 r b ff ds u us e ts sc n m Q E hr ho G hm g=>?_;intro X D Y;obtain⟨y,lo,hi,x,rfl⟩:=ho;have W:=G.W;have ev:=G.ev;unfold au at ev;obtain⟨u1,u2,u3,i,e1,e2,_⟩:=ev;have hp:=G.hp;have hm0:=hm;refine cw (jm (dH Y hp (cN #[_,_,Gc,Gc,?_])));rw[Fh];generalize Ww:u.ps=ps at hm hp
 match ps,hm with
 |[],hm=>cases hm;exact cc (fj Y (ci (bC 1 (i.fld W.O.same T.PF T.O5 rfl #[lo,_,_,W,e1,by rw[Ww];exact g])) rfl) W)
 |[t],hm=>cases hm;exact bN (cw (jm (dH Y hp (cN #[_,_,Gc,Gc,cc (fj Y (ci (bC 1 (i.fld W.O.same T.PF T.P6 rfl #[hi,_,_,W,e2,by rw[Ww];exact g])) rfl) W)]))))
 |p0::q0::acc,hm=>
  refine dC (λe0=>Fv e0 (by rw[Fj,Fj];lia)) λ_=>cw (jm (dH Y hp (cN #[_,_,Gc,Gc,?_])));rw[Fh];exact dC (λe0=>Fv e0 (by rw[Fj,Fj];lia)) λ_=>fk (bL (aO (bC 0 (aO (bC 1 (aO (bC 2 (cH (.mk rfl #[y,lo,hi,x,p0,q0,acc,Gc,Ww] G hm0 g)))))))) (ahC T XC) hr T.ae4.c aA) rfl
end
theorem mU: ∀(m acc:EV (a8×V)),(m.map λq:a8×V=>q.1).Nodup->bO (fR acc m) k=(match bO m k with
  |some v=>Fa v
  |none=>bO acc k)
 |[],acc,_=>rfl
 |p::m,acc,nd=>by
  obtain⟨n1,n2⟩:=F6.mp nd;show bO (fR (dy acc p.1 p.2) m) k=_;rw[mU m _ n2,gE];by_cases e:p.1=k
  ·have:bO m k=FB:=by
    unfold bO;rw[Pk.mpr λx hx z=>n1 (by show p.1∈_;rw[e,<-FN z];exact KA (f:=λq:a8×V=>q.1) hx)]
    rfl
   rw[this,cg e,E7 e.symm]
  ·rw[b7 e,E5 (λz=>e z.symm)]
abbrev aD (ps:EV EW) (l:EV Int):EV (a8×V):=(ps.zip l).map λq=>(nk q.1, .int q.2)
theorem zQ: ∀ {ps:EV EW}{l:EV Int},ps.Nodup->((aD ps l).map λq:a8×V=>q.1).Nodup
 |[],_,_=> .nil
 |_::_,[],_=> .nil
 |p::ps,x::l,nd=>by
  obtain⟨n1,n2⟩:=F6.mp nd;refine F6.mpr #[λhm=>?_,zQ n2];obtain⟨q,hq,e⟩:=Lg.mp hm;obtain⟨y,hy,rfl⟩:=Lg.mp hq;exact n1 ((show y.1=p from ee (Jt e))▸(KS hy).1)
theorem aa6 {ps:EV EW}{l:EV Int}(nd:ps.Nodup) (h6:ps.length<=6) {b:Fm}(hb:6<=b) (q:E4):aa4 b (q,fR [] (aD ps l)) (uV ps l):=by
 refine#[λu=>?_,?_]
 ·show bO (fR [] (aD ps l)) (nk u)=_
  rw[mU _ _ (zQ nd)];have:bO (aD ps l) (nk u)=(uV ps l u).map V.int:=by
   unfold bO uV aD;rw[EV.find?_map,Wg,Wg]
   congr 1
   congr 1
   funext x
   exact(decide_eq_decide.mpr #[λz=>ee (Jt z),λz=>by rw[z]]).trans (Gg.beq_eq_decide_eq ..).symm
  rw[this];cases uV ps l u<;>rfl
 ·refine FA (gu _ _) ?_
  simp [aD,WC];lia
theorem alN (T:aU K mg a) (XC:XW K a):o7 P w K mg base a 7 a.f_6 a.adY "call" λ_ e _=> ∃f l,e= .call f l:=by
 refine rk T XC [01] T.d_6.F ak1 λGF A outer s H B c S F0 r b ff ds u us e ts sc n m Q E hr ho G hm g=>?_;intro X D Y;obtain⟨f,l,rfl⟩:=ho;have W:=G.W;have ev:=G.ev;unfold au at ev;obtain⟨_,V9,i,⟨aq,rfl,_,h2⟩,h3⟩:=ev;have pr:=mh h3;have ha:=W.O.same _ _ h2;have hp:=G.hp;have nm: ∀ {H:Hp}{Q:VK},aW B.H H->Q (.str (sb f)) H->dB K "name" Q u.v H:=λk q=>i.fld k T.Qt T.O3 rfl q
 have ar: ∀ {Q:VK},Q (.ref aq) H->dB K "arguments" Q u.v H:=λq=>i.fld W.O.same T.Qt T.ML rfl q
 have wf: ∀ {Q:VK},Q (.ref c.fa) H->dB K "functions" Q (.ref c.wk) H:=λq=>W.fld T T.Km rfl q
 unfold eA at hm;dsimp only at hm;refine aN 3 Y.nd (iA T.JW ha (ah (pv 1) rfl) (λ_ q=>ar q) (cw (cR ka (dH Y hp (bC 3 #[_,_,Gc,Gc,_,Gc,?_])))));rw[Fh,bj pr];refine dC (λz=>?_) λz=>?_
 ·have lt:u.ps.length<(kX l).length:=by lia
  rw[Hi lt] at hm;cases hm;obtain⟨v,hv,ew⟩:=jw pr (Hi lt);exact fj Y (li (ci (bC 1 (ar (dH Y hp #[aq,_,_,v,Gc,Gc,cC.of ha,by rw[Fh];exact bw hv,_,_,_,W,ew,g]))) rfl) [002]) W
 ·rw[IF (by lia)] at hm
  have f2:=W.fn.2 f;obtain⟨V0,G0,ws,sb0⟩:=G.ws;unfold WS at ws;obtain⟨⟨k,hk,hk2⟩,_⟩:=ws
  have FO:=G.FO.all f k (sb0 f k hk);refine cw #[_,fD (iV (dn hr) (ah (pv 1) rfl) [08]),nm W.O.same (wf #[c.fa,_,Gc,gy.k (k:=nk f) (W.O.get 3 rfl),_,Gc,?_])];cases hf:S.funs.find? λg=>g.1 == f with
  |none=>
   rw[hf] at f2 hm FO;dsimp only at f2 hm;rw[f2];refine cc ?_;split at hm
   ·rename_i hl
    cases hm;rcases FO with⟨g',hg,_⟩|⟨_,hb⟩
    ·cases hg
    ·exact df Y W (bL (aO (ci (bC 1 (nm W.O.same (aO (bC 2 (cH #[f,u.p,u.ps,k,Gc,hp,hb,by rw[hl,hk2],_,_,_,_,_,_,_,Gc,W,g]))))) rfl)) (ahv T) [07] T.Zo.c aV)
   ·cases hm
  |some fu=>
   rw[hf] at f2 hm FO;dsimp only at f2 hm;obtain⟨v,f2,f3⟩:=f2;rw[f2];refine bN (cw (jm (dH Y hp (bC 3 #[_,_,Gc,Gc,?_]))));rw[Fh];refine dC (λz=>?_) λz=>?_
   ·have hl:u.ps.length=(kX l).length:=by lia
    rw[E7 hl] at hm;cases hm;rcases FO with⟨g',hg,gl,gf⟩|⟨hg,_⟩
    ·cases hg
     obtain⟨q,w,i2,⟨pq,rfl,_,h4⟩,h5⟩:=f3;have g1:=gy.k (k:=nk f) (W.O.get 3 rfl);have g1:gy H c.fa (kV (nk f)) (Fa v):=by rw[<-f2];exact g1
     have le:fu.2.1.length=u.ps.length:=by rw[gl,hl,hk2]
     have e1:(aD fu.2.1 u.ps).map (λq=>kV q.1)=gL fu.2.1:=by
      unfold gL aD;rw[JA,show((λq:a8×V=>kV q.1) ∘ λq:EW×Int=>(nk q.1,V.int q.2))=(λp=>V.str (sb p)) ∘ Prod.fst from rfl,<-JA,EV.map_fst_zip (J1 le)]
     have e2:(aD fu.2.1 u.ps).map (λq:a8×V=>q.2)=u.ps.map V.int:=by
      unfold aD;rw[JA,show((λq:a8×V=>q.2) ∘ λq:EW×Int=>(nk q.1,V.int q.2))=V.int ∘ Prod.snd from rfl,<-JA,EV.map_snd_zip (J1 le.symm)]
     refine aN 4 Y.nd #[_,jO (dn hr) [08] (ah (pv 1) rfl) [002],wf (nm W.O.same #[c.fa,v,Gc,g1,?_])];refine iJ [08] (λ_ q=>W.fld T T.JE rfl q) (W.O.get 2 rfl) #[_,vD rfl (by rfl) T.afb (by rfl) T.V2 (aa (ah (pv 4) rfl) (aa (pv 2) ag)) rfl rfl,i2.fld W.O.same T.QF T.MO rfl #[pq,u.p,aD fu.2.1 u.ps,Gc,by rw[e1];exact cC.of (W.O.same _ _ h4),by rw[e2];exact cC.of hp,λd hd=>#[_,a0 hd _ _ (W.O.get 2 rfl),?_,?_]]]
     ·rw[Gv,Fh,bj W.sq,HP]
      have:=W.bn.sl;lia
     ·have W1:=W.pushS hd (a0 hd) ae (aa6 (l:=u.ps) gf.nd gf.le W.bn.b6 d) (by have:=G.gd.2.2;lia)
      exact fj Y (ci (bC 4 (i2.fld W1.O.same T.QF T.QG rfl #[fu.2.2,_,_,W1,h5,g])) rfl) W1
    ·cases hg
   ·rw[E5 (by lia)] at hm
    have sq:=W.sq;cases sq with
    |nil=>cases hm
    | @cons d s0 ds sc h0 sq=>
    obtain⟨x,hx,rfl⟩:=F4.mp hm;have W1:=W.alF;refine bE (Bh [08] (λ_ q=>W.fld T T.JE rfl q) W.sl1 (df Y W1 (li (bC 2 (bC 3 #[u.p,_,_,V.int x,Gc,Gc,cC.of (W1.O.get 5 rfl),bw (by rw[Gf,hx];rfl),_,_,_,_,_,_,_,Gc,W1,g])) [002])))
inductive Nd1 (a:bf) (M:E4->Prop) (H:Hp) (i:Fm) (v:V):Prop
 |mk {C:E4}{fs:EV (FD×V)}(_:bI M H C fs v) (_:(yO a)[i]?=Fa C):Nd1 a M H i v
def cidx:Fc->Fm
 | .num _=>0
 | .name _=>1
 | .call _ _=>2
 | .neg _=>3
 | .not _=>3
 | .pick _ _ _=>5
 | .sum _ _ _ _=>6
 |_=>4
theorem xE {a:bf}{M:E4->Prop}{H:Hp}{e:Fc}{v:V}(h:au a M H e v):Nd1 a M H (cidx e) v:=by
 cases e<;>unfold au at h
 ·exact#[h,Gc]
 ·exact#[h,Gc]
 ·obtain⟨_,_,h,_⟩:=h;exact#[h,Gc]
 ·obtain⟨_,h,_⟩:=h;exact#[h,Gc]
 ·obtain⟨_,h,_⟩:=h;exact#[h,Gc]
 ·obtain⟨_,_,_,_,_,h,_⟩:=h;exact#[h,Gc]
 ·obtain⟨_,_,_,_,_,h,_⟩:=h;exact#[h,Gc]
 ·obtain⟨_,_,_,_,h,_⟩:=h;exact#[h,Gc]
 ·obtain⟨_,_,_,_,h,_⟩:=h;exact#[h,Gc]
 ·obtain⟨_,_,_,_,h,_⟩:=h;exact#[h,Gc]
 ·obtain⟨_,_,_,h,_⟩:=h;exact#[h,Gc]
 ·obtain⟨_,_,_,h,_⟩:=h;exact#[h,Gc]
section
variable {M:E4->Prop}{B H:Hp}{te:TE}{R:Gg->Hp->Prop}
theorem uH (N:mw X.K a) (n:X.mg "isinstance"=FB) (h:Nd1 a M B i v) (sm:aW B H) (hj:(yO a)[j]?=Fa C) (hm:X.mg c=Fa (.ref C)) (he:PE X e te) (hv: ∀Q:VK,Q v H->te σ H Q) (q:R (decide (i=j)) H) (hg:Gl X "isinstance":=by rfl) (hc:Gl X c:=by rfl) (hx:(c == [003])=FS:=by decide) (Kd:Fy [e, .Name c p2] X.env=[001]::Fy [.Name c p2] X.env:=by rfl):
  Pt X (.Call (.Name "isinstance" p1) [e, .Name c p2] [] p3) σ H R:=by
 obtain @⟨C',fs,⟨p,dx,rfl,_,z⟩,hC⟩:=h;have i7:i<15:=(FZ.mp hC).1;have j7:j<15:=(FZ.mp hj).1;have k:=Ga (λl:EV (EV (Fd Gg))=>(l[i]?.bind λr=>r[j]?)) N.kit
 have k:Hy X.K (.ref C') (.ref C)=Fa (decide (i=j)):=by simpa [hC,hj,Ml i7,Ml j7] using k
 exact dv #[_,bv lD hg n Sa (aa he (aa (ic hc hm hx) ag) Kd) [01] [01] Kd rfl,hv _ #[_,C,_,_,Gc,(N.ty _ (GP hC)).of (sm _ _ z),k,_,Gc,q]]
end
theorem alO (T:aU K mg a) (XC:XW K a) (KX:mw K a):o7 P w K mg base a 8 a.f_5 a.adX "exp" λ_ _ _=>True:=by
 refine rk T XC [01] T.d_5.F ak0 λGF A outer s H B c S F0 r b ff ds u us e ts sc n m Q E hr _ G hm g=>?_;intro X D Y;have W:=G.W;have ev:=G.ev;have nd:=xE ev;have is: ∀ {cl:FD}{C:E4}{A TQ:EV Stmt}{p1 p2 p3 p4 p5:Pos}(j:Fm),mg cl=Fa (.ref C)->(yO a)[j]?=Fa C->Gl X cl->(cl == [003])=FS->(cidx e=j->Bd X A D [Fa (.ref c.wk),Fa u.v,Fa (.ref u.p)] H)->(cidx e≠j->Bd X TQ D [Fa (.ref c.wk),Fa u.v,Fa (.ref u.p)] H)->Bd X [.If (.Call (.Name "isinstance" p1) [.Name "exp" p2, .Name cl p3] [] p4) A TQ p5] D [Fa (.ref c.wk),Fa u.v,Fa (.ref u.p)] H:=λj hm hj hg hx yes no=>cw (uH KX T.K7 nd W.O.same hj hm (pv 1) [05] (dC yes no) (by rfl) hg hx)
 have go: ∀ {sp:Sp}{x y:FD}{k:Fm}{f:E4}{fd:Gb}{p1 p2 p3 p4 p5 p6:Pos},bU P w K mg base (fY P w) k f fd ["worker",y,"parts"] sp->k<=7->CD K mg x f fd ["worker",y,"parts"]->Gl X x->(x == [003])=FS->sp [.ref c.wk,u.v, .ref u.p] H (λ_ H'=>Q .Iw H') E->Bd X [.Expr (.Call (.Name x p1) [.Name "worker" p2, .Name "exp" p3, .Name "parts" p4] [] p5) p6] D [Fa (.ref c.wk),Fa u.v,Fa (.ref u.p)] H:=λG hk d hg hx q=>fk (bL (aO (bC 0 (aO (bC 1 (aO (bC 2 (cH q))))))) G (hr.mono hk) d aA hg hx) rfl
 refine is 0 T.Rf rfl rfl [01] (λz=>?_) λz0=>?_
 ·obtain⟨x,rfl⟩: ∃x,e= .num x:=by cases e<;>first|exact#[_,Gc]|cases z
  unfold au at ev;cases hm;exact df Y W (ci (bC 1 (ev.fld W.O.same T.PB T.NM rfl #[_,_,_,_,_,_,_,Gc,W,g])) rfl)
 refine is 1 T.Ue rfl rfl [01] (λz=>?_) λz1=>?_
 ·obtain⟨x,rfl⟩: ∃x,e= .name x:=by cases e<;>first|exact#[_,Gc]|cases z
  unfold au at ev;obtain⟨y,hy,rfl⟩:=F4.mp (show(look sc x).map (eN ts sc n)=Fa m from hm);exact df Y W #[_,cy (pv 0) T.HS T.Zs.c (sS T) [07] aV (aa (ah (pv 1) rfl) ag),c.wk,c.dw,_,Gc,W.ins,Gc,ev.fld W.O.same T.Rx T.O2 rfl (.mk rfl W hy #[_,_,_,_,_,_,_,Gc,W,g])]
 refine is 2 T.Ug rfl rfl [01] (λz=>go (alN T XC) [01] T.d_6.c rfl [01] (.mk rfl ?_ G hm g)) λz2=>?_
 ·cases e<;>first|exact#[_,_,Gc]|cases z
 refine is 3 T.Sh rfl rfl [01] (λz=>go (alK T XC) [01] T.d_7.c rfl [01] (.mk rfl ?_ G hm g)) λz3=>?_
 ·cases e<;>first|exact#[_, .inl rfl]|exact#[_, .inr rfl]|cases z
 refine is 4 T.Si rfl rfl [01] (λz=>go (alM T XC) [01] T.d_8.c rfl [01] (.mk rfl ?_ G hm g)) λz4=>?_
 ·cases e<;>first|exact#[_,Gc]|cases z
 refine is 5 T.Rg rfl rfl [01] (λz=>go (ahA T XC) [01] T.ae2.c rfl [01] (.mk rfl ?_ G hm g)) λz5=>?_
 ·cases e<;>first|exact#[_,_,_,Gc]|cases z
 refine go (ahD T XC) [01] T.ae3.c rfl [01] (.mk rfl ?_ G hm g);cases e<;>first|exact Fv rfl z0|exact Fv rfl z1|exact Fv rfl z2|exact Fv rfl z3|exact Fv rfl z4|exact Fv rfl z5|exact#[_,_,_,_,Gc]
end OS
namespace OS
open Vbemac
def ahE (S:Scope) (V:EV F7) (v:Env) (r:Res Int) (n:Fm):Mc->Prop
 | .err c=>r= .error c
 | .go _ _ _=>False
 | .done x sc m=>r= .ok (x,m)/\m<n/\ ∃h,sc=[h]/\Ag S V v [h]
theorem DA {h:fz}(FO:gz S F0) (A:Ag S V v [h]) (w:WS V G e) (sb:Sub G F0) (hk:3*n+1<=k):HE S.funs (ahE S V v (ev k S v e n) n) (kz e [] [h] n):=by
 refine aa1 FO k V v G e [] h [] n A w sb hk ?_;unfold aa0;cases ev k S v e n with
 |error c=>exact rfl
 |ok x=>exact λ_ hm h A=>#[0, .here #[Gc,hm,h,Gc,A]]
end OS
namespace OS
open PySem PySem.Spec L2
open PyProof.Rows hiding St
variable {P:FW}{w:Gx}{K:E1}{mg:FD->Fd E3}{base:GI}{a:bf}
inductive zZ (a:bf) (vs:EV V) (H:Hp) (Q:VK) (E:XK):Prop
 |mk {B:sC}{c:qd}{S:HM}{F0 G:EV (EW×Fm)}{r:V}{b:Fm}{s:fz}{n k:Fm}{e:Fc}{v:V}{U:EV EW}{en:Hb}(_:vs=[.ref c.wk,v]) (_:gz S F0) (_:WS U G e) (_:Sub G F0) (_:Ag S U en [s]) (_:xP [s]) (_:Wk a B H c S.funs r b [] [s] n) (_:au a B.M B.H e v) (_:3*n+1<=k)
  (_: ∀x,Ly k S en e n= .error x-> ∀H',aW B.H H'->oV a E H' x) (_: ∀x m,Ly k S en e n= .ok (x,m)->m<n->dA x-> ∀H' b s,Ag S U en [s]->xP [s]->Wk a B H' c S.funs (.int x) b [] [s] m->Q (.int x) H'):zZ a vs H Q E
def Far (a:bf) (B:sC) (c:qd) (S:HM) (F0:EV (EW×Fm)) (f:Mc->Prop) (i:Fm) (H:Hp):Prop:= ∃m,lV S.funs f m i/\Gd F0 m/\(match m with
 | .err _=>False
 | .go ts sc n=>ts≠[]/\ ∃r b,Wk a B H c S.funs r b ts sc n
 | .done x sc n=> ∃b,Wk a B H c S.funs (.int x) b [] sc n)
theorem qg {f:Mc->Prop}(h:lV F f (.go ts sc n) j) (ng: ∀ts sc n,¬f (.go ts sc n)): ∃m i,eA F (.go ts sc n)=Fa m/\lV F f m i/\j=i+1:=by
 cases h with
 |here h=>exact Fv h (ng ts sc n)
 |step h1 h2=>exact#[_,_,h1,h2,Gc]
theorem tP {a:bf}{f:Mc->Prop}{E:XK}{N:Hp->Prop}(ng: ∀ts sc n,¬f (.go ts sc n)) (he: ∀x,f (.err x)-> ∀H',aW B.H H'->oV a E H' x) (hi:lV S.funs f m i) (gd:Gd F0 m) (q: ∀H,Far a B c S F0 f i H->N H):mT a B c S.funs N E m:=by
 cases m with
 |err k=>
  cases hi with
  |here h=>exact he k h
  |step h _=>cases h
 |go ts sc n=>
  refine λH' r b W=>q H' #[_,hi,gd,λz=>?_,r,b,W];obtain⟨m,_,hm,_⟩:=qg hi ng;rw[z] at hm;cases hm
 |done x sc n=>exact λH' b W=>q H' #[_,hi,gd,b,W]
theorem uf (T:aU K mg a) (XC:XW K a) (KX:mw K a):T.Zv.O P w mg base 9 (zZ a):=by
 refine fQ T.Zv.F agm [03] [02];obtain @⟨B,c,S,F0,G,r,b,s,n,k,e,v,U,en,rfl,FO,ws,sb,Ag0,gs,⟨W⟩,ev0,hk,qe,qo⟩:=h;obtain⟨j,hj⟩:=DA FO Ag0 ws sb hk;generalize hf:ahE S U en (Ly k S en e n) n=f at hj;have ng: ∀ts sc n,¬f (.go ts sc n):=λts sc n z=>by rw[<-hf] at z;exact z
 have he: ∀x,f (.err x)-> ∀H',aW B.H H'->oV a E H' x:=λx z=>by rw[<-hf] at z;exact qe x z
 have gd0:Gd F0 (kz e [] [s] n):=fB (λt ht=>nomatch ht) gs #[U,G,ws,sb] (by have:=W.bn.Vn;show 1+n<=10002;lia)
 refine aQ (bh (cy (pv 0) T.HS T.WM.c (sH T XC) [07] aA (aa (pv 1) ag))) #[c.wk,c.dw,_,Gc,W.ins,Gc, .mk rfl W ev0 (tP ng he hj gd0 λH1 h1=>?_)];refine fW IS (λi σ H=>σ=[Fa (.ref c.wk),Fa v]/\Far a B c S F0 f i H) j #[Gc,h1] ?_;rintro i σ H2 ⟨rfl,m',PM,gd,hW⟩;cases m' with
 |err k=>exact hW.elim
 |done x sc2 n2=>
  obtain⟨b2,⟨W2⟩⟩:=hW;have tk:=W2.tk;cases tk;refine cR gk (iA T.JW W2.tl [08] (λ_ q=>W2.fld T T.IB rfl q) (cN #[_,_,Gc,Gc,_,Gc,bN ?_]));cases PM with
  |step h _=>cases h
  |here h=>
   rw[<-hf] at h;obtain⟨h1,h2,s',rfl,A'⟩:=h;exact aL (ci (bC 0 (W2.fld T T.Lq rfl (qo x n2 h1 h2 gd.1 H2 b2 s' A' gd.2.1 #[W2]))) rfl)
 |go ts sc2 n2=>
  obtain⟨ne,r2,b2,⟨W2⟩⟩:=hW;obtain⟨m3,i3,s3,h3,rfl⟩:=qg PM ng;have tk:=W2.tk;cases tk with
  |nil=>exact Fv rfl ne
  | @cons u t us ts ht tk=>
  obtain⟨e2,ps⟩:=t;obtain rfl:u.ps=ps:=ht.2;have tsk: ∀ {Q:VK},Q (.ref u.t) H2->dB K "tasks" (λx H1=>tUn (rU λi=> .int (-i)) (tC (.int 1)) [Fa (.ref c.wk),Fa v] H1 λy H2=>Cl K x y H2 Q) (.ref c.wk) H2:=λq=>W2.fld T T.IB rfl #[_,Gc,c.tl,_,_,V.ref u.t,Gc,Gc,cC.of W2.tl1,eG _ _,q]
  have h4:=W2.O.get 4 rfl;refine cR gk (iA T.JW W2.tl [08] (λ_ q=>W2.fld T T.IB rfl q) (cN #[_,_,Gc,Gc,_,Gc,?_]))
  rw[Gv,Fh,Fj];refine dC (λ_=>?_) λz=>Fv z (by lia);refine fk #[_,aJ (alO T XC KX) hr (by rfl) T.d_5.c aA (aa (pv 0) (aa (ah (cM bD [08] (dL cK ak) [002]) rfl) (aa (ah (cM bD [08] (dL cK ak) [002]) rfl) ag))),tsk #[u.t,_,u.d,_,u.v,Gc,h4,T.Pb,T.Qb,Gc,tsk #[u.t,_,u.d,_,V.ref u.p,Gc,h4,T.Pb,T.M4,Gc, .mk rfl G7 #[FO,gd,W2] s3 (tP ng he h3 (Em FO gd s3) λH3 h=>#[i3,Ht _,Gc,h])]]] rfl
end OS
namespace OS
open Vbemac
def Dt (t:MI):Prop:= ∀x∈t,∀n,x.1= .num n->n<1000000000000000000
theorem Dt.drop (h:Dt t) (k:Fm):Dt (t.drop k):=λx hx=>h x (T5 hx)
def Po {α:Type}(p:P α) (Q:α->Prop):Prop:= ∀t a r,Dt t->p t= .ok (a,r)->Q a/\Dt r
section
variable {α β:Type}{p:P α}{Q:α->Prop}{R:β->Prop}
theorem Po.bind {f:α->P β}(h:Po p Q) (g: ∀a,Q a->Po (f a) R):Po (p>>=f) R:=by
 intro t b r nb e;have e':(match p t with
  | .error z=> .error z
  | .ok (a,s)=>f a s)=Except.ok (b,r):=by
  rw[<-e];show _=(p t>>=λx=>f x.1 x.2)
  cases p t<;>rfl
 cases z:p t with
 |error c=>rw[z] at e';cases e'
 |ok x=>
  rw[z] at e';obtain⟨q,n⟩:=h t x.1 x.2 nb z;exact g x.1 q x.2 b r n e'
theorem Po.pure {a:α}(h:Q a):Po (pure a:P α) Q:=by
 intro t b r nb e;cases e;exact#[h,nb]
theorem Po.mono {Q':α->Prop}(h:Po p Q) (g: ∀a,Q a->Q' a):Po p Q':=λt a r nb e=>#[g a (h t a r nb e).1,(h t a r nb e).2]
theorem Po.fail:Po (Fx n:P α) Q:=λt a r nb e=>by unfold Fx at e;cases e
theorem Po.ite {c:MI->Gg}{p q:P α}(h1:Po p Q) (h2:Po q Q):Po (λt=>if c t=FM then p t else q t) Q:=λt a r nb e=>by
 dsimp only at e;split at e
 ·exact h1 t a r nb e
 ·exact h2 t a r nb e
end
theorem dG:Po next λ_=>True:=λt a r nb e=>by unfold next at e;cases e;exact#[trivial,nb.drop 1]
theorem fS (w:String):Po (key w) λ_=>True:=λt a r nb e=>by
 unfold key at e;split at e
 ·cases e;exact#[trivial,nb.drop 1]
 ·unfold Fx at e;cases e
theorem bK (w:String):Po (sign w) λ_=>True:=λt a r nb e=>by
 unfold sign at e;split at e
 ·cases e;exact#[trivial,nb.drop 1]
 ·unfold Fx at e;cases e
theorem jd (w:String):Po (ifSign w) λ_=>True:=λt a r nb e=>by
 unfold ifSign at e;split at e
 ·cases e;exact#[trivial,nb.drop 1]
 ·cases e;exact#[trivial,nb]
theorem zu (d:Fm):Po (deeper d) λ_=>True:=λt a r nb e=>by
 unfold deeper at e;split at e
 ·unfold Fx at e;cases e
 ·cases e;exact#[trivial,nb]
theorem k7 (l:EV String):Po (Ll l) λo=> ∀s,o=Fa s->s∈l.map text:=λt a r nb e=>by
 unfold Ll at e;split at e
 ·split at e
  ·rename_i h
   cases e;exact#[λs z=>by cases z;exact F8.mp h,nb.drop 1]
  ·cases e;exact#[λs z=>(nomatch z),nb]
 ·cases e;exact#[λs z=>(nomatch z),nb]
theorem jK:Po anyName λ_=>True:=λt a r nb e=>by
 unfold anyName at e;split at e
 ·split at e
  ·unfold Fx at e;cases e
  ·cases e;exact#[trivial,nb.drop 1]
 ·unfold Fx at e;cases e
theorem dS (K:Known):Po (newName K) λx=>x∉K.values/\(∀g∈K.funs,g.1≠x):=λt a r nb e=>by
 unfold newName at e;split at e
 ·cases e
 ·rename_i w s h
  split at e
  ·unfold Fx at e;cases e
  ·rename_i hk
   cases e;unfold Known.taken at hk;rw[Mh,VH] at hk;exact#[#[λz=>hk.1 (F8.mpr z),λg hg z=>hk.2 (LL.mpr #[g,hg,by rw[z];exact GN _])],(jK t _ _ nb h).2]
structure PoA (k:Fm):Prop where
 expr: ∀d K,Po (expr k d K) (WS K.values K.funs)
 moreOr: ∀d K,Po (moreOr k d K) (om K.values K.funs)
 ands: ∀d K,Po (ands k d K) (WS K.values K.funs)
 moreAnd: ∀d K,Po (moreAnd k d K) (om K.values K.funs)
 compared: ∀d K,Po (compared k d K) (WS K.values K.funs)
 added: ∀d K,Po (added k d K) (WS K.values K.funs)
 moreAdded: ∀d K,Po (moreAdded k d K) (uB ["+","-"] K.values K.funs)
 times: ∀d K,Po (times k d K) (WS K.values K.funs)
 moreTimes: ∀d K,Po (moreTimes k d K) (uB ["*","/","%"] K.values K.funs)
 unary: ∀d K,Po (unary k d K) (WS K.values K.funs)
 primary: ∀d K,Po (primary k d K) (WS K.values K.funs)
 arguments: ∀d K n,1<=n->Po (arguments k d K n) λl=>om K.values K.funs l/\(kX l).length=n
theorem vN: ∀k,PoA k
 |0=>by
  refine#[?_,?_,?_,?_,?_,?_,?_,?_,?_,?_,?_,?_]<;>intros<;>first|(unfold FE;exact Po.fail)|(unfold WH;exact Po.fail)|(unfold Y1;exact Po.fail)|(unfold Wh;exact Po.fail)|(unfold VD;exact Po.fail)|(unfold Xt;exact Po.fail)|(unfold Vb;exact Po.fail)|(unfold Xu;exact Po.fail)|(unfold Vc;exact Po.fail)|(unfold GD;exact Po.fail)|(unfold Gw;exact Po.fail)|(unfold PV;exact Po.fail)
 |k+1=>by
  have I:=vN k;refine#[λd K=>?_,λd K=>?_,λd K=>?_,λd K=>?_,λd K=>?_,λd K=>?_,λd K=>?_,λd K=>?_,λd K=>?_,λd K=>?_,λd K=>?_,λd K n hn=>?_]
  ·unfold FE
   refine Po.ite ?_ ?_
   ·refine(zu d).bind λe _=>dG.bind λ_ _=>(I.expr e K).bind λc wc=>(fS _).bind λ_ _=>(I.expr e K).bind λx wx=>(fS _).bind λ_ _=>(I.expr e K).bind λy wy=>Po.pure ?_
    unfold WS;exact#[wc,wx,wy]
   ·refine(I.ands d K).bind λx wx=>(I.moreOr d K).bind λl wl=>Po.pure ?_
    cases l with
    |nil=>exact wx
    |cons y s=>dsimp only;unfold WS;exact#[wx,#[y,s,Gc],wl]
  ·unfold WH
   refine(jd _).bind λm _=>?_;split
   ·refine(I.ands d K).bind λx wx=>(I.moreOr d K).bind λl wl=>Po.pure ?_
    unfold om;exact#[wx,wl]
   ·refine Po.pure ?_
    unfold om;trivial
  ·unfold Y1
   refine(I.compared d K).bind λx wx=>(I.moreAnd d K).bind λl wl=>Po.pure ?_;cases l with
   |nil=>exact wx
   |cons y s=>dsimp only;unfold WS;exact#[wx,#[y,s,Gc],wl]
  ·unfold Wh
   refine(jd _).bind λm _=>?_;split
   ·refine(I.compared d K).bind λx wx=>(I.moreAnd d K).bind λl wl=>Po.pure ?_
    unfold om;exact#[wx,wl]
   ·refine Po.pure ?_
    unfold om;trivial
  ·unfold VD
   refine(I.added d K).bind λx wx=>(k7 _).bind λs hs=>?_;cases s with
   |none=>exact Po.pure wx
   |some op=>
    refine(I.added d K).bind λy wy=>Po.pure ?_;unfold WS;exact#[hs op rfl,wx,wy]
  ·unfold Xt
   refine(I.times d K).bind λx wx=>(I.moreAdded d K).bind λl wl=>Po.pure ?_;cases l with
   |nil=>exact wx
   |cons op y s=>dsimp only;unfold WS;exact#[wx,#[op,y,s,Gc],wl]
  ·unfold Vb
   refine(k7 _).bind λs hs=>?_;cases s with
   |none=>refine Po.pure ?_;unfold uB;trivial
   |some op=>
    refine(I.times d K).bind λy wy=>(I.moreAdded d K).bind λr wr=>Po.pure ?_;unfold uB;exact#[hs op rfl,wy,wr]
  ·unfold Xu
   refine(I.unary d K).bind λx wx=>(I.moreTimes d K).bind λl wl=>Po.pure ?_;cases l with
   |nil=>exact wx
   |cons op y s=>dsimp only;unfold WS;exact#[wx,#[op,y,s,Gc],wl]
  ·unfold Vc
   refine(k7 _).bind λs hs=>?_;cases s with
   |none=>refine Po.pure ?_;unfold uB;trivial
   |some op=>
    refine(I.unary d K).bind λy wy=>(I.moreTimes d K).bind λr wr=>Po.pure ?_;unfold uB;exact#[hs op rfl,wy,wr]
  ·unfold GD
   refine Po.ite ?_ (Po.ite ?_ (I.primary d K))
   ·intro t a r nb e
    dsimp only at e;split at e
    ·rename_i n hn
     cases e;have nn:n<1000000000000000000:=by
      unfold peek at hn;cases z:(t.drop 1).head? with
      |none=>rw[z] at hn;cases hn
      |some y=>rw[z] at hn;exact nb y (T5 (Vx z)) n hn
     exact#[by unfold WS;unfold WS;exact nn,nb.drop 2]
    ·refine(show Po (deeper d>>=λe=>next>>=λ_=>GD k e K>>=λa=>pure (.neg a):P Exp) (WS K.values K.funs) from ?_) t a r nb e
     exact(zu d).bind λe _=>dG.bind λ_ _=>(I.unary e K).bind λx wx=>Po.pure (by unfold WS;exact wx)
   ·exact(zu d).bind λe _=>dG.bind λ_ _=>(I.unary e K).bind λx wx=>Po.pure (by unfold WS;exact wx)
  ·unfold Gw
   intro t a r nb e;dsimp only at e;split at e
   ·rename_i n hn
    cases e;have nn:n<1000000000000000000:=by
     unfold peek at hn;cases z:t.head? with
     |none=>rw[z] at hn;cases hn
     |some y=>rw[z] at hn;exact nb y (Vx z) n hn
    exact#[by unfold WS;exact nn,nb.drop 1]
   ·split at e
    ·refine(show Po (deeper d>>=λe=>next>>=λ_=>FE k e K>>=λa=>sign ")">>=λ_=>pure a:P Exp) (WS K.values K.funs) from ?_) t a r nb e
     exact(zu d).bind λe _=>dG.bind λ_ _=>(I.expr e K).bind λx wx=>(bK _).bind λ_ _=>Po.pure wx
    ·unfold Fx at e;cases e
   ·rename_i w hw
    split at e
    ·refine(show Po (deeper d>>=λe=>next>>=λ_=>sign "(">>=λ_=>newName K>>=λx=>key "in">>=λ_=>FE k e K>>=λlo=>sign "..">>=λ_=>FE k e K>>=λhi=>sign ":">>=λ_=>FE k e (K.with x)>>=λa=>sign ")">>=λ_=>pure (.sum x lo hi a):P Exp) (WS K.values K.funs) from ?_) t a r nb e
     refine(zu d).bind λe _=>dG.bind λ_ _=>(bK _).bind λ_ _=>(dS K).bind λx wx=>(fS _).bind λ_ _=>(I.expr e K).bind λlo wlo=>(bK _).bind λ_ _=>(I.expr e K).bind λhi whi=>(bK _).bind λ_ _=>(I.expr e (K.with x)).bind λy wy=>(bK _).bind λ_ _=>Po.pure ?_;unfold WS;exact#[wx.1,wlo,whi,wy]
    split at e
    ·unfold Fx at e;cases e
    split at e
    ·rename_i f hf
     have fw:f.1=w:=by have:=QQ hf;exact beq_iff_eq.mp this
     refine(show Po (deeper d>>=λe=>next>>=λ_=>sign "(">>=λ_=>(if f.2=0 then(sign ")">>=λ_=>pure (.call w .nil)) else(PV k e K f.2>>=λl=>pure (.call w l)):P Exp)) (WS K.values K.funs) from ?_) t a r nb e
     refine(zu d).bind λe _=>dG.bind λ_ _=>(bK _).bind λ_ _=>?_;split
     ·rename_i h0
      refine(bK _).bind λ_ _=>Po.pure ?_;unfold WS;exact#[#[f,hf,h0.symm],by unfold om;trivial]
     ·rename_i h0
      refine(I.arguments e K f.2 (by lia)).bind λl wl=>Po.pure ?_;unfold WS;exact#[#[f,hf,wl.2],wl.1]
    ·split at e
     ·rename_i hv
      cases e;exact#[by unfold WS;exact F8.mp hv,nb.drop 1]
     ·unfold Fx at e;cases e
   ·unfold Fx at e;cases e
  ·unfold PV
   refine Po.ite Po.fail ((I.expr d K).bind λx wx=>?_);split
   ·rename_i h1
    refine Po.ite Po.fail ((bK _).bind λ_ _=>Po.pure ?_);refine#[by unfold om;exact#[wx,by unfold om;trivial],?_];show 1=n;lia
   ·rename_i h1
    refine Po.ite Po.fail ((bK _).bind λ_ _=>(I.arguments d K (n-1) (by lia)).bind λl wl=>Po.pure ?_);refine#[by unfold om;exact#[wx,wl.1],?_];show(kX l).length+1=n;rw[wl.2];lia
end OS
namespace OS
open Vbemac
theorem tm: ∀(w:F7) (n k:Fm),(∀c∈w,digit c=FM)->n<10 ^ k->w.foldl (λn c=>10*n+(c.toNat-48)) n<10 ^ (k+w.length)
 |[],n,k,_,h=>h
 |c::w,n,k,hd,h=>by
  rw[EV.foldl_cons];have hc:c.toNat<=57:=by
   have:=hd c (Fb ..);unfold digit at this;rw[GC,F5,F5] at this;exact IP.le_iff_toNat_le.mp this.2
  have z:=tm w (10*n+(c.toNat-48)) (k+1) (λx hx=>hd x (E9 _ hx)) (by rw[Fm.pow_succ];lia)
  rw[show k+(c::w).length=k+1+w.length by rw[Fj];lia];exact z
theorem tw: ∀(l:F7),∀c∈l.takeWhile digit,digit c=FM
 |[],_,h=>nomatch h
 |x::l,c,h=>by
  rw[JI] at h;split at h
  ·rename_i hx
   rcases Fi.mp h with z|z
   ·rw[z];exact hx
   ·exact tw l c z
  ·cases h
theorem lz: ∀(k:Fm) (p:Pos) (b:F7),Dt (lex k p b)
 |0,p,b=>by intro x hx n e;unfold lex at hx;rw[Fz.mp hx] at e;cases e
 |k+1,p,[]=>by intro x hx n e;unfold lex at hx;rw[Fz.mp hx] at e;cases e
 |k+1,p,c::r=>by
  have one: ∀ {y:Tok}{t:MI},(∀n,y= .num n->n<1000000000000000000)->Dt t->Dt ((y,p)::t):=λh1 h2 x hx n e=>by
   rcases Fi.mp hx with z|z
   ·rw[z] at e;exact h1 n e
   ·exact h2 x z n e
  have nil:Dt []:=λx hx=>nomatch hx
  unfold lex;split
  ·exact lz k _ _
  split
  ·exact lz k _ _
  split
  ·dsimp only
   split
   ·exact one (λn e=>nomatch e) nil
   ·exact one (λn e=>nomatch e) (lz k _ _)
  split
  ·dsimp only
   split
   ·exact one (λn e=>nomatch e) nil
   ·rename_i h
    refine one (λn e=>?_) (lz k _ _);cases e;have z:=tm ((c::r).takeWhile digit) 0 0 (tw _) [01];rw[VH] at h;exact FQ z (Fm.pow_le_pow_right [01] (show 0+((c::r).takeWhile digit).length<=18 by lia))
  ·split
   ·exact one (λn e=>nomatch e) (lz k _ _)
   ·exact one (λn e=>nomatch e) nil
end OS
namespace OS
open Vbemac
def bnd (V:EV F7):Stmt->EV F7
 | .bind x _=>x::V
 |_=>V
mutual
def WT:Fm->EV F7->EV (F7×Fm)->Stmt->Prop
 |_,V,F, .bind x e=>x∉V/\WS V F e
 |d,V,F, .loop x lo hi l=>x∉V/\WS V F lo/\WS V F hi/\1<=d/\zG (d-1) (x::V) F l
 |d,V,F, .cond c a b=>WS V F c/\1<=d/\zG (d-1) V F a/\zG (d-1) V F b
 |_,V,F, .step _ z q p top am=>WS V F z/\WS V F q/\WS V F p/\(∀e,top=Fa e->WS V F e)/\WS V F am
 |_,V,F, .block _ _ z p x am _ g=>x∉V/\WS V F z/\WS V F p/\WS (x::V) F am/\ ∀e,g=Fa e->WS V F e
def zG:Fm->EV F7->EV (F7×Fm)->Stmts->Prop
 |_,_,_, .nil=>True
 |d,V,F, .cons s l=>WT d V F s/\zG d (bnd V s) F l
end
def xD:EV F7->EV (F7×Fm)->Sheet->Prop
 |_,_,[]=>True
 |V,F, .const x e::r=>x∉V/\WS V F e/\xD (x::V) F r
 |V,F, .func x ps e::r=>F.length<=8/\(∀g∈F,g.1≠x)/\ps.Nodup/\ps.length<=6/\WS (ps++V) F e/\xD V ((x,ps.length)::F) r
 |V,F, .desk _ l::r=>zG 6 V F l/\xD V F r
theorem xl:Po side λ_=>True:=λt a r nb e=>by
 unfold side at e;split at e
 ·cases e;exact#[trivial,nb.drop 1]
 split at e
 ·cases e;exact#[trivial,nb.drop 1]
 ·unfold Fx at e;cases e
theorem BT (w:String):Po (ifKey w) λ_=>True:=λt a r nb e=>by
 unfold ifKey at e;split at e
 ·cases e;exact#[trivial,nb.drop 1]
 ·cases e;exact#[trivial,nb]
theorem kU {α:Type}(w:String) {p:P α}{Q:α->Prop}(h:Po p Q):Po (behind w p) λo=> ∀a,o=Fa a->Q a:=λt a r nb e=>by
 unfold behind at e;split at e
 ·split at e
  ·cases e
  ·rename_i x s z
   cases e;have:=h _ _ _ (nb.drop 1) z;exact#[λa z=>by cases z;exact this.1,this.2]
 ·cases e;exact#[nofun,nb]
theorem sF {f:F7->Gg} :Po (λt=>match anyName t with
  | .error e=> .error e
  | .ok (w,r)=>if f w=b then fail n t else .ok (w,r):P F7) λ_=>True:=λt a r nb e=>by
 dsimp only at e;split at e
 ·cases e
 ·rename_i w s h
  split at e
  ·unfold Fx at e;cases e
  ·cases e;exact#[trivial,(jK t _ _ nb h).2]
theorem Bt (B:Blocks):Po (knownBlock B) λ_=>True:=λt a r nb e=>by
 unfold knownBlock at e;split at e
 ·cases e
 ·rename_i w s h
  split at e
  ·cases e;exact#[trivial,(jK t _ _ nb h).2]
  ·unfold Fx at e;cases e
theorem zP (B:Blocks):Po (maybeName B) λ_=>True:=λt a r nb e=>by
 unfold maybeName at e;split at e
 ·cases e;exact#[trivial,nb]
 ·split at e
  ·cases e
  ·rename_i w s h
   cases e;exact#[trivial,(sF (f:=λw=>B.contains w) (n:=4) (b:=FM) t _ _ nb h).2]
theorem xy (d:Fm):Po (deeper d) λe=>e=d-1/\1<=d:=λt a r nb e=>by
 unfold deeper at e;split at e
 ·unfold Fx at e;cases e
 ·cases e;exact#[#[Gc,by lia],nb]
abbrev StQ (d:Fm) (K:Known) (r:Stmt×Known×Blocks):Prop:=WT d K.values K.funs r.1/\r.2.1.values=bnd K.values r.1/\r.2.1.funs=K.funs
theorem gP: ∀k d K B,Po (stmts k d K B) (λr=>zG d K.values K.funs r.1)/\Po (stmt k d K B) (StQ d K)
 |0,d,K,B=>#[by unfold stmts;exact Po.fail,by unfold stmt;exact Po.fail]
 |k+1,d,K,B=>by
  have E:=(vN k).expr;constructor
  ·unfold stmts
   refine Po.ite (λt a r nb e=>by cases e;exact#[by unfold zG;trivial,nb.drop 1]) ((gP k d K B).2.bind λs hs=>(gP k d s.2.1 s.2.2).1.bind λl hl=>Po.pure ?_)
   ·unfold zG
    rw[hs.2.1,hs.2.2] at hl;exact#[hs.1,hl]
  ·unfold stmt
   refine Po.ite ?_ (Po.ite ?_ (Po.ite ?_ (Po.ite ?_ ?_)))
   ·refine dG.bind λ_ _=>(dS K).bind λx hx=>(bK _).bind λ_ _=>(E DEEP K).bind λe he=>(bK _).bind λ_ _=>Po.pure #[?_,Gc,Gc]
    unfold WT;exact#[hx.1,he]
   ·refine(xy d).bind λn hn=>dG.bind λ_ _=>(dS K).bind λx hx=>(fS _).bind λ_ _=>(E DEEP K).bind λlo hlo=>(bK _).bind λ_ _=>(E DEEP K).bind λhi hhi=>(bK _).bind λ_ _=>(gP k n (K.with x) B).1.bind λl hl=>Po.pure #[?_,Gc,Gc]
    unfold WT;rw[hn.1] at hl;exact#[hx.1,hlo,hhi,hn.2,hl]
   ·refine(xy d).bind λn hn=>dG.bind λ_ _=>(E DEEP K).bind λc hc=>(bK _).bind λ_ _=>(gP k n K B).1.bind λx hx=>(BT _).bind λm _=>?_
    rw[hn.1] at hx;split
    ·refine(bK _).bind λ_ _=>(gP k n K x.2).1.bind λy hy=>Po.pure #[?_,Gc,Gc]
     unfold WT;rw[hn.1] at hy;exact#[hc,hn.2,hx,hy]
    ·refine Po.pure #[?_,Gc,Gc]
     unfold WT;exact#[hc,hn.2,hx,by unfold zG;trivial]
   ·refine dG.bind λ_ _=>(zP B).bind λm _=>xl.bind λ_ _=>(fS _).bind λ_ _=>(E DEEP K).bind λz hz=>(fS _).bind λ_ _=>(E DEEP K).bind λp hp=>(fS _).bind λ_ _=>(dS K).bind λx hx=>(bK _).bind λ_ _=>(E DEEP (K.with x)).bind λq hq=>(kU _ (Bt B)).bind λ_ _=>(kU _ (E DEEP K)).bind λg hg=>(bK _).bind λ_ _=>Po.pure #[?_,Gc,Gc]
    unfold WT;exact#[hx.1,hz,hp,hq,hg]
   ·refine xl.bind λ_ _=>(fS _).bind λ_ _=>(E DEEP K).bind λz hz=>(fS _).bind λ_ _=>(E DEEP K).bind λq hq=>(fS _).bind λ_ _=>(E DEEP K).bind λp hp=>(kU _ (E DEEP K)).bind λtop ht=>(fS _).bind λ_ _=>(E DEEP K).bind λam ha=>(bK _).bind λ_ _=>Po.pure #[?_,Gc,Gc]
    unfold WT;exact#[hz,hq,hp,ht,ha]
theorem Po.itp {α:Type}{Q:α->Prop}{c:MI->Prop} [∀t,Decidable (c t)] {p q:P α}(h1:Po p Q) (h2:Po q Q):Po (λt=>if c t then p t else q t) Q:=λt a r nb e=>by
 dsimp only at e;split at e
 ·exact h1 t a r nb e
 ·exact h2 t a r nb e
theorem Po.itd {α:Type}{Q:α->Prop}{c:Prop} [Decidable c] {p q:P α}(h1:c->Po p Q) (h2: ¬c->Po q Q):Po (λt=>if c then p t else q t) Q:=λt a r nb e=>by
 dsimp only at e;split at e
 ·rename_i h;exact h1 h t a r nb e
 ·rename_i h;exact h2 h t a r nb e
theorem pX: ∀k n K,Po (params k n K) λps=>ps.Nodup/\ps.length<=n/\ ∀p∈ps,p∉K.values
 |0,n,K=>by unfold params;exact Po.fail
 |k+1,0,K=>by
  unfold params;intro t a r nb e;dsimp only at e;rw[E7 rfl] at e;unfold Fx at e;cases e
 |k+1,n+1,K=>by
  unfold params;refine Po.itp (c:=λ_=>n+1=0) Po.fail ((dS K).bind λx hx=>(jd _).bind λm _=>?_);split
  ·refine(pX k n (K.with x)).bind λl hl=>Po.pure #[F6.mpr #[λz=>hl.2.2 x z Fb,hl.1],Hu hl.2.1,λp hp=>?_]
   rcases Fi.mp hp with z|z
   ·rw[z];exact hx.1
   ·exact λy=>hl.2.2 p z (E9 _ y)
  ·refine(bK _).bind λ_ _=>Po.pure #[F6.mpr #[nofun, .nil],Hu (FI _),λp hp=>?_]
   rw[Fz.mp hp];exact hx.1
theorem md: ∀k K n D,K.funs.length+n=9->Po (tops k K n D) (xD K.values K.funs)
 |0,K,n,D,_=>by unfold tops;exact Po.fail
 |k+1,K,n,D,hn=>by
  have E:=(vN k).expr;unfold tops;refine Po.itp (c:=λt=>peek t= .eof) (λt a r nb e=>by cases e;exact#[by unfold xD;trivial,nb]) (Po.ite ?_ (Po.ite (Po.itd (c:=n=0) (λ_=>Po.fail) λn0=>?_) (Po.ite ?_ Po.fail)))
  ·refine dG.bind λ_ _=>(dS K).bind λx hx=>(bK _).bind λ_ _=>(E DEEP K).bind λe he=>(bK _).bind λ_ _=>(md k (K.with x) n D hn).bind λl hl=>Po.pure ?_
   unfold xD;exact#[hx.1,he,hl]
  ·refine dG.bind λ_ _=>(dS K).bind λx hx=>(bK _).bind λ_ _=>(jd _).bind λm _=>(show Po (if m=FM then give [] else params k PARAMS (K.with x)) (λps=>ps.Nodup/\ps.length<=6) by
     split
     ·exact Po.pure #[.nil,FI _]
     ·exact(pX k PARAMS (K.with x)).mono λ_ z=>#[z.1,z.2.1]).bind λps hp=>(bK _).bind λ_ _=>(E DEEP { K with values:=ps++K.values }).bind λe he=>(bK _).bind λ_ _=>(md k { K with funs:=(x,ps.length)::K.funs } (n-1) D (by show K.funs.length+1+(n-1)=9;lia)).bind λl hl=>Po.pure ?_
   unfold xD;exact#[by lia,hx.2,hp.1,hp.2,he,hl]
  ·refine dG.bind λ_ _=>(sF (f:=λw=>D.contains w) (n:=4) (b:=FM)).bind λx _=>(bK _).bind λ_ _=>(gP k NEST K []).1.bind λl hl=>(md k K n (x::D) hn).bind λr hr=>Po.pure ?_
   unfold xD;exact#[hl,hr]
end OS
namespace OS
open PySem PySem.Spec L2
open PyProof.Rows hiding St
variable {P:FW}{w:Gx}{K:E1}{mg:FD->Fd E3}{base:GI}{a:bf}
theorem Ow.bas {B H:Hp}{o:HO}(O:Ow B L H) (h:B p≠FB\/H p=FB):Ow (aF B p o) L (aF H p o):=by
 refine#[λb u e=>?_,λx hx=>?_,O.nd]
 ·by_cases hb:b=p
  ·rw[hb,ae] at e ⊢; exact e
  ·rw[ac hb] at e ⊢; exact O.same b u e
 ·have h1:=O.at_ x hx
  have ne:x.1≠p:=λz=>by
   rcases h with h|h
   ·exact h (by rw[<-z];exact h1.2)
   ·rw[<-z,h1.1] at h;cases h
  rw[ac ne,ac ne];exact h1
theorem fh.up {a:bf}{M:E4->Prop}{H:Hp}{o:HO}{x:Ha}{v:V}(m:M p) (h:fh a M H x v):fh a M (aF H p o) x v:=fh.HH (λb u e n=>#[n,by rw[ac λz=>n (by rw[z];exact m)];exact e]) x h
theorem DD.up {a:bf}{M:E4->Prop}{B:Hp}{o:HO}(m:M p) (h:DD a #[M,B] F ff):DD a #[M,aF B p o] F ff:=by
 refine#[h.1,λf=>?_];have:=h.2 f;split
 ·rename_i g hg
  rw[hg] at this;obtain⟨v,h1,h2⟩:=this;exact#[v,h1,h2.up m]
 ·rename_i hg
  rw[hg] at this;exact this
abbrev Ac (b:Gg):V:= .int (Vbemac.bit b)
def aa7:Fd Fm->V
 |some k=> .int (k:Fm)
 |none=> .int (-1)
abbrev Et (H:Hp) (C:E4) (fs:EV (FD×V)) (v:V):Prop:=bI (λ_=>False) H C fs v
def jq (a:bf) (ol:E4) (H:Hp) (v:V):Hx->Prop
 | .step d z t b p q am=>Et H a.Hk [("desk", .int d),("zone", .int z),("quarter", .int t),("side",Ac b),("low", .int p),("high", .int q),("amount", .int am)] v
 | .block d z b p g u l=> ∃q,q≠ol/\Et H a.Hm [("desk", .int d),("zone", .int z),("side",Ac b),("price", .int p),("group", .int g),("parent",aa7 u),("amounts", .ref q)] v/\H q=Fa (.lst (l.map V.int))/\l.length<=4
abbrev qd.at_ (c:qd) (z:Fm):qd:=#[c.wk,c.dw,c.fa,c.sl,c.tl,z]
structure Zx where
 a:bf
 E:XK
 x:E4
 dx:E4
 m:E4
 dm:E4
 ol:E4
 c:qd
 N:Hp
 K:J3
 S:HM
 F0:EV (EW×Fm)
 d:Int
abbrev Zx.M (Z:Zx):E4->Prop:=λp=>Z.N p=FB
abbrev xF (m w o:E4) (d:Int) (nd:E4):EV (FD×V):=[("market", .ref m),("worker", .ref w),("orders", .ref o),("desk", .int d),("named", .ref nd)]
abbrev mF (K:J3):EV (FD×V):=[("zones", .int K.zones),("quarters", .int K.quarters),("low", .int K.lo),("high", .int K.hi)]
structure EB (Z:Zx) (B:Hp) (w:Gj) (nd:E4) (kk:EV (a8×V)) (os:EV V):Prop where
 sm:aW Z.N B
 hx:B Z.x=Fa (.ins Z.a.Ge Z.dx (xF Z.m Z.c.wk Z.ol Z.d nd))
 hm:B Z.m=Fa (.ins Z.a.JU Z.dm (mF Z.K))
 ho:B Z.ol=Fa (.lst os)
 hn:B nd=Fa (.dK kk)
 nx:Z.N Z.x=FB/\Z.N Z.ol=FB/\Z.N nd=FB
 po:Paired (λv o=>jq Z.a Z.ol B v o) os w.orders
 le:w.orders.length<=48
 pn: ∀u,bO kk (nk u)=(w.names.find? λa=>a.1 == u).map λa=>V.int (a.2:Fm)
 ln:kk.length<=w.names.length
 nl:w.names.length<=w.orders.length
 q4:Z.K.quarters<=4
inductive cO (Z:Zx) (j:Fm) (B H:Hp) (U:EV EW) (en:Hb) (w:Gj) (n:Fm):Prop
 |mk {r:V}{b:Fm}{ff:EV (a8×V)}{d:rF}{s:fz}{nd:E4}{kk:EV (a8×V)}{os:EV V}(FO:gz Z.S Z.F0) (W:eS Z.a ⟨Z.M,B⟩ H (Z.c.at_ (60000-j)) Z.S.funs r b ff [d] [] [] [s] n) (A:Ag Z.S U en [s]) (gs:xP [s]) (eb:EB Z B w nd kk os) (hj:j<=50000):cO Z j B H U en w n
inductive ES (Z:Zx) (j:Fm) (H:Hp) (U:EV EW) (en:Hb) (w:Gj) (n:Fm):Prop
 |mk {B:Hp}(_:cO Z j B H U en w n):ES Z j H U en w n
abbrev Qe (Z:Zx) (c:Int):Prop:= ∀H',aW Z.N H'->oV Z.a Z.E H' c
structure EX (X:Cx) (a:bf) (E:XK):Prop where
 T:aU X.K X.mg a
 C:XW X.K a
 KX:mw X.K a
 hr:bX 9 X.A
 up:dg (fY X.prog X.w) X E
section
variable {X:Cx}{Z:Zx}{i j n m k:Fm}{B H H':Hp}{U:EV EW}{en:Hb}{w:Gj}{σ:L2.St}{Q:VK}{o e f:Hv}{to te tf:TE}{v:V}{x:Fc}{y:EW}{z:Int}{p1 p2 p3 p4:Pos}
theorem eS.zz {a:bf}{B:sC}(W:eS a B H c F r b ff ds us ts sc n) (h:b+5*n<=z') (h':z'<=60000):eS a B H (c.at_ z') F r b ff ds us ts sc n:=#[W.O,W.fn,W.sq,W.tk,W.bn.Vn,W.bn.tl,W.bn.sl,W.bn.b6,h,h']
theorem cO.same (R:cO Z j B H U en w n):aW Z.N H:=by
 obtain⟨_,W,_,_,eb,_⟩:=R;exact λb o e=>W.O.same b o (eb.sm b o e)
theorem cO.less (R:cO Z i B H U en w n) (h:j<=i):cO Z j B H U en w n:=by
 obtain⟨FO,W,A,gs,eb,hj⟩:=R;exact#[FO,W.zz (by have:_<=60000-i:=W.bn.bn;lia) (by lia),A,gs,eb,by lia]
theorem cO.unset {B0 H0:Hp}(R:cO Z j B H (y::U) ((y,z)::en) w n) (ny:y∉U) (R0:cO Z j0 B0 H0 U en w0 n0):cO Z j B H U en w n:=by
 obtain⟨FO,W,A,gs,eb,hj⟩:=R;obtain⟨_,_,A0,_,_,_⟩:=R0;exact#[FO,W,A.unset ny A0.big λ_=>A0.low rfl,gs,eb,hj]
theorem cO.wk (R:cO Z j B H U en w n) (T:aU X.K X.mg Z.a) (q:Q (.ref Z.c.wk) H):dB X.K "worker" Q (.ref Z.x) H:=by
 obtain⟨_,W,_,_,eb,_⟩:=R;exact#[Z.x,_,Z.dx,_,_,Gc,W.O.same _ _ eb.hx,T.Hn,T.Ma,Gc,q]
theorem n8 (Y:EX X Z.a Z.E) (R:cO Z j B H U en w n) (ho:PE X o to) (hvo: ∀Q:VK,Q (.ref Z.c.wk) H->to σ H Q) (he:PE X e te) (hv: ∀Q:VK,Q v H->te σ H Q) (ex:au Z.a Z.M Z.N x v) (ws:WS U Z.F0 x) (hk:3*n+1<=k) (er: ∀c,Ly k Z.S en x n= .error c->Qe Z c) (q: ∀y m H',Ly k Z.S en x n= .ok (y,m)->m<n->dA y->cO Z j B H' U en w m->Q (.int y) H')
  (Kd:Fy [e] X.env=[[001]]) (ht:eval (.Call (.Attribute o "work_out" p2) [e] [] p4) X.env=(do
   let ov<-eval o X.env
   standAt p2.atName
   let (f,first)<-holding [ov] (KU ov "work_out" (do return (<-Pw o X.env).getD FM))
   NC p4 f first (IE p4 (Fy [e] X.env)) (KH p4 (Jd [] X.env)))):Pe X (.Call (.Attribute o "work_out" p2) [e] [] p4) σ H Q:=by
 obtain @⟨r,b,ff,d,s,nd,kk,os,FO,W,A,gs,eb,hj⟩:=R;refine#[_,cy ho Y.T.HS Y.T.Zv.c (uf Y.T Y.C Y.KX) Y.hr Y.up (aa he ag Kd) Kd rfl ht,hvo _ #[Z.c.wk,Z.c.dw,_,Gc,W.ins,Gc,hv _ (.mk (B:=#[Z.M,B]) (c:=Z.c.at_ (60000-j)) rfl FO ws (λ_ _ h=>h) A gs #[W] (au.HH (λb o e m=>#[m,eb.sm b o e]) x ex) hk (λc h H' s'=>er c h H' λb o e=>s' b o (eb.sm b o e)) λy m h hm hb H' b' s' A' gs' W'=>?_)]];obtain @⟨ff',ds',V9,W'⟩:=W';have sq:=W'.sq;have tk:=W'.tk;cases tk;cases sq with
 |cons h1 h2=>cases h2;exact q y m H' h hm hb #[FO,W',A',gs',eb,hj]
theorem vL (Y:EX X Z.a Z.E) (R:cO Z j B H U en w n) (ho:PE X o to) (hvo: ∀Q:VK,Q (.ref Z.c.wk) H->to σ H Q) (j5:j+5<=50000) (er:n=0->Qe Z (-13)) (q: ∀m H',n=m+1->cO Z (j+5) B H' U en w m->Q .Iw H')
  (ht:eval (.Call (.Attribute o "take_step" p2) [] [] p4) X.env=(do
   let ov<-eval o X.env
   standAt p2.atName
   let (f,first)<-holding [ov] (KU ov "take_step" (do return (<-Pw o X.env).getD FM))
   NC p4 f first (IE p4 (Fy [] X.env)) (KH p4 (Jd [] X.env)))):Pe X (.Call (.Attribute o "take_step" p2) [] [] p4) σ H Q:=by
 obtain @⟨r,b,ff,d,s,nd,kk,os,FO,W,A,gs,eb,hj⟩:=R;refine#[_,bS ho Y.T.HS Y.T.VQ.c (hJ Y.T Y.C) (Y.hr.mono [01]) Y.up ht,hvo _ #[Z.c.wk,Z.c.dw,_,Gc,W.ins,Gc, .mk (c:=Z.c.at_ (60000-j)) rfl W (λz=>er z H λb o e=>W.O.same b o (eb.sm b o e)) λm hm H' W'=>q m H' hm #[FO,W'.zz ?_ (by lia),A,gs,eb,j5]]];have:b+5*n<=60000-j:=W.bn.bn;lia
theorem vS (Y:EX X Z.a Z.E) (R:cO Z (j+1) B H U en w n) (ho:PE X o to) (hvo: ∀Q:VK,Q (.ref Z.c.wk) H->to σ H Q) (he:PE X e te) (hv: ∀Q:VK,Q (.str (sb y)) H->te σ H Q) (q:Pe X f σ H λu H'=> ∃(B':Hp) (z:Int) (w':Gj) (n':Fm),u= .int z/\cO Z (j+1) B' H' U en w' n'/\y∉U/\dA z/\ ∀H2,cO Z j B' H2 (y::U) ((y,z)::en) w' n'->Q .Iw H2)
  (Kd:Fy [e,f] X.env=[[001],(FS,eval f X.env)]) (Vm:Fy [f] X.env=[(FS,eval f X.env)]) (ht:eval (.Call (.Attribute o "set_value" p2) [e,f] [] p4) X.env=(do
   let ov<-eval o X.env
   standAt p2.atName
   let (g,first)<-holding [ov] (KU ov "set_value" (do return (<-Pw o X.env).getD FM))
   NC p4 g first (IE p4 (Fy [e,f] X.env)) (KH p4 (Jd [] X.env)))):Pe X (.Call (.Attribute o "set_value" p2) [e,f] [] p4) σ H Q:=by
 obtain @⟨r,b,ff,d,s,nd,kk,os,FO,W,A,gs,eb,hj⟩:=R;refine#[_,cy ho Y.T.HS Y.T.WL.c (kE Y.T) (Y.hr.mono [01]) aV (aa he (aa dq ag Vm) (by rw[Kd,Vm])) (by rw[Kd,Vm]) (by rw[Vm];rfl) ht,hvo _ #[Z.c.wk,Z.c.dw,_,Gc,W.ins,Gc,hv _ (q.mono λu H' ⟨B',z,w',n',hu,R',ny,bz,k⟩=>?_)]];obtain @⟨r,b,ff,d,s,nd,kk,os,FO,W,A,gs,eb,hj⟩:=R';subst hu;have bn:b+5*n'<=60000-(j+1):=W.bn.bn;exact .mk (c:=Z.c.at_ (60000-j)) rfl (W.zz (c:=Z.c.at_ _) (by lia) (by lia)) (show b+1+5*n'<=60000-j by lia) λH2 W2=>k H2 #[FO,W2,A.set ny bz,A9 gs bz,eb,by lia]
end
theorem ahF {X:Cx}{σ:L2.St}{H:Hp}{R:Gg->Hp->Prop}{t1 t2 t3:TE}{lo x hi:Int}(h1:PE X e1 t1) (h2:PE X e2 t2) (h3:PE X e3 t3) (v1: ∀Q:VK,Q (.int lo) H->t1 σ H Q) (v2: ∀Q:VK,Q (.int x) H->t2 σ H Q) (v3: ∀Q:VK,Q (.int hi) H->t3 σ H Q) (q:R (Fw x lo hi) H) (hm:U9 [.LtE, .LtE] [e2,e3]=FS:=by with_unfolding_all rfl):
  Pt X (.Compare e1 [.LtE, .LtE] [e2,e3] p) σ H R:=by
 refine#[_,Cy eP eP h1 h2 h3 hm,v1 _ (v2 _ #[_,_,Gc,Gc,_,Gc,?_])];unfold Fw at q;by_cases h:lo<=x
 ·rw[Gy h,Jh] at q
  rw[Gy h];exact cc (v3 _ #[_,_,Gc,Gc,_,Gc,q])
 ·rw[FU h,IW] at q
  rw[FU h];exact bN #[_,Gc,q]
inductive xI (a:bf) (vs:EV V) (H:Hp) (Q:VK) (E:XK):Prop
 |mk (x lo hi:Int) (_:vs=[.int x, .int lo, .int hi]) (_:Fw x lo hi=FS->oV a E H (-14)) (_:Fw x lo hi=FM->Q .Iw H):xI a vs H Q E
theorem ahG (T:aU K mg a) (XC:XW K a):T.ZA.O P w base 4 (xI a):=by
 refine fQ T.ZA.F agx [03] [02];obtain⟨x,lo,hi,rfl,h1,h2⟩:=h;refine bH (jk (ahF (pv 1) (pv 0) (pv 2) [05] [05] [05] ?_));cases e:Fw x lo hi with
 |true=>exact bN (cf (h2 e))
 |false=>exact cc (aQ (eW eB XC.NI (jJ T XC) hr (by rfl) T.Oz T.Zk.c.b) #[FI _,_,#[Gc,Gc],h1 e _ (.tail _ (.tail _ (.tail _ (.head _))))])
theorem Ow.ahH {B H H':Hp}{p:E4}{o:HO}(O:Ow B L H) (k:aW H H') (h:H p=FB) (e:H' p=Fa o):Ow (aF B p o) L H':=by
 refine#[λb u z=>?_,λx hx=>?_,O.nd]
 ·by_cases hb:b=p
  ·rw[hb,ae] at z;rw[hb,e];exact z
  ·rw[ac hb] at z;exact k _ _ (O.same b u z)
 ·have h1:=O.at_ x hx
  have ne:x.1≠p:=aj h1.1 h;rw[ac ne];exact#[k _ _ h1.1,h1.2]
theorem AA {B:Hp}{C p:E4}{fs:EV (FD×V)}{v:V}{o:HO}(i:Et B C fs v) (h: ∀C d,B p≠Fa (.ins C d fs)):Et (aF B p o) C fs v:=by
 obtain⟨q,dx,rfl,m,e⟩:=i;exact#[q,dx,Gc,m,by rw[ac λz=>h _ _ (by rw[<-z];exact e)];exact e]
theorem nj {a:bf}{B:Hp}{v:V}{p:E4}{o:HO} : ∀ {x:Hx},jq a ol B v x->(∀C d fs,fs.length=7->B p≠Fa (.ins C d fs))->(p=ol\/ ∀l,B p≠Fa (.lst l))->jq a ol (aF B p o) v x
 | .step ..,h,hi,_=>AA h λC d=>hi C d _ rfl
 | .block ..,⟨q,nq,h,e,le⟩,hi,hl=>#[q,nq,AA h λC d=>hi C d _ rfl,by
  rw[ac λz=>?_]
  ·exact e
  ·rcases hl with hl|hl
   ·exact nq (z.trans hl)
   ·exact hl _ (by rw[<-z];exact e),le]
section
variable {B H H':Hp}{w:Gj}{Q:VK}
theorem EB.new {nd:E4}{kk:EV (a8×V)}{os:EV V}(eb:EB Z B w nd kk os) (hB:B p=FB):EB Z (aF B p o) w nd kk os:=by
 have up: ∀ {b:E4}{u:HO},B b=Fa u->aF B p o b=Fa u:=λe=>by rw[ac (aj e hB)];exact e
 exact#[λb u e=>up (eb.sm b u e),up eb.hx,up eb.hm,up eb.ho,up eb.hn,eb.nx,dZ eb.po λv x z=>nj z (λ_ _ _ _ z=>by rw[hB] at z;cases z) (.inr λ_ z=>by rw[hB] at z;cases z),eb.le,eb.pn,eb.ln,eb.nl,eb.q4]
theorem cO.fresh (R:cO Z j B H U en w n) (h:H p=FB):B p=FB/\Z.N p=FB/\p≠Z.ol:=by
 obtain⟨_,W,_,_,eb,_⟩:=R;have hB:B p=S8:=by
  cases z:B p with
  |none=>rfl
  |some u=>rw[W.O.same _ _ z] at h;cases h
 refine#[hB,?_,λz=>by rw[z,eb.ho] at hB;cases hB];cases z:Z.N p with
 |none=>rfl
 |some u=>rw[eb.sm _ _ z] at hB;cases hB
theorem cO.new (R:cO Z j B H U en w n) (k:aW H H') (h:H p=FB) (e:H' p=Fa o):cO Z j (aF B p o) H' U en w n:=by
 obtain⟨hB,hN,_⟩:=R.fresh h;obtain @⟨r,b,ff,d,s,nd,kk,os,FO,W,A,gs,eb,hj⟩:=R;exact#[FO,#[W.O.ahH k h e,W.fn.up hN,W.sq, .nil,W.bn],A,gs,eb.new hB,hj]
theorem cO.chg {o':HO}{nd:E4}{kk:EV (a8×V)}{os:EV V}(R:cO Z j (aF B p o) H U en w n) (hB:B p=FB) (hN:Z.N p=FB) (eb:EB Z B w nd kk os):cO Z j (aF B p o') (aF H p o') U en w n:=by
 obtain @⟨r,b,ff,d,s,Vo,kk',os',FO,W,A,gs,_,hj⟩:=R;have O:=W.O.bas (p:=p) (o:=o') (.inl (by show aF B p o p≠FB;rw[ae];exact Tn _));have F:=W.fn.up (o:=o') hN;rw[D9] at O F;exact#[FO,#[O,F,W.sq, .nil,W.bn],A,gs,eb.new hB,hj]
end
theorem cO.put {Z:Zx}{j n b:Fm}{B H:Hp}{U:EV EW}{en:Hb}{w:Gj}{r:V}{ff:EV (a8×V)}{d:rF}{s:fz}{nd p:E4}{kk:EV (a8×V)}{os:EV V}{o o':HO}(FO:gz Z.S Z.F0) (W:eS Z.a #[Z.M,B] H (Z.c.at_ (60000-j)) Z.S.funs r b ff [d] [] [] [s] n) (A:Ag Z.S U en [s]) (gs:xP [s]) (hj:j<=50000) (h:B p=Fa o) (hN:Z.N p=FB) (eb:EB Z (aF B p o') w nd kk os):cO Z j (aF B p o') (aF H p o') U en w n:=#[FO,#[W.O.bas (.inl (by show B p≠FB;rw[h];exact Tn _)),W.fn.up hN,W.sq, .nil,W.bn],A,gs,eb,hj]
theorem oz {α β:Type}{F:α->β->Prop}{x:α}{y:β}(h:F x y): ∀ {l:EV α}{m:EV β},Paired F l m->Paired F (l++[x]) (m++[y])
 |_,_, .nil=> .cons h .nil
 |_,_, .cons r t=> .cons r (oz h t)
inductive Yo (a:bf) (vs:EV V) (H:Hp) (Q:VK) (E:XK):Prop
 |mk {Z:Zx}{j:Fm}{B:Hp}{U:EV EW}{en:Hb}{w:Gj}{n:Fm}{v:V}{o:Hx}(_:vs=[.ref Z.x,v]) (_:Z.a=a) (_:Z.E=E) (_:cO Z j B H U en w n) (_:jq Z.a Z.ol B v o) (_:48<=w.orders.length->Qe Z (-15)) (_:w.orders.length<48-> ∀B' H',cO Z j B' H' U en { w with orders:=w.orders++[o] } n->Q .Iw H'):Yo a vs H Q E
theorem ahI (T:aU K mg a) (XC:XW K a):T.d_W.O P w base 4 (Yo a):=by
 refine fQ T.d_W.F ak8 [03] [02];obtain @⟨Z,j,B,U,en,w',n,v,o,rfl,rfl,rfl,R,ho,h1,h2⟩:=h;have sm:=R.same;obtain @⟨r,b,ff,d,s,nd,kk,os,FO,W,A,gs,eb,hj⟩:=R;have hl:=bj eb.po;have fl: ∀ {Q:VK},Q (.ref Z.ol) H->dB K "orders" Q (.ref Z.x) H:=λq=>#[Z.x,_,Z.dx,_,_,Gc,W.O.same _ _ eb.hx,T.Hn,T.Ja,Gc,q]
 have Ri:=W.O.same _ _ eb.ho;refine bH (jm (iA T.JW Ri [08] (λ_ q=>fl q) #[_,aR (by rfl) T.Q1,_,_,Gc,Gc,dC (λz=>?_) λz=>?_]))
 ·exact aQ (eW eB XC.LW (ij T XC) hr (by rfl) T.Ng T.Zl.c.b) #[FI _,_,#[Gc,Gc],h1 (by lia) H sm _ (.tail _ (.tail _ (.tail _ (.tail _ (.head _)))))]
 ·have lt:w'.orders.length<48:=by have:=eb.le;lia
  have ne: ∀ {b:E4}{u:HO},B b=Fa u->u≠ .lst os->aF B Z.ol (.lst (os++[v])) b=Fa u:=λe n=>by rw[ac (qa e eb.ho n)];exact e
  have ni: ∀C d fs,fs.length=7->B Z.ol≠Fa (.ins C d fs):=λ_ _ _ _ z=>by rw[eb.ho] at z;cases z
  have Wx:EB Z (aF B Z.ol (.lst (os++[v]))) { w' with orders:=w'.orders++[o] } nd kk (os++[v]):=#[λb u e=>by rw[ac λz=>by rw[z,eb.nx.2.1] at e;cases e];exact eb.sm b u e,ne eb.hx nofun,ne eb.hm nofun,ae,ne eb.hn nofun,eb.nx,oz (nj ho ni (.inl rfl)) (dZ eb.po λv x z=>nj z ni (.inl rfl)),by rw[Ft];exact lt,eb.pn,eb.ln,by rw[Ft];exact Nu eb.nl,eb.q4]
  exact iJ [08] (λ_ q=>fl q) Ri (bC 1 #[_,Ri,by rw[hl,HP];lia,cf (h2 lt _ _ (cO.put FO W A gs hj eb.ho eb.nx.2.1 Wx))])
inductive Cd (vs:EV V) (H:Hp) (Q:VK) (_E:XK):Prop
 |mk (b:Gg) (_:vs=[ku b]) (_:Q (Ac b) H):Cd vs H Q _E
theorem ahJ (T:aU K mg a):T.d_M.U P w base 1 Cd:=by
 refine T.d_M.F.ok akQ [03] [02];obtain⟨b,rfl,q⟩:=h;refine aL #[_,dF (a9 b8 (pv 0) dJ (aM _)) (aR (by rfl) T.Xc) (aR (by rfl) T.Z2),Gc,_,Gc,?_];cases b with
 |true=>rw[show decide (ku FM=V.str "sell")=FS by decide+kernel];exact bN q
 |false=>rw[show decide (ku FS=V.str "sell")=FM by decide+kernel];exact cc q
section
variable {X:Cx}{Z:Zx}{j n m k iw:Fm}{B H H':Hp}{U:EV EW}{en:Hb}{w:Gj}{σ:L2.St}{Q:VK}{D:d8}{ss:EV Stmt}{e1 e2 e3:Hv}{t1 t2 t3:TE}{v u:V}{x:Fc}{y nm f:FD}{C:E4}{fs:EV (FD×V)}{lo z hi:Int}{p0 p1 p2 p3 p4 p5 p6:Pos}
theorem Pa.mono {Q Q':EV V->Hp->Prop}(h:Pa X es σ H Q) (im: ∀b H,Q b H->Q' b H):Pa X es σ H Q':=by
 obtain⟨t,ht,q⟩:=h;refine#[λσ H Q'=> ∃Q:EV V->Hp->Prop,(∀b H,Q b H->Q' b H)/\t σ H Q,λpos pins s σ H Q' I h=>?_,Q,im,q];obtain⟨Q,im,q⟩:=h;exact b9 (ht pos pins s σ H Q I q) λc s' ⟨v,H',I',r,q⟩=>#[v,H',I',r,im _ _ q]
theorem aa8 {C:E4}{fs:EV FD}(nb:NB X c C fs) (hr:bX 2 X.A) (q:Pa X (e::es) σ H λws H1=>ws.length=fs.length/\ ∀x dx H2,H1 x=FB->aW H1 H2->H2 x=Fa (.ins C dx (fs.zip ws))->Q (.ref x) H2)
  (hg:Gl X c:=by rfl) (hx:(c == [003])=FS:=by decide) (he:Fy (e::es) X.env=[001]::Fy es X.env:=by rfl) (MJ:(IE p4 (Fy es X.env)).any (·.1)=FS:=by rfl):Pe X (.Call (.Name c p1) (e::es) [] p4) σ H Q:=by
 obtain⟨M,G,b,hm⟩:=nb;refine#[_,gT M G hr hg hm b .nil aV sY hx he MJ,q.mono λws H1 ⟨hl,q⟩ x dx h1 h2 ne=>?_];rw[GL];exact#[x,dx,ws,Gc,hl,ae,λH2 e k=>#[Gc,q x dx H2 h1 (λb o e=>k b o (by rw[ac (aj e h1),ac (aj e h2)];exact e) (aj e h1)) e]]
theorem gt (i iw:Fm) (Y:EX X Z.a Z.E) (nd:X.N.Nodup) (R:cO Z j B H U en w n) (hw:σ[iw]?=Fa (Fa (.ref Z.c.wk))) (hn:σ[1]?=Fa (Fa v)) (ins:bI Z.M Z.N C fs v) (cl:gI X.K C) (no:ao X.K C f) (hl:fs.lookup f=Fa u) (ex:au Z.a Z.M Z.N x u) (ws:WS U Z.F0 x) (hk:3*n+1<=k) (er: ∀c,Ly k Z.S en x n= .error c->Qe Z c)
  (q: ∀y m H',Ly k Z.S en x n= .ok (y,m)->m<n->dA y->cO Z j B H' U en w m->Bd X ss D (σ.set i (Fa (.int y))) H') (hp:ip p2 p4:=by rfl) (nw:X.N[iw]?=Fa ("worker":FD):=by rfl) (vw:oS X.env.scope "worker":=by exact GO rfl) (n1:X.N[1]?=Fa nm:=by rfl) (v1:oS X.env.scope nm:=by exact GO rfl) (hd:(nm == [003])=FS:=by decide) (Sf:(nm == ("__classdict__":FD))=FS:=by decide) (h:Sl X i y:=by exact#[Gc,GO rfl,Gc]):
  Bd X (.Assign [.Name y p0] (.Call (.Attribute (.Name "worker" p1) "work_out" p2) [.Attribute (.Name nm p3) f p6] [] p4) p5::ss) D σ H:=
 aN i nd (n8 Y R (dR nw vw) (λ_ q=>m6 q hw) (ah (dR n1 v1 hd Sf) rfl) (λ_ q=>m6 (ins.fld R.same cl no hl q) hn) ex ws hk er q rfl (d9 hp rfl)) h
theorem oX (Y:EX X Z.a Z.E) (R:cO Z j B H U en w n) (h1:PE X e1 t1) (h2:PE X e2 t2) (h3:PE X e3 t3) (v1: ∀Q:VK,Q (.int z) H->t1 σ H Q) (v2: ∀Q:VK,Q (.int lo) H->t2 σ H Q) (v3: ∀Q:VK,Q (.int hi) H->t3 σ H Q) (er:Fw z lo hi=FS->Qe Z (-14)) (q:Fw z lo hi=FM->Bd X ss D σ H) (hg:Gl X "need_range":=by rfl) (hs1:Fy [e1,e2,e3] X.env=(FS,eval e1 X.env)::Fy [e2,e3] X.env:=by rfl) (Vm:Fy [e2,e3] X.env=(FS,eval e2 X.env)::Fy [e3] X.env:=by rfl) (hs3:Fy [e3] X.env=[(FS,eval e3 X.env)]:=by rfl):
  Bd X (.Expr (.Call (.Name "need_range" p1) [e1,e2,e3] [] p4) p5::ss) D σ H:=
 bE #[_,aJ (ahG Y.T Y.C) (Y.hr.mono [01]) hg Y.T.ZA.c Y.up (aa h1 (aa h2 (aa h3 ag hs3) Vm) hs1) [01] hs1 (by rw[Vm,hs3];rfl),v1 _ (v2 _ (v3 _ #[z,lo,hi,Gc,λh=>er h H R.same,q]))] rfl
theorem cO.Xk (R:cO Z j B H U en w n) (T:aU X.K X.mg Z.a) (no:ao X.K Z.a.JU f) (hl:(mF Z.K).lookup f=Fa v) (q:Q v H):dB X.K f Q (.ref Z.m) H:=by
 obtain⟨_,W,_,_,eb,_⟩:=R;exact#[Z.m,_,Z.dm,_,_,Gc,W.O.same _ _ eb.hm,T.Rh,no,hl,q]
theorem cO.mk2 (R:cO Z j B H U en w n) (T:aU X.K X.mg Z.a) (q:Q (.ref Z.m) H):dB X.K "market" Q (.ref Z.x) H:=by
 obtain⟨_,W,_,_,eb,_⟩:=R;exact#[Z.x,_,Z.dx,_,_,Gc,W.O.same _ _ eb.hx,T.Hn,T.L9,Gc,q]
theorem cO.dk (R:cO Z j B H U en w n) (T:aU X.K X.mg Z.a) (q:Q (.int Z.d) H):dB X.K "desk" Q (.ref Z.x) H:=by
 obtain⟨_,W,_,_,eb,_⟩:=R;exact#[Z.x,_,Z.dx,_,_,Gc,W.O.same _ _ eb.hx,T.Hn,T.K6,Gc,q]
end
inductive jQ (a:bf) (lv:Fm) (ok:GR->Prop) (vs:EV V) (H:Hp) (Q:VK) (E:XK):Prop
 |mk {Z:Zx}{B:Hp}{U:EV EW}{en:Hb}{w:Gj}{n k dk:Fm}{st:GR}{v:V}(_:vs=[.ref Z.x,v]) (_:Z.a=a) (_:Z.E=E) (_:Z.d=dk) (_:ok st) (_:cO Z 5 B H U en w n) (_:a7 Z.a Z.M Z.N st v) (_:WT lv U Z.F0 st) (_:3*n+4<=k) (_: ∀c,IJ k Z.S Z.K dk en st w n= .error c->Qe Z c) (_: ∀u m H',IJ k Z.S Z.K dk en st w n= .ok (u,m)->m<=n->ES Z 0 H' U en u m->Q .Iw H'):jQ a lv ok vs H Q E
theorem wR {x GU y:FD}{st:Stmt}{f:E4}{fd:Gb}{N:EV FD}{lv:Fm}{ok:GR->Prop}(T:aU K mg a) (XC:XW K a) (KX:mw K a) (hk:9<=kl) (F:oU K x GU st f fd) (S:az N ["expansion",y] (af st))
  (Jv: ∀(GF:E3) (A:GG) (outer:EV Env) (s:E8) (H:Hp) (Z:Zx) (B:Hp) (U:EV EW) (en:Hb) (w':Gj) (n k dk:Fm) (sm:GR) (v:V) (Q:VK),bX kl (A.deeper (Jz GU (af st) s.heap.objs.size f GF))->Z.a=a->Z.d=dk->ok sm->cO Z 5 B H U en w' n->a7 Z.a Z.M Z.N sm v->WT lv U Z.F0 sm->3*n+3<=k->(∀c,IJ (k+1) Z.S Z.K dk en sm w' n= .error c->Qe Z c)->(∀u m H',IJ (k+1) Z.S Z.K dk en sm w' n= .ok (u,m)->m<=n->ES Z 0 H' U en u m->Q .Iw H')->
   let X:=e8 (fY P w) P w K mg base N GU (af st) f GF A outer s H Z.E
   let D:d8:= { nx:=λ_ H'=>Q .Iw H',rt:=Q }
   EX X Z.a Z.E->Bd X (be st) D (L2.start N [.ref Z.x,v]) H):bU P w K mg base (fY P w) (kl+1) f fd ["expansion",y] (jQ a lv ok):=by
 refine fQ F S [03] [02];obtain @⟨Z,B,U,en,w',n,k,dk,sm,v,rfl,ha,rfl,hd,ho,R,sa,wt,hk',er,q⟩:=h;obtain⟨k,rfl⟩: ∃k',k=k'+1:=#[k-1,by lia];exact Jv GF A outer s H Z B U en w' n k dk sm v Q hr ha hd ho R sa wt (by lia) er q (by subst ha;exact#[T,XC,KX,hr.mono hk,aA])
section
variable {X:Cx}{Z:Zx}{j n m k:Fm}{B H H':Hp}{U:EV EW}{en:Hb}{w:Gj}{σ:L2.St}{Q:VK}{x:Fd Fc}{u:V}{o e0 e1 e2:Hv}{to t0 t1 t2:TE}{z:Int}{p2 p4 p5 p7 p8:Pos}{jj:Fm}{R':Gg->Hp->Prop}
theorem Yp {e:Hv}(q:Pe X e σ H λv H1=>R' (decide (v= .Iw)) H1):Pt X (.Compare e [.Is] [.Constant .none jj p7] p8) σ H R':=cR aaj (q.mono λv H1 q=>mY #[Gc,_,Gc,q]) (aM _)
theorem Yq (Y:EX X Z.a Z.E) (R:cO Z j B H U en w n) (ho:PE X o to) (hvo: ∀Q:VK,Q (.ref Z.c.wk) H->to σ H Q) (h1:PE X e1 t1) (v1: ∀Q:VK,Q u H->t1 σ H Q) (h2:PE X e2 t2) (v2: ∀Q:VK,Q u H->t2 σ H Q) (h0:PE X e0 t0) (v0: ∀Q:VK,Q (.int z) H->t0 σ H Q) (ex:jl Z.a Z.M Z.N x u) (ws: ∀e,x=Fa e->WS U Z.F0 e) (hk:3*n+1<=k) (er: ∀c,Xv k Z.S en z x n= .error c->Qe Z c) (q: ∀y m H',Xv k Z.S en z x n= .ok (y,m)->m<=n->cO Z j B H' U en w m->Q (.int y) H')
  (Kd:Fy [e2] X.env=[(FS,eval e2 X.env)]) (ht:eval (.Call (.Attribute o "work_out" p2) [e2] [] p4) X.env=(do
   let ov<-eval o X.env
   standAt p2.atName
   let (f,first)<-holding [ov] (KU ov "work_out" (do return (<-Pw o X.env).getD FM))
   NC p4 f first (IE p4 (Fy [e2] X.env)) (KH p4 (Jd [] X.env)))):Pe X (.IfExp (.Compare e1 [.Is] [.Constant .none jj p7] p8) e0 (.Call (.Attribute o "work_out" p2) [e2] [] p4) p5) σ H Q:=by
 refine#[_,dF jr h0 dq,Yp #[_,h1,v1 _ ?_]];cases x with
 |none=>
  obtain rfl:u= .Iw:=ex;exact cc (v0 _ (q z n H rfl (Fq n) R))
 |some e=>
  obtain⟨⟨p,dx,rfl,_⟩,_⟩:=xE ex;exact bN (n8 Y R ho hvo h2 v2 ex (ws e rfl) hk er (λy m H' h hm _ R'=>q y m H' h (Kt hm) R') Kd ht)
end
section
variable {kl lv:Fm}
theorem ahK (T:aU K mg a) (XC:XW K a) (KX:mw K a) (Tc:9<=kl):T.ZC.O P w base (kl+1) (jQ a lv λs=> ∃b z t p top q,s= .step b z t p top q):=by
 refine wR T XC KX Tc T.ZC.F Ya λGF A outer s H Z B U en w' n k dk sm v Q hr ha hd ho R sa wt hk er q=>?_;intro X D Y;obtain⟨b,ez,et,ep,top,eq,rfl⟩:=ho;have T:=Y.T;unfold a7 at sa;obtain⟨u1,u2,u3,u4,u5,i,a1,a2,a3,a4,a5⟩:=sa;unfold WT at wt;obtain⟨w1,w2,w3,w4,w5⟩:=wt;generalize GH:IJ (k+1) Z.S Z.K dk en (.step b ez et ep top eq) w' n=res at er q;unfold IJ at GH;dsimp only at GH;have nd:=Ya.nd;refine aN 2 nd (ci (bC 0 (R.wk T ?_)) rfl);refine gt (k:=k) 3 2 Y nd R rfl rfl i T.Mf T.O8 rfl a1 w1 (by lia) (λc h=>er c (by rw[<-GH,h])) λz n1 H h l1 _ R=>?_;rw[h] at GH;dsimp only at GH;refine gt (k:=k) 4 2 Y nd R rfl rfl i T.Mf T.NO rfl a2 w2 (by lia) (λc h=>er c (by rw[<-GH,h])) λt n2 H h l2 _ R=>?_;rw[h] at GH;dsimp only at GH;refine gt (k:=k) 5 2 Y nd R rfl rfl i T.Mf T.OB rfl a3 w3 (by lia) (λc h=>er c (by rw[<-GH,h])) λlo n3 H h l3 _ R=>?_;rw[h] at GH;dsimp only at GH;refine aN 6 nd (Yq (k:=k) Y R (pv 2) [05] (ah (pv 1) rfl) (λ_ q=>i.fld R.same T.Mf T.Lo rfl q) (ah (pv 1) rfl) (λ_ q=>i.fld R.same T.Mf T.Lo rfl q) (pv 5) [05] a4 w4 (by lia) (λc h=>er c (by rw[<-GH,h])) (λhi n4 H h l4 R=>?_) rfl (d9 rfl rfl));rw[h] at GH;dsimp only at GH;refine gt (k:=k) 7 2 Y nd R rfl rfl i T.Mf T.N5 rfl a5 w5 (by lia) (λc h=>er c (by rw[<-GH,h])) λam n5 H h l5 _ R=>?_;rw[h] at GH;dsimp only at GH;refine aN 8 nd (ci (bC 0 (R.mk2 T ?_)) rfl);have bad:(IK Z.K z&&(Fw t 0 ((Z.K.quarters:Int)-1)&&(Fw lo Z.K.lo Z.K.hi&&(Fw hi lo Z.K.hi&&(decide (hi-lo<=Pn)&&Fw am 0 IT)))))=FS->Qe Z (-14):=λh=>er (-14) (by rw[<-GH];unfold Wi;rw[E7 h]);subst ha;refine oX Y R (pv 3) ak (bW cV (ah (pv 8) rfl) ak) [05] [05] (λ_ q=>R.Xk T T.LR rfl #[_,_,Gc,Gc,q]) (λh=>bad (by unfold IK;rw[h];rfl)) λc1=>?_;refine oX Y R (pv 4) ak (bW cV (ah (pv 8) rfl) ak) [05] [05] (λ_ q=>R.Xk T T.KO rfl #[_,_,Gc,Gc,q]) (λh=>bad (by simp only[h,IW,HY])) λc2=>?_;refine oX Y R (pv 5) (ah (pv 8) rfl) (ah (pv 8) rfl) [05] (λ_ q=>R.Xk T T.M5 rfl q) (λ_ q=>R.Xk T T.K5 rfl q) (λh=>bad (by simp only[h,IW,HY])) λc3=>?_;refine oX Y R (pv 6) (pv 5) (ah (pv 8) rfl) [05] [05] (λ_ q=>R.Xk T T.K5 rfl q) (λh=>bad (by simp only[h,IW,HY])) λc4=>?_;refine oX Y R (bW cV (pv 6) (pv 5)) ak (aR (by rfl) T.Q2) (λ_ q=>#[_,_,Gc,Gc,q]) [05] [05] (λh=>bad ?_) λc5=>?_
 ·unfold Fw at h c4
  rw[GC,F5] at c4;rw[Gy (show(0:Int)<=hi-lo by lia),Jh] at h;rw[show decide (hi-lo<=Pn)=FS from h];simp only[IW,HY]
 refine oX Y R (pv 7) ak (aR (by rfl) T.OG) [05] [05] [05] (λh=>bad (by rw[show Fw am 0 IT=FS from h];simp only[HY])) λc6=>?_;have good: ¬(IK Z.K z&&(Fw t 0 ((Z.K.quarters:Int)-1)&&(Fw lo Z.K.lo Z.K.hi&&(Fw hi lo Z.K.hi&&(decide (hi-lo<=Pn)&&Fw am 0 IT)))))=FS:=λh=>by
  have c5:decide (hi-lo<=Pn)=FM:=(GC _ _▸c5:_/\_).2
  have c6:Fw am 0 IT=FM:=c6
  have c1:IK Z.K z=FM:=c1;rw[c1,c2,c3,c4,c5,c6] at h;cases h
 unfold Wi at GH;rw[E5 good] at GH;refine cw (cR gk (bC 7 (cN #[_,_,Gc,Gc,_,Gc,dC (λh=>?_) λh=>?_])))
 ·rw[E5 (by lia)] at GH
  refine aN 9 nd #[_,aJ (ahJ T) (hr.mono (by lia)) (by rfl) T.d_M.c aV (aa (ah (pv 1) rfl) ag),i.fld R.same T.Mf T.O7 rfl #[b,Gc,?_]];refine fk (bL (aO (bC 0 (aO (aa8 (qj T) (hr.mono (by lia)) (aO (ci (bC 0 (R.dk T (aO (bC 3 (aO (bC 4 (aO (bC 9 (aO (bC 5 (aO (bC 6 (aO (bC 7 (cH #[Gc,λx dx H2 hx sm e=>cH ?_]))))))))))))))) rfl)))))) (ahI T Y.C) (hr.mono (by lia)) T.d_W.c aA) rfl;have z0:0<=z:=by unfold Fw at c1;rw[GC,F5] at c1;exact c1.1
  have t0:0<=t:=by unfold Fw at c2;rw[GC,F5] at c2;exact c2.1
  unfold WI UI at GH;refine .mk (o:= .step dk z.toNat t.toNat b lo hi am) rfl rfl rfl (R.new sm hx e) #[x,dx,Gc,λz=>z,?_] (λh=>er (-15) (by rw[<-GH,E7 h])) λh B' H' R'=>q _ n5 H' (by rw[<-GH,E5 (Fm.not_le.mpr h)]) (by lia) #[R'.less (FI _)];rw[ae,hd,Mv z0,Mv t0]
  rfl
 ·have am0:am=0:=by unfold Fw at c6;rw[GC,F5] at c6;lia
  rw[E7 am0] at GH;exact cf (q _ n5 H GH.symm (by lia) #[R.less (FI _)])
end
section
variable {H:Hp}{te:TE}
theorem ED (i n:Fm) (hp:PR (model X.prog X.w) X.A X.env X.xe) (nd:X.N.Nodup) (hm:X.mg "range"=FB) (he:PE X e te) (hv: ∀R:VK,R (.int n) H->te σ H R) (hn:n<=1000) (I:Fm->L2.St->Hp->Prop) (h0:I 0 σ H) (hs: ∀j σ H,j<n->I j σ H->Bd X A (D.lp X ss (I (j+1))) (σ.set i (Fa (.int j))) H) (hd: ∀σ H,I n σ H->Bd X ss D σ H)
  (hg:Gl X "range":=by rfl) (hc:X.calm=FM:=by rfl) (h:Sl X i y:=by exact#[Gc,GO rfl,Gc]) (Kd:Fy [e] X.env=[[001]]:=by rfl) (hf: ∀x,LO (.Call (.Name "range" p1) [e] [] p2) X.env x=pure x:=by intro _;rfl):Bd X (.For (.Name y p0) (.Call (.Name "range" p1) [e] [] p2) A [] p5::ss) D σ H:=
 aQ (qx hp hc (zk hg hm (aa he ag Kd) Kd) (gZ nd h.hi h.hx (.inl h.hf)) iH hf) (hv _ #[n,Gc,by lia,by lia,yh (n:=n) I h0 (λj σ H lt z=>by rw[Int.zero_add];exact hs j σ H lt z) hd])
end
structure LB (Z:Zx) (B:Hp) (L:E4) (l:EV Int):Prop where
 h:B L=Fa (.lst (l.map V.int))
 n:Z.N L=FB
 o:L≠Z.ol
inductive ahL (a:bf) (vs:EV V) (H:Hp) (Q:VK) (E:XK):Prop
 |mk {Z:Zx}{B:Hp}{U:EV EW}{en:Hb}{w:Gj}{n k:Fm}{x:EW}{e:Fc}{v:V}(_:vs=[.ref Z.x,v]) (_:Z.a=a) (_:Z.E=E) (_:cO Z 5 B H U en w n) (_:tI Z.a Z.M Z.N (x,e) v) (_:x∉U) (_:WS (x::U) Z.F0 e) (_:3*n+1<=k) (_: ∀c,Il k Z.S en x e (Jl Z.K.quarters) n= .error c->Qe Z c)
  (_: ∀l m B' H' L,Il k Z.S en x e (Jl Z.K.quarters) n= .ok (l,m)->m<=n->LB Z B' L l->cO Z 0 B' H' U en w m->Q (.ref L) H'):ahL a vs H Q E
theorem cO.q4 {B H:Hp}{w:Gj}(R:cO Z j B H U en w n):Z.K.quarters<=4:=by
 obtain⟨_,_,_,_,eb,_⟩:=R;exact eb.q4
theorem xi {e:Fc} :Il k S en x e (t::l) n=(match Ly k S ((x,(t:Int))::en) e n with
  | .error c=> .error c
  | .ok (a,m)=>match Il k S en x e l m with
   | .error c=> .error c
   | .ok (b,o)=> .ok (a::b,o)):=rfl
theorem wD {e:Fc} : ∀ {L:EV Fm}{n:Fm}{l:EV Int}{m:Fm},Il k S en x e L n= .ok (l,m)->l.length=L.length
 |[],n,l,m,h=>by
  unfold Il at h;cases h
  rfl
 |t::L,n,l,m,h=>by
  rw[xi] at h;cases h1:Ly k S ((x,(t:Int))::en) e n with
  |error c=>rw[h1] at h;cases h
  |ok z=>
   obtain⟨z1,z2⟩:=z;rw[h1] at h;dsimp only at h;cases h2:Il k S en x e L z2 with
   |error c=>rw[h2] at h;cases h
   |ok y=>
    rw[h2] at h;cases h;exact Ga (· +1) (wD h2)
theorem alP (T:aU K mg a) (XC:XW K a) (KX:mw K a) (Tc:9<=kl):T.d_D.O P w base (kl+1) (ahL a):=by
 refine fQ T.d_D.F agy [03] [02];obtain @⟨Z,B,U,en,w',n,k,x,e,v,rfl,rfl,rfl,R,⟨u,i,ex⟩,nx,ws,hk,er,q⟩:=h;have nd:=agy.nd;have Y:EX (e8 (fY P w) P w K mg base ["expansion","amounts","found","quarter"] "work_out_amounts" (af s_D) Z.a.f_D GF A outer s H Z.E) Z.a Z.E:=#[T,XC,KX,hr.mono Tc,aA];refine aN 2 nd (mr λL hL=>?_);obtain⟨hB,hN,hO⟩:=R.fresh hL;obtain⟨nn,kk,os,eb⟩: ∃nn kk os,EB Z B w' nn kk os:=by obtain⟨_,_,_,_,eb,_⟩:=R;exact#[_,_,_,eb]
 have R1:=R.new (o:= .lst []) (a0 hL) hL ae
 have q4:=R.q4;refine ED 3 Z.K.quarters IS nd T.Xd (ah [08] rfl) (λ_ q=>R1.mk2 T (R1.Xk T T.KO rfl q)) (by lia) (λt σ H=> ∃(done:EV Int) (m:Fm) (y:Fd V),σ=[Fa (.ref Z.x),Fa v,Fa (.ref L),y]/\done.length=t/\m<=n/\cO Z (5-t) (aF B L (.lst (done.map V.int))) H U en w' m/\(∀c,Il k Z.S en x e ((Jl Z.K.quarters).drop t) m= .error c->Qe Z c)/\ ∀l m',Il k Z.S en x e ((Jl Z.K.quarters).drop t) m= .ok (l,m')->Il k Z.S en x e (Jl Z.K.quarters) n= .ok (done++l,m')) #[[],n,FB,Gc,Gc,Fq n,R1,er,λ_ _ h=>h] ?_ ?_
 ·rintro t σ H3 lt ⟨done,m,y,rfl,dl,lm,R3,er3,q3⟩
  have dr:(Jl Z.K.quarters).drop t=t::(Jl Z.K.quarters).drop (t+1):=by rw[Hd (by rw[PQ];exact lt),EV.getElem_range]
  rw[dr] at er3 q3;rw[xi] at er3 q3;rw[show 5-t=(4-t)+1 by lia] at R3;refine bE (vS Y R3 [08] (λ_ q=>R3.wk T q) (ah (pv 1) rfl) (λ_ q=>i.fld R3.same T.OJ T.NP rfl q) (bC 3 #[_,(t:Int),w',m,Gc,R3,nx,by unfold dA Kc;lia,λH4 R4=>?_]) rfl rfl rfl);have hl4:H4 L=Fa (.lst (done.map V.int)):=by obtain⟨_,W,_,_,_,_⟩:=R4;exact W.O.same _ _ ae
  refine iJ (pv 2) [05] hl4 (n8 (k:=k) Y R4 [08] (λ_ q=>R4.wk T q) (ah (pv 1) rfl) (λ_ q=>i.fld R4.same T.OJ T.N6 rfl q) ex ws (by lia) (λc h=>er3 c (by rw[h])) (λz m5 H5 h hm _ R5=>?_) rfl rfl);rw[h] at er3 q3;dsimp only at er3 q3;have hl5:H5 L=Fa (.lst (done.map V.int)):=by obtain⟨_,W,_,_,_,_⟩:=R5;exact W.O.same _ _ ae
  refine#[_,hl5,by rw[Fh,dl,HP];lia,ga #[done++[z],m5,_,Gc,by rw[Ft,dl];rfl,by lia,?_,λc h=>er3 c (by rw[h]),λl m' h=>?_]]
  ·have R6:=(R5.unset nx R).chg (o':= .lst ((done++[z]).map V.int)) hB hN eb
   rw[GS] at R6 ⊢;rw[show 5-(t+1)=4-t by lia];exact R6
  ·rw[q3 (z::l) m' (by rw[h]),Gr]
   rfl
 ·rintro σ H3 ⟨done,m,y,rfl,dl,lm,R3,er3,q3⟩
  rw[JY (by rw[PQ];exact Fq _)] at q3;have:=q3 [] m rfl;rw[GL] at this;exact aL (bC 2 (q done m _ H3 L this lm #[ae,hN,hO] (R3.less (FI _))))
def zb (w:Gj):Fd EW->Except Int (Fd Fm)
 |none=> .ok FB
 |some u=>match w.names.find? λa=>a.1 == u with
  |some a=> .ok (Fa a.2)
  |none=> .error (-16)
def B6 (w:Gj) (o:Hx):Fd EW->Gj
 |some x=> { w with orders:=w.orders++[o],names:=(x,w.orders.length)::w.names }
 |none=> { w with orders:=w.orders++[o] }
inductive Yr (a:bf) (vs:EV V) (H:Hp) (Q:VK) (E:XK):Prop
 |mk {Z:Zx}{j:Fm}{B:Hp}{U:EV EW}{en:Hb}{w:Gj}{n:Fm}{fs:EV (FD×V)}{un:Fd EW}{v:V}(_:vs=[.ref Z.x,v]) (_:Z.a=a) (_:Z.E=E) (_:cO Z j B H U en w n) (_:bI Z.M Z.N Z.a.Ju fs v) (_:fs.lookup ("under":FD)=Fa (ig un)) (_: ∀c,zb w un= .error c->Qe Z c) (_: ∀p,zb w un= .ok p->Q (aa7 p) H):Yr a vs H Q E
theorem ahM (T:aU K mg a) (XC:XW K a):T.ZE.O P w base 4 (Yr a):=by
 refine fQ T.ZE.F agz [03] [02];obtain @⟨Z,j,B,U,en,w',n,fs,un,v,rfl,rfl,rfl,R,i,hl,er,q⟩:=h;have fl: ∀ {Q:VK},Q (ig un) H->dB K "under" Q v H:=λq=>i.fld R.same T.Kx T.N8 hl q
 have sm:=R.same;obtain⟨_,W,_,_,eb,_⟩:=R
 have nm: ∀ {Q:VK},Q (.ref _) H->dB K "named" Q (.ref Z.x) H:=λq=>#[Z.x,_,Z.dx,_,_,Gc,W.O.same _ _ eb.hx,T.Hn,T.JS,Gc,q]
 refine bH (Yp (ci (bC 1 (fl ?_)) rfl));cases un with
 |none=>exact cc (aL #[_,dL cK ak,_,Gc,q FB rfl])
 |some u=>
  have g:=gy.k (k:=nk u) (W.O.same _ _ eb.hn);rw[eb.pn] at g;refine bN (bH #[_,fD (iV (dn hr) (ah (pv 1) rfl) [08]),fl (nm #[_,_,Gc,g,_,Gc,?_])]);cases hf:w'.names.find? λa=>a.1 == u with
  |none=>exact cc (aQ (eW eB XC.ON (kM T XC) hr (by rfl) T.P4 T.Zm.c.b) #[FI _,_,#[Gc,Gc],er (-16) (by unfold zb;dsimp only;rw[hf]) H sm _ (.tail _ (.tail _ (.tail _ (.tail _ (.tail _ (.head _))))))])
  |some p=>
   rw[hf] at g;exact bN (aL #[_,jO (dn hr) [08] (ah (pv 1) rfl) [002],nm (fl #[_,_,Gc,g,q (Fa p.2) (by unfold zb;dsimp only;rw[hf])])])
inductive B8 (a:bf) (vs:EV V) (H:Hp) (Q:VK) (E:XK):Prop
 |mk {Z:Zx}{j:Fm}{B:Hp}{U:EV EW}{en:Hb}{w:Gj}{n:Fm}{v:V}{nm:Fd EW}{o:Hx}(_:vs=[.ref Z.x,ig nm,v]) (_:Z.a=a) (_:Z.E=E) (_:cO Z j B H U en w n) (_:jq Z.a Z.ol B v o) (_:48<=w.orders.length->Qe Z (-15)) (_:w.orders.length<48-> ∀B' H',cO Z j B' H' U en (B6 w o nm) n->Q .Iw H'):B8 a vs H Q E
theorem ahN (T:aU K mg a) (XC:XW K a):T.ZF.O P w base 5 (B8 a):=by
 refine fQ T.ZF.F agA [03] [02];obtain @⟨Z,j,B,U,en,w',n,v,nm,o,rfl,rfl,rfl,R,ho,h1,h2⟩:=h;refine bE (bL (aO (bC 0 (aO (bC 2 (cH (.mk rfl rfl rfl R ho h1 λlt B' H' R'=>?_)))))) (ahI T XC) hr T.d_W.c aA);have h2:=h2 lt;have nl:w'.names.length<=w'.orders.length:=by obtain⟨_,_,_,_,eb,_⟩:=R;exact eb.nl
 refine cw (cR D8 (bC 1 (mY #[Gc,_,Gc,?_])));cases nm with
 |none=>exact bN (cf (h2 _ _ R'))
 |some x=>
  obtain @⟨r,b,ff,d,s,nd,kk,os,FO,W,A,gs,eb,hj⟩:=R';have Ri:=W.O.same _ _ eb.ho;have kl:kk.length<=48:=FA eb.ln (FA eb.nl eb.le);have ne: ∀ {b:E4}{u:HO},B' b=Fa u->(∀k,u≠ .dK k)->aF B' nd (.dK (dy kk (nk x) (.int w'.orders.length))) b=Fa u:=λe n=>by rw[ac (qa e eb.hn (n _))];exact e
  have ni: ∀C d fs,fs.length=7->B' nd≠Fa (.ins C d fs):=λ_ _ _ _ z=>by rw[eb.hn] at z;cases z
  have Wx:EB Z (aF B' nd (.dK (dy kk (nk x) (.int w'.orders.length)))) (B6 w' o (Fa x)) nd (dy kk (nk x) (.int w'.orders.length)) os:=by
   refine#[λb u e=>by rw[ac λz=>by rw[z,eb.nx.2.2] at e;cases e];exact eb.sm b u e,ne eb.hx nofun,ne eb.hm nofun,ne eb.ho nofun,ae,eb.nx,dZ eb.po λv x z=>nj z ni (.inr λ_ z=>by rw[eb.hn] at z;cases z),eb.le,λu=>?_,FA (cD _ _ _) (Hu eb.ln),?_,eb.q4]
   ·rw[gE]
    show _=Fd.map _ (EV.find? _ ((x,w'.orders.length)::w'.names))
    rw[G6];by_cases hu:x=u
    ·rw[E7 (by rw[hu]),show(x == u)=FM from beq_iff_eq.mpr hu];rfl
    ·rw[E5 λz=>hu (ee (Jt z)).symm,show(x == u)=FS from beq_eq_false_iff_ne.mpr hu];exact eb.pn u
   ·show _+1<=(w'.orders++[o]).length;rw[Ft];exact Hu nl
  refine cc (eu (hZ (dn hr) [08] (pv 1) (bW cV (bv bB (by rfl) T.JW Hr (aa [08] ag)) ak) rfl) #[Z.x,_,Z.dx,_,_,Gc,W.O.same _ _ eb.hx,T.Hn,T.Ja,Gc,Z.ol,_,Gc, .inl (cC.of Ri),_,_,Gc,Gc,Z.x,_,Z.dx,_,_,Gc,W.O.same _ _ eb.hx,T.Hn,T.JS,Gc,nd,_,Gc,ug.k (k:=nk x) (W.O.same _ _ eb.hn) (by rw[HP];lia),?_]);have e:(os.length:Int)-1=w'.orders.length:=by rw[bj eb.po];show((w'.orders++[o]).length:Int)-1=_;rw[Ft];show((w'.orders.length+1:Fm):Int)-1=_;lia
  rw[e];exact h2 _ _ (cO.put FO W A gs hj eb.hn eb.nx.2.2 Wx)
theorem oP (h:Fw x 0 hi=FM):0<=x:=by unfold Fw at h;rw[GC,F5] at h;exact h.1
theorem BU {w:Gj}(h:(IK M z&&(Fw p M.lo M.hi&&(l.all (λq=>Fw q 0 IT)&&Fw g 0 9)))=FS):KJ M d nm b z p l un g w= .error (-14):=by unfold KJ;rw[E7 h]
theorem zA {w:Gj}(h: ¬(IK M z&&(Fw p M.lo M.hi&&(l.all (λq=>Fw q 0 IT)&&Fw g 0 9)))=FS) (h0:l.all (λq=>q == 0)=FM):KJ M d nm b z p l un g w= .ok w:=by unfold KJ;rw[E5 h,E7 h0]
theorem DB {w:Gj}(h: ¬(IK M z&&(Fw p M.lo M.hi&&(l.all (λq=>Fw q 0 IT)&&Fw g 0 9)))=FS) (h0: ¬l.all (λq=>q == 0)=FM):
  KJ M d nm b z p l un g w=(match zb w un with
   | .error c=> .error c
   | .ok par=>if 48<=w.orders.length then .error (-15) else .ok (B6 w (.block d z.toNat b p g.toNat par l) nm)):=by
 unfold KJ zb;rw[E5 h,E5 h0];unfold WI UI;cases un with
 |none=>
  dsimp only;split
  ·rename_i h;split at h<;>cases h;rename_i z;rw[E7 z]
  ·rename_i h;split at h<;>cases h;rename_i z;rw[E5 z];cases nm<;>rfl
 |some u=>
  dsimp only;cases w.names.find? λa=>a.1 == u with
  |none=>rfl
  |some a=>
   dsimp only;split
   ·rename_i h;split at h<;>cases h;rename_i z;rw[E7 z]
   ·rename_i h;split at h<;>cases h;rename_i z;rw[E5 z];cases nm<;>rfl
theorem wn: ∀ {l:EV Int},(∀q∈l,0<=q)->(0<l.sum ↔ ¬l.all (λq=>q == 0)=FM)/\0<=l.sum
 |[],_=>by simp
 |x::l,h=>by
  obtain⟨h1,h2⟩:=wn λq hq=>h q (E9 _ hq);have hx:=h x Fb;rw[YW,Ny,GC,beq_iff_eq];refine#[#[λz y=>h1.mp (by lia) y.2,λz=>?_],by lia];by_cases y:x=0
  ·have:=h1.mpr λw=>z #[y,w];lia
  ·lia
theorem ahO (T:aU K mg a) (XC:XW K a) (KX:mw K a) (Tc:10<=kl):T.ZD.O P w base (kl+1) (jQ a lv λs=> ∃nm b z p x q u g,s= .block nm b z p x q u g):=by
 refine wR T XC KX (Lj Tc) T.ZD.F Yb λGF A outer s H Z B U en w' n k dk sm v Q hr ha hd ho R sa wt hk er q=>?_;intro X D Y;subst ha;obtain⟨nm,b,ez,ep,x,eq,un,eg,rfl⟩:=ho;unfold a7 at sa;obtain⟨u1,u2,u3,u4,i,a1,a2,a3,a4⟩:=sa;unfold WT at wt;obtain⟨nx,w1,w2,w3,w4⟩:=wt;generalize GH:IJ (k+1) Z.S Z.K dk en (.block nm b ez ep x eq un eg) w' n=res at er q;unfold IJ at GH;dsimp only at GH;have nd:=Yb.nd;refine aN 2 nd (ci (bC 0 (R.wk T ?_)) rfl);refine gt (k:=k) 3 2 Y nd R rfl rfl i T.Kx T.OE rfl a1 w1 (by lia) (λc h=>er c (by rw[<-GH,h])) λz n1 H h l1 _ R=>?_;rw[h] at GH;dsimp only at GH;refine gt (k:=k) 4 2 Y nd R rfl rfl i T.Kx T.N7 rfl a2 w2 (by lia) (λc h=>er c (by rw[<-GH,h])) λp n2 H h l2 _ R=>?_;rw[h] at GH;dsimp only at GH;refine aN 5 nd (bL (aO (bC 0 (aO (ci (bC 1 (i.fld R.same T.Kx T.Nl rfl (cH (.mk (k:=k) rfl rfl rfl R a3 nx w3 (by lia) (λc h=>er c (by rw[<-GH,h])) λl n3 B H L h l3 hL R=>?_)))) rfl)))) (alP T XC KX (Fq 9)) (hr.mono Tc) T.d_D.c aA);have ll:l.length<=4:=by
  obtain⟨_,_,_,_,eb,_⟩:=R;rw[wD h,PQ];exact eb.q4
 rw[h] at GH;dsimp only at GH;refine aN 6 nd (Yq (k:=k) Y R (pv 2) [05] (ah (pv 1) rfl) (λ_ q=>i.fld R.same T.Kx T.Mo rfl q) (ah (pv 1) rfl) (λ_ q=>i.fld R.same T.Kx T.Mo rfl q) ak [05] a4 w4 (by lia) (λc h=>er c (by rw[<-GH,h])) (λg n4 H h l4 R=>?_) rfl (d9 rfl rfl));rw[h] at GH;dsimp only at GH;have bad:(IK Z.K z&&(Fw p Z.K.lo Z.K.hi&&(l.all (λq=>Fw q 0 IT)&&Fw g 0 9)))=FS->Qe Z (-14):=λh=>er (-14) (by rw[<-GH,BU h])
 refine oX Y R (pv 3) ak (bW cV (ah [08] rfl) ak) [05] [05] (λ_ q=>R.mk2 T (R.Xk T T.LR rfl #[_,_,Gc,Gc,q])) (λh=>bad (by unfold IK;rw[h];rfl)) λc1=>?_;refine oX Y R (pv 4) (ah [08] rfl) (ah [08] rfl) [05] (λ_ q=>R.mk2 T (R.Xk T T.M5 rfl q)) (λ_ q=>R.mk2 T (R.Xk T T.K5 rfl q)) (λh=>bad (by rw[h,IW,HY])) λc2=>?_;have hL':H L=Fa (.lst (l.map V.int)):=by obtain⟨_,W,_,_,_,_⟩:=R;exact W.O.same _ _ hL.h
 refine jW 7 IS nd (pv 5) [05] (λj σ H'=>H'=H/\(∃y,σ=[Fa (.ref Z.x),Fa v,Fa (.ref Z.c.wk),Fa (.int z),Fa (.int p),Fa (.ref L),Fa (.int g),y,FB,FB])/\ ∀q∈l.take j,Fw q 0 IT=FM) #[Gc,#[_,Gc],by rw[Q8];exact nofun] (λj σ H' _ h=>by rw[h.1];exact hL') ?_ ?_
 ·rintro j y σ H' hj ⟨rfl,⟨y',rfl⟩,ha⟩
  rw[Gf] at hj;obtain⟨c,hc,rfl⟩:=F4.mp hj;refine oX Y R (pv 7) ak (aR (by rfl) T.OG) [05] [05] [05] (λh=>bad ?_) λc3=>ga #[Gc,#[_,Gc],λq hq=>?_]
  ·rw[show l.all (λq=>Fw q 0 IT)=FS by
    rw[EV.all_eq_false];exact#[c,GP hc,by rw[show Fw c 0 IT=FS from h];exact EZ],IW,HY,HY]
  ·rw[J9,hc] at hq
   rcases FK.mp hq with z|z
   ·exact ha q z
   ·rw[Fz.mp z];exact c3
 ·rintro σ H' ⟨rfl,⟨y',rfl⟩,ha⟩
  rw[Fh,Ko] at ha;refine oX Y R (pv 6) ak (aR (by rfl) T.RG) [05] [05] [05] (λh=>bad (by rw[h,HY,HY,HY])) λc4=>?_;have al:l.all (λq=>Fw q 0 IT)=FM:=LJ.mpr ha
  have good: ¬(IK Z.K z&&(Fw p Z.K.lo Z.K.hi&&(l.all (λq=>Fw q 0 IT)&&Fw g 0 9)))=FS:=λh=>by
   rw[show IK Z.K z=FM from c1,c2,al,c4] at h;cases h
  obtain⟨sp,_⟩:=wn (l:=l) λq hq=>oP (ha q hq);refine cw (cR gk #[_,bv (aar rfl) (by rfl) T.afa boot_sum (aa (pv 5) ag),L,l,Gc,cC.of hL',cN #[_,_,Gc,Gc,_,Gc,dC (λh=>?_) λh=>?_]])
  ·rw[DB good (sp.mp h)] at GH
   refine aN 8 nd (bL (aO (bC 0 (aO (bC 1 (cH (.mk rfl rfl rfl R i rfl (λc h=>er c (by rw[<-GH,h])) λpar h=>?_)))))) (ahM T XC) (hr.mono (by lia)) T.ZE.c aA);rw[h] at GH;dsimp only at GH;refine aN 9 nd #[_,aJ (ahJ T) (hr.mono (by lia)) (by rfl) T.d_M.c aV (aa (ah (pv 1) rfl) ag),i.fld R.same T.Kx T.OD rfl #[b,Gc,?_]];refine fk (bL (aO (bC 0 (aO (ci (bC 1 (i.fld R.same T.Kx T.OC rfl ?_)) rfl)))) (ahN T XC) (hr.mono (by lia)) T.ZF.c aA) rfl;refine aO (aa8 (o8 T) (hr.mono (by lia)) (aO (ci (bC 0 (R.dk T ?_)) rfl)));refine aO (bC 3 (aO (bC 9 (aO (bC 4 (aO (bC 6 (aO (bC 8 (aO (bC 5 (cH #[Gc,λy dx H2 hy sm e=>cH ?_]))))))))))));have hB:=(R.fresh hy).1;refine .mk (nm:=nm) (o:= .block dk z.toNat b p g.toNat par l) rfl rfl rfl (R.new sm hy e) #[L,hL.o,#[y,dx,Gc,λz=>z,?_],?_,ll] (λh=>er (-15) (by rw[<-GH,E7 h])) λh B' H' R'=>q _ n4 H' (by rw[<-GH,E5 (Fm.not_le.mpr h)]) (by lia) #[R'.less (FI _)]
   ·rw[ae,hd,Mv (oP c1),Mv (oP c4)]
    rfl
   ·rw[ac (aj hL.h hB)];exact hL.h
  ·rw[zA good (Classical.byContradiction λz=>h (sp.mpr z))] at GH
   exact cf (q _ n4 H' GH.symm (by lia) #[R.less (FI _)])
section
open Vbemac (ev runOne)
def uq (k:Fm) (S:HM) (M:J3) (d:Fm) (v:Hb) (s:GR) (w:Gj) (n:Fm):Vbemac.Res (Hb×Gj):=match s with
 | .bind x e=>(match ev k S v e n with
  | .error c=> .error c
  | .ok (a,m)=> .ok (((x,a)::v,w),m))
 |s=>(match runOne k S M d v s w n with
  | .error c=> .error c
  | .ok (u,m)=> .ok ((v,u),m))
theorem BE {w:Gj} :JB (k+1) S M d v (.cons s r) w (n+1)=(match uq k S M d v s w n with
  | .error c=> .error c
  | .ok (x,m)=>JB k S M d x.1 r x.2 m):=by
 conv=>lhs;unfold JB
 unfold uq;cases s<;>dsimp only
 ·cases ev k S v _ n<;>rfl
 all_goals cases runOne k S M d v _ w n<;>rfl
inductive DN (S:HM) (U:EV EW) (en:Hb):EV EW->Hb->Prop
 |refl:DN S U en U en
 |cons {U':EV EW}{TV:Hb}{x:EW}{z:Int}(_:DN S U en U' TV) (_:x∉U') (_: ∀y,dA (QR TV y)) (_: ∀y∈S.consts.map (·.1),y∈U'):DN S U en (x::U') ((x,z)::TV)
theorem cO.back {Z:Zx}{U:EV EW}{en:Hb}{U':EV EW}{TV:Hb}(x:DN Z.S U en U' TV): ∀ {j n:Fm}{B H:Hp}{w:Gj},cO Z j B H U' TV w n->cO Z j B H U en w n:=by
 induction x with
 |refl=>exact λR=>R
 |cons _ ny bg lo ih=>
  intro j n B H w R;obtain⟨FO,W,A,gs,eb,hj⟩:=R;exact ih #[FO,W,A.unset ny bg λ_=>lo,gs,eb,hj]
theorem cO.ext {B H:Hp}{w:Gj}(E:DN Z.S U en U' TV) (R:cO Z j B H U' TV w n) (ny:x∉U'):DN Z.S U en (x::U') ((x,z)::TV):=by
 obtain⟨_,_,A,_,_,_⟩:=R;exact .cons E ny A.big (A.low rfl)
inductive B9 (K:E1) (a:bf) (vs:EV V) (H:Hp) (Q:VK) (E:XK):Prop
 |mk {Z:Zx}{j:Fm}{B:Hp}{U:EV EW}{en:Hb}{w:Gj}{n k:Fm}{C:E4}{x:EW}{e:Fc}{u v:V}(_:vs=[.ref Z.c.wk,v]) (_:Z.a=a) (_:Z.E=E) (_:cO Z (j+1) B H U en w n) (_:bI Z.M Z.N C [("name", .str (sb x)),("exp",u)] v) (_:gI K C) (_:ao K C "name") (_:ao K C "exp") (_:au Z.a Z.M Z.N e u) (_:x∉U) (_:WS U Z.F0 e) (_:3*n+1<=k) (_: ∀c,ev k Z.S en e n= .error c->Qe Z c) (_: ∀y m H',ev k Z.S en e n= .ok (y,m)->m<n->dA y->cO Z j B H' (x::U) ((x,y)::en) w m->Q .Iw H'):B9 K a vs H Q E
theorem ahP (T:aU K mg a) (XC:XW K a) (KX:mw K a) (Tc:9<=kl):T.d_x.O P w base (kl+1) (B9 K a):=by
 refine fQ T.d_x.F ak6 [03] [02];obtain @⟨Z,j,B,U,en,w',n,k,C,x,e,u,v,rfl,rfl,rfl,R,i,cl,n1,n2,ex,nx,ws,hk,er,q⟩:=h;have Y:EX (e8 (fY P w) P w K mg base ["worker","given"] "give_value" (af s_x) Z.a.f_x GF A outer s H Z.E) Z.a Z.E:=#[T,XC,KX,hr.mono Tc,aA];exact fk (vS Y R (pv 0) [05] (ah (pv 1) rfl) (λ_ q=>i.fld R.same cl n1 rfl q) (n8 (k:=k) Y R (pv 0) [05] (ah (pv 1) rfl) (λ_ q=>i.fld R.same cl n2 rfl q) ex ws hk er (λy m H' h hm hb R'=>#[B,y,w',m,Gc,R',nx,hb,λH2 R2=>q y m H2 h hm hb R2]) rfl (d9 rfl rfl)) rfl rfl (d9 rfl rfl)) rfl
inductive sA (a:bf) (lv:Fm) (vs:EV V) (H:Hp) (Q:VK) (E:XK):Prop
 |mk {Z:Zx}{j:Fm}{B:Hp}{U:EV EW}{en:Hb}{w:Gj}{n k dk:Fm}{l:IQ}{v:V}(_:vs=[.ref Z.x,v]) (_:Z.a=a) (_:Z.E=E) (_:Z.d=dk) (_:cO Z j B H U en w n) (_:ot Z.a Z.M Z.N l v) (_:zG lv U Z.F0 l) (_:3*n+2<=k) (_: ∀c,JB k Z.S Z.K dk en l w n= .error c->Qe Z c) (_: ∀u m B' H',JB k Z.S Z.K dk en l w n= .ok (u,m)->m<=n->cO Z 0 B' H' U en u m->Q .Iw H'):sA a lv vs H Q E
inductive CO (a:bf) (lv:Fm) (vs:EV V) (H:Hp) (Q:VK) (E:XK):Prop
 |mk {Z:Zx}{B:Hp}{U:EV EW}{en:Hb}{w:Gj}{n k dk:Fm}{st:GR}{v:V}(_:vs=[.ref Z.x,v]) (_:Z.a=a) (_:Z.E=E) (_:Z.d=dk) (_:cO Z 5 B H U en w n) (_:a7 Z.a Z.M Z.N st v) (_:WT lv U Z.F0 st) (_:3*n+4<=k) (_: ∀c,uq k Z.S Z.K dk en st w n= .error c->Qe Z c) (_: ∀x m B' H',uq k Z.S Z.K dk en st w n= .ok (x,m)->m<=n->cO Z 0 B' H' (bnd U st) x.1 x.2 m->(∀ {U0 en0},DN Z.S U0 en0 U en->DN Z.S U0 en0 (bnd U st) x.1)->Q .Iw H'):CO a lv vs H Q E
theorem alQ (T:aU K mg a) (XC:XW K a) (KX:mw K a) (Tc:9<=kl) (G:T.WN.O P w base kl (sA a (lv-1))):T.d_C.O P w base (kl+1) (jQ a lv λs=> ∃c x y,s= .cond c x y):=by
 refine wR T XC KX Tc T.d_C.F agw λGF A outer s H Z B U en w' n k dk sm v Q hr ha hd ho R sa wt hk er q=>?_;intro X D Y;subst ha;obtain⟨ec,l1,l2,rfl⟩:=ho;unfold a7 at sa;obtain⟨u,q1,us,q2,vs,i,ex,h1,h2,h3,h4⟩:=sa;unfold WT at wt;obtain⟨w1,lv1,w2,w3⟩:=wt;generalize GH:runOne (k+1) Z.S Z.K dk en (.cond ec l1 l2) w' n=res at er q;unfold runOne at GH;dsimp only at GH;refine cw (cR py (n8 (k:=k) Y R [08] (λ_ q=>R.wk T q) (ah (pv 1) rfl) (λ_ q=>i.fld R.same T.So T.NN rfl q) ex w1 (by lia) (λc h=>er c (by rw[<-GH,h])) (λz m H h hm _ R=>cN #[Gc,_,Gc,?_]) rfl rfl));rw[h] at GH;dsimp only at GH;rw[cj,<-decide_not];refine dC (λhz=>?_) λhz=>?_
 ·rw[E7 hz] at GH
  exact fk (bL (aO (bC 0 (aO (ci (bC 1 (i.fld R.same T.So T.Nk rfl (cH (.mk (k:=k) rfl rfl rfl hd R #[us,h1,h2] w2 (by lia) (λc h=>er c (GH.symm.trans h)) λu m' B' H' h PM R'=>q u m' H' (GH.symm.trans h) (by lia) #[R'])))) rfl)))) G hr T.WN.c aA) rfl
 ·rw[E5 hz] at GH
  exact fk (bL (aO (bC 0 (aO (ci (bC 1 (i.fld R.same T.So T.Lh rfl (cH (.mk (k:=k) rfl rfl rfl hd R #[vs,h3,h4] w3 (by lia) (λc h=>er c (GH.symm.trans h)) λu m' B' H' h PM R'=>q u m' H' (GH.symm.trans h) (by lia) #[R'])))) rfl)))) G hr T.WN.c aA) rfl
end
def stx:GR->Fm
 | .bind .. =>7
 | .loop .. =>8
 | .cond .. =>9
 | .step .. =>10
 | .block .. =>11
theorem Bv {a:bf}{M:E4->Prop}{H:Hp}(h:a7 a M H s v):Nd1 a M H (stx s) v:=by
 cases s<;>unfold a7 at h
 ·obtain⟨_,h,_⟩:=h;exact#[h,Gc]
 ·obtain⟨_,_,_,_,h,_⟩:=h;exact#[h,Gc]
 ·obtain⟨_,_,_,_,_,h,_⟩:=h;exact#[h,Gc]
 ·obtain⟨_,_,_,_,_,h,_⟩:=h;exact#[h,Gc]
 ·obtain⟨_,_,_,_,h,_⟩:=h;exact#[h,Gc]
theorem alR (T:aU K mg a) (XC:XW K a) (KX:mw K a) (Tc:9<=kl) (G:T.WN.O P w base kl (sA a (lv-1))):T.d_y.O P w base (kl+1) (jQ a lv λs=> ∃x lo hi l,s= .loop x lo hi l):=by
 refine wR T XC KX Tc T.d_y.F aaG λGF A outer s H Z B U en w' n k dk sm v Q hr ha hd ho R sa wt hk er q=>?_;intro X D Y;subst ha;obtain⟨x,lo,hi,l,rfl⟩:=ho;unfold a7 at sa;obtain⟨u1,u2,ql,us,i,a1,a2,h1,h2⟩:=sa;unfold WT at wt;obtain⟨nx,w1,w2,lv1,w3⟩:=wt;generalize GH:IJ (k+1) Z.S Z.K dk en (.loop x lo hi l) w' n=res at er q;unfold IJ at GH;dsimp only at GH;have nd:=aaG.nd;refine aN 2 nd (ci (bC 0 (R.wk T ?_)) rfl);refine gt (k:=k) 3 2 Y nd R rfl rfl i T.PH T.O6 rfl a1 w1 (by lia) (λc h=>er c (by rw[<-GH,h])) λt n1 H h l1 bt R=>?_;rw[h] at GH;dsimp only at GH;refine gt (k:=k) 4 2 Y nd R rfl rfl i T.PH T.P9 rfl a2 w2 (by lia) (λc h=>er c (by rw[<-GH,h])) λlast n2 H h l2 bl R=>?_;rw[h] at GH;dsimp only at GH;clear h;refine fW IS (λi σ H=> ∃(t:Int) (B:Hp) (w'':Gj) (k:Fm),σ=[Fa (.ref Z.x),Fa v,Fa (.ref Z.c.wk),Fa (.int t),Fa (.int last)]/\ -Kc<=t/\i<=n/\3*i+3<=k/\cO Z 0 B H U en w'' i/\Wj k Z.S Z.K dk en x t last l w'' i=res) n2 #[t,B,w',k,Gc,bt.1,by lia,by lia,R.less (FI _),GH] ?_;rintro m σ H3 ⟨t,B,w3',k,rfl,bt,hm,hk,R,GH⟩;obtain⟨k,rfl⟩: ∃k',k=k'+1:=#[k-1,by lia];unfold Wj at GH;refine cR eP (bC 3 (bC 4 #[_,_,Gc,Gc,_,Gc,dC (λz=>?_) λz=>?_]))
 ·rw[E5 (by lia)] at GH
  refine bE (vL Y R (pv 2) [05] [01] (λh=>er (-13) (by rw[<-GH,h])) (λm' H' h R'=>?_) (d9 rfl rfl));subst h;dsimp only at GH;refine bE (vS (j:=4) Y R' (pv 2) [05] (ah (pv 1) rfl) (λ_ q=>i.fld R'.same T.PH T.P8 rfl q) (bC 3 #[_,t,w3',m',Gc,R',nx,#[bt,Int.le_trans z bl.2],λH2 R2=>?_]) rfl rfl (d9 rfl rfl));refine bE (bL (aO (bC 0 (aO (ci (bC 1 (i.fld R2.same T.PH T.MN rfl (cH (.mk (k:=k) rfl rfl rfl hd R2 #[us,h1,h2] w3 (by lia) (λc h=>er c (by rw[<-GH,h])) λu m2 B2 H4 h hm2 R4=>?_)))) rfl)))) G hr T.WN.c aA);rw[h] at GH;dsimp only at GH;exact aQ (ld (i:=3) nd rfl (GO rfl) ak kR) #[_,Gc,_,_,Gc,Gc,cf #[m2,by lia,t+1,B2,u,k,Gc,by lia,by lia,by lia,R4.unset nx R,GH]]
 ·rw[E7 (by lia)] at GH
  exact cf (q w3' m H3 GH.symm hm #[R])
theorem BD {w:Gj}(h:stx s≠7):uq k S M d v s w n=(match IJ k S M d v s w n with
  | .error c=> .error c
  | .ok (u,m)=> .ok ((v,u),m))/\ ∀U,bnd U s=U:=by
 cases s<;>first|exact Fv rfl h|exact#[Gc,λ_=>rfl]
theorem ahQ (T:aU K mg a) (XC:XW K a) (KX:mw K a) (Tc:11<=kl)
  (G1:T.d_y.O P w base kl (jQ a lv λs=> ∃x lo hi l,s= .loop x lo hi l))
  (G2:T.d_C.O P w base kl (jQ a lv λs=> ∃c x y,s= .cond c x y)):
  T.d_V.O P w base (kl+1) (CO a lv):=by
 refine okL T.d_V.F ak7 [03] [02];intro X D;obtain @⟨Z,B,U,en,w',n,k,dk,st,v,rfl,rfl,rfl,hd,R,sa,wt,hk,er,q⟩:=h;have nd:=Bv sa;have one: ∀ {ok:GR->Prop},ok st->stx st≠7->jQ Z.a lv ok [.ref Z.x,v] H (λ_ H'=>Q .Iw H') Z.E:=λho h7=>by
  obtain⟨e1,e2⟩:=BD (k:=k) (S:=Z.S) (M:=Z.K) (d:=dk) (v:=en) (w:=w') (n:=n) h7;refine .mk (k:=k) rfl rfl rfl hd ho R sa wt hk (λc h=>er c (by rw[e1,h])) λu m H' h hm ⟨R'⟩=>q (en,u) m _ H' (by rw[e1,h]) hm (by rw[e2];exact R') λx=>by rw[e2];exact x
 have is: ∀ {cl:FD}{C:E4}{A' TQ:EV Stmt}{p1 p2 p3 p4 p5:Pos}(j:Fm),mg cl=Fa (.ref C)->(yO Z.a)[j]?=Fa C->Gl X cl->(cl == [003])=FS->(stx st=j->Bd X A' D [Fa (.ref Z.x),Fa v] H)->(stx st≠j->Bd X TQ D [Fa (.ref Z.x),Fa v] H)->Bd X [.If (.Call (.Name "isinstance" p1) [.Name "statement" p2, .Name cl p3] [] p4) A' TQ p5] D [Fa (.ref Z.x),Fa v] H:=λj hm hj hg hx yes no=>cw (uH KX T.K7 nd R.same hj hm (pv 1) [05] (dC yes no) (by rfl) hg hx)
 refine is 7 T.Tu rfl rfl [01] (λz=>?_) λz7=>?_
 ·cases st<;>first|cases z|skip
  rename_i x e;unfold a7 at sa;obtain⟨u,i,ex⟩:=sa;unfold WT at wt;refine fk (bL (aO (ci (bC 0 (R.wk T (aO (bC 1 (cH (.mk (k:=k) (j:=4) rfl rfl rfl R i T.Ry T.N4 T.QC ex wt.1 wt.2 (by lia) (λc h=>er c (by unfold uq;dsimp only;rw[h])) λy m H' h hm hb R'=>?_)))))) rfl)) (ahP T XC KX (Fq 9)) (hr.mono (by lia)) T.d_x.c aA) rfl;exact q ((x,y)::en,w') m _ H' (by unfold uq;dsimp only;rw[h]) (by lia) (R'.less (FI _)) λX=>cO.ext X R wt.1
 refine is 8 T.VN rfl rfl [01] (λz=>?_) λz8=>?_
 ·exact fk (bL (aO (bC 0 (aO (bC 1 (cH (one (by cases st<;>first|exact#[_,_,_,_,Gc]|cases z) z7)))))) G1 hr T.d_y.c aA) rfl
 refine is 9 T.XG rfl rfl [01] (λz=>?_) λz9=>?_
 ·exact fk (bL (aO (bC 0 (aO (bC 1 (cH (one (by cases st<;>first|exact#[_,_,_,Gc]|cases z) z7)))))) G2 hr T.d_C.c aA) rfl
 refine is 10 T.Uh rfl rfl [01] (λz=>?_) λz10=>?_
 ·exact fk (bL (aO (bC 0 (aO (bC 1 (cH (one (by cases st<;>first|exact#[_,_,_,_,_,_,Gc]|cases z) z7)))))) (ahK T XC KX (Fq 9)) (hr.mono (by lia)) T.ZC.c aA) rfl
 exact fk (bL (aO (bC 0 (aO (bC 1 (cH (one (by cases st<;>first|exact#[_,_,_,_,_,_,_,_,Gc]|exact Fv rfl z7|exact Fv rfl z8|exact Fv rfl z9|exact Fv rfl z10) z7)))))) (ahO T XC KX (Fq 10)) (hr.mono Tc) T.ZD.c aA) rfl
theorem ahR (T:aU K mg a) (XC:XW K a) (KX:mw K a) (Tc:9<=kl) (G:T.d_V.O P w base kl (CO a lv)):
  T.WN.O P w base (kl+1) (sA a lv):=by
 refine okL T.WN.F agv [03] [02];intro X D;obtain @⟨Z,j,B,U,en,w',n,k,dk,l,v,rfl,rfl,rfl,hd,R,⟨us,⟨L,rfl,_,hL⟩,sa⟩,wt,hk,er,q⟩:=h;have Y:EX X Z.a Z.E:=#[T,XC,KX,hr.mono Tc,aA];generalize GH:JB k Z.S Z.K dk en l w' n=res at er q;refine jW 2 IS agv.nd (pv 1) [05] (λi σ H=> ∃(U':EV EW) (TV:Hb) (B:Hp) (w'':Gj) (n' k':Fm) (r:IQ) (y:Fd V),σ=[Fa (.ref Z.x),Fa (.ref L),y]/\DN Z.S U en U' TV/\cO Z 0 B H U' TV w'' n'/\bF Z.a Z.M Z.N r (us.drop i)/\zG lv U' Z.F0 r/\3*n'+2<=k'/\n'<=n/\JB k' Z.S Z.K dk TV r w'' n'=res) #[U,en,B,w',n,k,l,_,Gc, .refl,R.less (FI _),sa,wt,hk,Fq n,GH] (λi σ H _ ⟨_,_,_,_,_,_,_,_,_,_,R,_⟩=>R.same _ _ hL) ?_ ?_
 ·rintro i v σ H2 hi ⟨U',TV,B,w2,n2,k2,r,y,rfl,xt,R,sa,wt,hk,hn,GH⟩
  obtain⟨lt,hv⟩:=FZ.mp hi;rw[Hd lt,hv] at sa;cases r with
  |nil=>unfold bF at sa;cases sa
  |cons st r=>
  unfold bF at sa;obtain⟨u,vs,e,s1,s2⟩:=sa;cases e;unfold zG at wt;obtain⟨k,rfl⟩: ∃k',k2=k'+1:=#[k2-1,by lia];refine bE (vL Y R [08] (λ_ q=>R.wk T q) [01] (λh=>er (-13) (by rw[<-GH,h];unfold JB;rfl)) (λm' H' h R'=>?_) rfl);subst h;rw[BE] at GH;refine bE (bL (aO (bC 0 (aO (bC 2 (cH (.mk (k:=k) rfl rfl rfl hd R' s1 wt.1 (by lia) (λc h=>er c (by rw[<-GH,h])) λx m B' H' h hm R2 xt'=>?_)))))) G hr T.d_V.c aA);rw[h] at GH;exact ga #[_,x.1,B',x.2,m,k,r,_,Gc,xt' xt,R2,s2,wt.2,by lia,by lia,GH]
 ·rintro σ H2 ⟨U',TV,B,w2,n2,k2,r,y,rfl,xt,R,sa,wt,hk,hn,GH⟩
  rw[JY (Fq _)] at sa;cases r with
  |cons st r=>unfold bF at sa;obtain⟨_,_,e,_⟩:=sa;cases e
  |nil=>
  obtain⟨k,rfl⟩: ∃k',k2=k'+1:=#[k2-1,by lia];unfold JB at GH;exact cf (q w2 n2 B H2 GH.symm hn (R.back xt))
theorem AM (T:aU K mg a) (XC:XW K a) (KX:mw K a): ∀lv,T.WN.O P w base (13+3*lv) (sA a lv)
 |0=>ahR T XC KX (by decide) (ahQ T XC KX (Fq 11)
   (fQ T.d_y.F aaG (λvs H Q E h=>by obtain⟨rfl,_⟩:=h;rfl) λGF A outer s H vs Q E hr h=>by
    obtain⟨_,_,_,_,⟨x,lo,hi,l,rfl⟩,_,_,wt,_⟩:=h;unfold WT at wt;exact Fv wt.2.2.2.1 [01])
   (fQ T.d_C.F agw (λvs H Q E h=>by obtain⟨rfl,_⟩:=h;rfl) λGF A outer s H vs Q E hr h=>by
    obtain⟨_,_,_,_,⟨c,x,y,rfl⟩,_,_,wt,_⟩:=h;unfold WT at wt;exact Fv wt.2.1 [01]))
 |lv+1=>by
  have G:=AM T XC KX lv
  have:=ahR T XC KX (by lia) (ahQ T XC KX (by lia) (alR (lv:=lv+1) T XC KX (by lia) G) (alQ (lv:=lv+1) T XC KX (by lia) G));exact this.mono (by lia)
section
open Vbemac (ev runAll DOWN)
def A3 (M:J3) (t:Ha) (d:Fm) (S:HM) (l:EV Hx) (n:Fm):Vbemac.Res (Fm×HM×EV Hx):=match t with
 | .const x e=>(match n with
  |0=> .error (-13)
  |n+1=>match ev DOWN S S.consts e n with
   | .error c=> .error c
   | .ok (a,m)=> .ok ((d,{ S with consts:=(x,a)::S.consts },l),m))
 | .func x ps e=> .ok ((d,{ S with funs:=(x,ps,e)::S.funs },l),n)
 | .desk _ b=>match runAll DOWN S M d S.consts b ⟨l,[]⟩ n with
  | .error c=> .error c
  | .ok (w,m)=> .ok ((d+1,S,w.orders),m)
theorem yq {d n:Fm} :MY M (t::r) d S l n=(match A3 M t d S l n with
  | .error c=> .error c
  | .ok (x,m)=>MY M r x.1 x.2.1 x.2.2 m):=by
 conv=>lhs;unfold MY
 unfold A3;cases t with
 |const x e=>
  cases n with
  |zero=>rfl
  |succ n=>dsimp only;cases ev DOWN S S.consts e n<;>rfl
 |func x ps e=>rfl
 |desk x b=>dsimp only;cases runAll DOWN S M d S.consts b #[l,[]] n<;>rfl
theorem ahS {s:fz} :look [s] x=s x:=by
 show(match s x with|some a=>Fa a|none=>s x)=s x
 cases s x<;>rfl
abbrev Zx.to (Z:Zx) (S:HM) (F:EV (EW×Fm)) (d:Int):Zx:= { Z with S:=S,F0:=F,d:=d }
theorem yD {Z:Zx}{j n:Fm}{B H:Hp}{U:EV EW}{w:Gj}(R:cO Z j B H (x::U) ((x,y)::Z.S.consts) w n) (lo: ∀z∈Z.S.consts.map (·.1),z∈U):cO (Z.to { Z.S with consts:=(x,y)::Z.S.consts } Z.F0 Z.d) j B H (x::U) ((x,y)::Z.S.consts) w n:=by
 obtain @⟨r,b,ff,d,s,nd,kk,os,FO,W,A,gs,eb,hj⟩:=R;have sub: ∀z∈(((x,y)::Z.S.consts).map λa:EW×Int=>a.1),z∈x::U:=λz hz=>by
  rcases Fi.mp hz with h|h
  ·rw[h];exact Fb
  ·exact E9 _ (lo z h)
 refine#[#[λf p hf=>?_,A.big],W,#[A.val,λz hz=>?_,λ_=>sub,A.big],gs,#[eb.sm,eb.hx,eb.hm,eb.ho,eb.hn,eb.nx,eb.po,eb.le,eb.pn,eb.ln,eb.nl,eb.q4],hj]
 ·rcases FO.all f p hf with⟨g,h1,h2,⟨Kg,Fg,h3,h4,h5⟩,h6,h7⟩|h
  ·exact .inl #[g,h1,h2,#[Kg,Fg,h3,λz hz=>E9 _ (h4 z hz),h5],h6,h7]
  ·exact .inr h
 ·have:=A.val z (sub z hz)
  rw[ahS] at this;exact this
theorem gB {α:Type}{F:EV (EW×α)}{x f:EW}{y:α} :(((x,y)::F).find? λh=>h.1 == f)=if x=f then Fa (x,y) else F.find? λh=>h.1 == f:=by
 rw[G6];by_cases h:x=f
 ·rw[E7 h,show((x,y).1 == f)=FM from beq_iff_eq.mpr h]
 ·rw[E5 h,show((x,y).1 == f)=FS from beq_eq_false_iff_ne.mpr h]
theorem yB {S:HM}{F:EV (EW×Fm)}{x:EW}{ps:EV EW}{e:Fc}{U:EV EW}(FO:gz S F) (nx: ∀g∈F,g.1≠x) (nd:ps.Nodup) (l6:ps.length<=6) (ws:WS (ps++U) F e) (vc: ∀z∈U,z∈S.consts.map (·.1)):gz { S with funs:=(x,ps,e)::S.funs } ((x,ps.length)::F):=by
 have sub:Sub F ((x,ps.length)::F):=λf p h=>by
  rw[gB,E5 λz=>nx p (Kq h) (by have:=QQ h;rw[z];exact beq_iff_eq.mp this)];exact h
 refine#[λf p hf=>?_,FO.ahq];rw[gB] at hf;by_cases h:x=f
 ·rw[E7 h] at hf
  cases hf;exact .inl #[(x,ps,e),by show EV.find? _ ((x,ps,e)::S.funs)=_;rw[gB,E7 h],Gc,#[U,F,ws,vc,sub],nd,l6]
 ·rw[E5 h] at hf
  have e1:(((x,ps,e)::S.funs).find? λh=>h.1 == f)=S.funs.find? λh=>h.1 == f:=by rw[gB,E5 h]
  rcases FO.all f p hf with⟨g,h1,h2,⟨Kg,Fg,h3,h4,h5⟩,h6,h7⟩|⟨h1,h2⟩
  ·exact .inl #[g,e1.trans h1,h2,#[Kg,Fg,h3,h4,λf p h=>sub f p (h5 f p h)],h6,h7]
  ·exact .inr #[e1.trans h1,h2]
section
variable {B H:Hp}{w:Gj}
theorem EB.ahT {nd Vo:E4}{kk kk':EV (a8×V)}{os:EV V}{w':Gj}{d':Int}(eb:EB Z B w nd kk os) (hn:aF B Z.x (.ins Z.a.Ge Z.dx (xF Z.m Z.c.wk Z.ol d' Vo)) Vo=Fa (.dK kk')) (hN:Z.N Vo=FB) (ho:w'.orders=w.orders) (pn: ∀u,bO kk' (nk u)=(w'.names.find? λa=>a.1 == u).map λa=>V.int (a.2:Fm)) (ln:kk'.length<=w'.names.length) (nl:w'.names.length<=w'.orders.length):EB (Z.to Z.S Z.F0 d') (aF B Z.x (.ins Z.a.Ge Z.dx (xF Z.m Z.c.wk Z.ol d' Vo))) w' Vo kk' os:=by
 have ne: ∀ {b:E4}{u:HO},B b=Fa u->(∀C d fs,fs.length=5->u≠ .ins C d fs)->aF B Z.x (.ins Z.a.Ge Z.dx (xF Z.m Z.c.wk Z.ol d' Vo)) b=Fa u:=λe n=>by rw[ac (qa e eb.hx (n _ _ _ rfl))];exact e
 have n7: ∀C d fs,fs.length=7->B Z.x≠Fa (.ins C d fs):=λC d fs hl z=>by
  rw[eb.hx] at z;have:=Ga Ou (HO.ins.inj (Fs z)).2.2;rw[hl] at this;cases this
 refine#[λb u e=>by rw[ac λz=>by rw[z,eb.nx.1] at e;cases e];exact eb.sm b u e,ae,ne eb.hm λC d fs hl z=>?_,ne eb.ho nofun,hn,#[eb.nx.1,eb.nx.2.1,hN],by rw[ho];exact dZ eb.po λv x z=>nj z n7 (.inr λ_ z=>by rw[eb.hx] at z;cases z),by rw[ho];exact eb.le,pn,ln,nl,eb.q4]
 ·have:=Ga Ou (HO.ins.inj z).2.2
  rw[hl] at this;cases this
theorem cO.desk (R:cO Z j B H U en w n): ∃nd,H Z.x=Fa (.ins Z.a.Ge Z.dx (xF Z.m Z.c.wk Z.ol Z.d nd))/\ ∀d',cO (Z.to Z.S Z.F0 d') j (aF B Z.x (.ins Z.a.Ge Z.dx (xF Z.m Z.c.wk Z.ol d' nd))) (aF H Z.x (.ins Z.a.Ge Z.dx (xF Z.m Z.c.wk Z.ol d' nd))) U en w n:=by
 obtain @⟨r,b,ff,d,s,nd,kk,os,FO,W,A,gs,eb,hj⟩:=R;refine#[nd,W.O.same _ _ eb.hx,λd'=>cO.put (Z:=Z.to Z.S Z.F0 d') FO W A gs hj eb.hx eb.nx.1 (eb.ahT (by rw[ac (qa eb.hn eb.hx nofun)];exact eb.hn) eb.nx.2.2 rfl eb.pn eb.ln eb.nl)]
theorem cO.reset (R:cO Z j B H U en w n) (h:H p=FB): ∃nd,aF H p (.dK []) Z.x=Fa (.ins Z.a.Ge Z.dx (xF Z.m Z.c.wk Z.ol Z.d nd))/\ ∃B',cO Z j B' (aF (aF H p (.dK [])) Z.x (.ins Z.a.Ge Z.dx (xF Z.m Z.c.wk Z.ol Z.d p))) U en #[w.orders,[]] n:=by
 obtain⟨hB,hN,_⟩:=R.fresh h;have R:=R.new (o:= .dK []) (a0 h) h ae;obtain @⟨r,b,ff,d,s,nd,kk,os,FO,W,A,gs,eb,hj⟩:=R;exact#[nd,W.O.same _ _ eb.hx,_,cO.put FO W A gs hj eb.hx eb.nx.1 (eb.ahT (Z:=Z) (d':=Z.d) (w':=#[w.orders,[]]) (kk':=[]) (by rw[ac (qa ae eb.hx nofun),ae]) hN rfl (λ_=>rfl) (FI _) (FI _))]
end
def tpx:Ha->Fm
 | .const .. =>12
 | .func .. =>13
 | .desk .. =>14
theorem D1 {a:bf}{M:E4->Prop}{H:Hp} : ∀ {t:Ha}{v:V},fh a M H t v->Nd1 a M H (tpx t) v
 | .const ..,_,⟨_,h,_⟩=>#[h,Gc]
 | .func ..,_,⟨_,_,h,_⟩=>#[h,Gc]
 | .desk ..,_,⟨_,_,h,_⟩=>#[h,Gc]
inductive TS (Z:Zx) (H:Hp) (U:EV EW) (l:EV Hx) (n d:Fm) (r:Je):Prop
 |mk (B:Hp) (nm:EV (EW×Fm)) (_:cO Z 0 B H U Z.S.consts ⟨l,nm⟩ n) (_: ∀z∈U,z∈Z.S.consts.map (·.1)) (_:Z.d+1=d) (_:Z.S.funs.length<=Z.F0.length) (_:xD U Z.F0 r):TS Z H U l n d r
inductive Ys (a:bf) (vs:EV V) (H:Hp) (Q:VK) (E:XK):Prop
 |mk {Z:Zx}{U:EV EW}{l:EV Hx}{n d:Fm}{t:Ha}{r:Je}{v:V}(_:vs=[.ref Z.x,v]) (_:Z.a=a) (_:Z.E=E) (_:TS Z H U l n d (t::r)) (_:n<=10000) (_:fh Z.a Z.M Z.N t v) (_: ∀c,A3 Z.K t d Z.S l n= .error c->Qe Z c) (_: ∀x m H' U' F',A3 Z.K t d Z.S l n= .ok (x,m)->m<=n->TS (Z.to x.2.1 F' ((x.1:Int)-1)) H' U' x.2.2 m x.1 r->Q .Iw H'):Ys a vs H Q E
theorem ahU (T:aU K mg a) (XC:XW K a) (KX:mw K a):T.Zz.O P w base 32 (Ys a):=by
 refine okL T.Zz.F agu [03] [02];intro X D;obtain @⟨Z,U,l,n,d,t,r,v,rfl,rfl,rfl,⟨B,nm,R,vc,hd,fl,wt⟩,hn,ta,er,q⟩:=h;have Y:EX X Z.a Z.E:=#[T,XC,KX,hr.mono [01],aA];have nd:=D1 ta;have is: ∀ {cl:FD}{C:E4}{A' TQ:EV Stmt}{p1 p2 p3 p4 p5:Pos}(j:Fm),mg cl=Fa (.ref C)->(yO Z.a)[j]?=Fa C->Gl X cl->(cl == [003])=FS->(tpx t=j->Bd X A' D [Fa (.ref Z.x),Fa v] H)->(tpx t≠j->Bd X TQ D [Fa (.ref Z.x),Fa v] H)->Bd X [.If (.Call (.Name "isinstance" p1) [.Name "top" p2, .Name cl p3] [] p4) A' TQ p5] D [Fa (.ref Z.x),Fa v] H:=λj hm hj hg hx yes no=>cw (uH KX T.K7 nd R.same hj hm (pv 1) [05] (dC yes no) (by rfl) hg hx)
 generalize GH:A3 Z.K t d Z.S l n=res at er q;refine is 12 T.Sj rfl rfl [01] (λz=>?_) λz12=>?_
 ·cases t<;>first|cases z|skip
  rename_i x e;obtain⟨u,i,ex⟩:=ta;unfold xD at wt;obtain⟨nx,ws,wr⟩:=wt;unfold A3 at GH;dsimp only at GH;refine bE (vL Y R [08] (λ_ q=>R.wk T q) [01] (λh=>er (-13) (by rw[<-GH,h])) (λm H1 h R1=>?_) rfl);subst h;dsimp only at GH;refine fk (bL (aO (ci (bC 0 (R1.wk T (aO (bC 1 (cH (.mk (k:=DOWN) (j:=4) rfl rfl rfl R1 i T.QD T.OF T.O9 ex nx ws (by show 3*m+1<=34000;lia) (λc h=>er c (by rw[<-GH,h])) λy m' H' h hm hb R'=>?_)))))) rfl)) (ahP T XC KX (Fq 9)) [07] T.d_x.c aA) rfl;rw[h] at GH;have lo: ∀z∈Z.S.consts.map (·.1),z∈U:=by obtain⟨_,_,A,_,_,_⟩:=R;exact A.low rfl
  have e1:((d:Int)-1)=Z.d:=by lia
  refine q (d,_,l) m' H' (x::U) Z.F0 GH.symm (by lia) #[B,nm,?_,λz hz=>?_,?_,fl,wr]
  ·show cO (Z.to _ Z.F0 ((d:Int)-1)) 0 B H' _ _ _ m'
   rw[e1];exact(yD R' lo).less (FI _)
  ·rcases Fi.mp hz with h|h
   ·rw[h];exact Fb
   ·exact E9 _ (vc z h)
  ·show(d:Int)-1+1=d;lia
 refine is 13 T.VP rfl rfl [01] (λz=>?_) λz13=>?_
 ·cases t<;>first|cases z|skip
  rename_i x ps e;have ta':=ta;obtain⟨ql,u,i,_⟩:=ta;unfold xD at wt;obtain⟨f8,nx,Vo,l6,ws,wr⟩:=wt;unfold A3 at GH;have wk: ∀ {Q:VK},Q (.ref Z.c.wk) H->dB K "worker" Q (.ref Z.x) H:=λq=>R.wk (X:=X) T q
  have sm:=R.same;obtain @⟨r',b,ff,sd,sco,nn,kk,os,FO,W,A,gs,eb,hj⟩:=R
  have e1:((d:Int)-1)=Z.d:=by lia
  refine eu (hZ (dn hr) (ah [08] rfl) (ah (pv 1) rfl) (pv 1) rfl) (wk (W.fld T T.Km rfl (i.fld sm T.QF T.Qa rfl #[Z.c.fa,_,Gc,ug.k (k:=nk x) (W.O.get 3 rfl) (by rw[HP];have:=W.fn.1;lia),?_])));refine q (d,_,l) n _ U ((x,ps.length)::Z.F0) GH.symm (Fq n) #[B,nm,?_,vc,?_,Hu fl,wr]
  ·show cO (Z.to _ _ ((d:Int)-1)) 0 B _ _ _ _ n
   rw[e1];refine#[yB FO nx Vo l6 ws vc,#[W.O.put (L1:=[_,_,_]),#[FA (cD _ _ _) (Hu W.fn.1),λf=>?_],W.sq, .nil,W.bn],#[A.val,A.bot,A.low,A.big],gs,#[eb.sm,eb.hx,eb.hm,eb.ho,eb.hn,eb.nx,eb.po,eb.le,eb.pn,eb.ln,eb.nl,eb.q4],hj];rw[gB,gE];by_cases hf:x=f
   ·rw[E7 hf,E7 (by rw[hf])]
    exact#[v,Gc,fh.HH (λb o e m=>#[m,eb.sm b o e]) _ ta']
   ·rw[E5 hf,E5 λz=>hf (ee (Jt z)).symm]
    exact W.fn.2 f
  ·show(d:Int)-1+1=d;lia
 ·cases t<;>first|exact Fv rfl z12|exact Fv rfl z13|skip
  rename_i x b;obtain⟨ql,us,i,h1,h2⟩:=ta;unfold xD at wt;unfold A3 at GH;dsimp only at GH;refine is 14 T.Ui rfl rfl [01] (λ_=>?_) λz=>Fv rfl z;obtain⟨nn,hx,R1⟩:=R.desk;have R1:=R1 d;refine aQ (gD (pv 0) ak mP) #[Z.x,_,Z.dx,_,_,Gc,hx,T.Hn,T.K6,Gc,_,_,Gc,Gc,Z.dx,_,hx,(by show 5<1000;decide),?_];rw[hd];refine aQ (b3 (pv 0) fm rfl) λVo XY=>?_;obtain⟨nn',hx',B',R2⟩:=R1.reset XY;refine#[Z.x,_,Z.dx,_,Gc,hx',T.Hn,T.JS,(by show 5<1000;decide),?_];refine fk (bL (aO (bC 0 (aO (ci (bC 1 (i.fld R2.same T.RA T.Mp rfl (cH (.mk (Z:=Z.to Z.S Z.F0 d) (k:=DOWN) rfl rfl rfl rfl R2 #[us,h1,h2] wt.1 (by show 3*n+2<=34000;lia) (λc h=>er c (by rw[<-GH,h])) λu m B2 H2 h hm R3=>?_)))) rfl)))) (AM T XC KX 6) hr T.WN.c aA) rfl;rw[h] at GH;refine q (d+1,Z.S,u.orders) m H2 U Z.F0 GH.symm hm #[B2,u.names,?_,vc,?_,fl,wt.2]
  ·show cO (Z.to _ _ (((d+1:Fm):Int)-1)) 0 B2 _ _ _ _ m
   rw[show(((d+1:Fm):Int)-1)=d by lia];exact R3
  ·show((d+1:Fm):Int)-1+1=_;lia
end
section
variable {B N H H':Hp}
theorem Ow.TX (O:Ow B (c::L) H) (h:H p=FB):Ow B (c::(p,o)::L) (aF H p o):=
 (O.adds (N:=[(p,o)]) (a0 h) (λx hx=>by rw[Fz.mp hx];exact#[h,ae]) (F6.mpr #[nofun, .nil])).perm (.swap _ _ _)
theorem Ow.toB (O:Ow B (c::L) H):Ow (aF B c.1 c.2) L H:=by
 have h0:=O.at_ c Fb;obtain⟨n1,n2⟩:=F6.mp O.nd;refine#[λb u e=>?_,λx hx=>#[(O.at_ x (E9 _ hx)).1,?_],n2]
 ·by_cases hb:b=c.1
  ·rw[hb,ae] at e;rw[hb,<-e];exact h0.1
  ·rw[ac hb] at e;exact O.same b u e
 ·rw[ac λz=>n1 (by show c.1∈_;rw[<-z];exact KA (f:=λx:lh=>x.1) hx)]
  exact(O.at_ x (E9 _ hx)).2
end
abbrev wk0 (a:bf) (c:qd) (sd:E4):EV lh:=wkL a c 10000 (.int 0) [] [(sd,[])] []
inductive Yt (a:bf) (vs:EV V) (H:Hp) (Q:VK) (_E:XK):Prop
 |mk {N:Hp}{L:EV lh}{p dx:E4}(_:vs=[.ref p]) (_:Ow N ((p, .ins a.Hq dx [])::L) H) (_: ∀fa sd sl tl H',Ow N (wk0 a ⟨p,dx,fa,sl,tl,0⟩ sd++L) H'->Q .Iw H'):Yt a vs H Q _E
theorem nJ (T:aU K mg a):T.Zr.U P w mg base 1 (Yt a):=by
 refine T.Zr.F.ok agg [03] [02];obtain @⟨N,L,p,dx,rfl,O,q⟩:=h;refine aQ (b3 (pv 0) ak rfl) #[p,_,dx,_,Gc,O.get 0 rfl,T.HS,T.LQ,(by show 0<1000;decide),?_];have O:=O.put (L1:=[]) (o':= .ins a.Hq dx (HN "taken" (.int 0) []));refine aQ (b3 (pv 0) fm rfl) λfa hfa=>#[p,_,dx,_,Gc,(O.TX (c:=(_,_)) hfa).get 0 rfl,T.HS,T.Km,(by show 1<1000;decide),?_];have O:=(O.TX (c:=(_,_)) (o:= .dK []) hfa).put (L1:=[]) (o':= .ins a.Hq dx (HN "functions" (.ref fa) (HN "taken" (.int 0) [])));refine aQ (b3 (pv 0) (fM (aa fm ag)) rfl) λsd hsd=>#[by show 1<=FP;decide,λsl hsl=>?_];have O:=(O.TX (c:=(_,_)) (o:= .dK []) hsd).TX (c:=(_,_)) (o:= .lst [.ref sd]) hsl;refine#[p,_,dx,_,Gc,O.get 0 rfl,T.HS,T.JE,(by show 2<1000;decide),?_];have O:=O.put (L1:=[]) (o':= .ins a.Hq dx (HN "scopes" (.ref sl) (HN "functions" (.ref fa) (HN "taken" (.int 0) []))));refine aQ (b3 (pv 0) (fM ag) rfl) #[FI _,λtl htl=>?_];have O:=O.TX (c:=(_,_)) (o:= .lst []) htl;refine#[p,_,dx,_,Gc,O.get 0 rfl,T.HS,T.IB,(by show 3<1000;decide),?_];have O:=O.put (L1:=[]) (o':= .ins a.Hq dx (HN "tasks" (.ref tl) (HN "scopes" (.ref sl) (HN "functions" (.ref fa) (HN "taken" (.int 0) [])))));refine eu (b3 (pv 0) ak rfl) #[p,_,dx,_,Gc,O.get 0 rfl,T.HS,T.Lq,(by show 4<1000;decide),q fa sd sl tl _ ?_];have O:=O.put (L1:=[]) (o':= .ins a.Hq dx (HN "result" (.int 0) (HN "tasks" (.ref tl) (HN "scopes" (.ref sl) (HN "functions" (.ref fa) (HN "taken" (.int 0) []))))));exact O.perm (.cons _ (.cons _ (.cons _ (.swap _ _ _))))
inductive Yu (a:bf) (vs:EV V) (H:Hp) (Q:VK) (_E:XK):Prop
 |mk {N:Hp}{L:EV lh}{p dx m:E4}(_:vs=[.ref p, .ref m]) (_:Ow N ((p, .ins a.Ge dx [])::L) H) (_: ∀c sd ol nd H',Ow N ((p, .ins a.Ge dx (xF m c.wk ol (-1) nd))::(nd, .dK [])::(ol, .lst [])::(wk0 a c sd++L)) H'->Q .Iw H'):Yu a vs H Q _E
theorem kI (T:aU K mg a):T.Zy.U P w mg base 3 (Yu a):=by
 refine T.Zy.F.ok agt [03] [02];obtain @⟨N,L,p,dx,m,rfl,O,q⟩:=h;refine aQ (b3 (pv 0) (pv 1) rfl) #[p,_,dx,_,Gc,O.get 0 rfl,T.Hn,T.L9,(by show 0<1000;decide),?_];have O:=O.put (L1:=[]) (o':= .ins a.Ge dx (HN "market" (.ref m) []));refine aQ (b3 (pv 0) (Ad T.UU (nJ T) hr (by rfl) T.UP T.Zr.c.b .nil aV) rfl) λx dw hx hdw ne=>?_;have O:=O.adds (N:=[(x, .ins a.Hq dw [])]) (H':=aF (aF (aF H p (.ins a.Ge dx (HN "market" (.ref m) []))) dw (.own x)) x (.ins a.Hq dw [])) (λb o e=>by rw[ac (aj e hx),ac (aj e hdw)];exact e) (λy hy=>by rw[Fz.mp hy];exact#[hx,ae]) (F6.mpr #[nofun, .nil]);refine .mk rfl O λfa sd sl tl H2 O=>#[Gc,?_];have O:=O.perm (Wd (l₁:=wk0 a #[x,dw,fa,sl,tl,0] sd));refine#[p,_,dx,_,Gc,O.get 0 rfl,T.Hn,T.Ma,(by show 1<1000;decide),?_];have O:=O.put (L1:=[]) (o':= .ins a.Ge dx (HN "worker" (.ref x) (HN "market" (.ref m) [])));refine aQ (b3 (pv 0) (fM ag) rfl) #[FI _,λol hol=>?_];have O:=O.TX (c:=(_,_)) (o:= .lst []) hol;refine#[p,_,dx,_,Gc,O.get 0 rfl,T.Hn,T.Ja,(by show 2<1000;decide),?_];have O:=O.put (L1:=[]) (o':= .ins a.Ge dx (HN "orders" (.ref ol) (HN "worker" (.ref x) (HN "market" (.ref m) []))));refine aQ (b3 (pv 0) (dL cK ak) rfl) #[_,Gc,p,_,dx,_,Gc,O.get 0 rfl,T.Hn,T.K6,(by show 3<1000;decide),?_];have O:=O.put (L1:=[]) (o':= .ins a.Ge dx (HN "desk" (.int (-1)) (HN "orders" (.ref ol) (HN "worker" (.ref x) (HN "market" (.ref m) [])))));refine eu (b3 (pv 0) fm rfl) λnd Dj=>?_;have O:=O.TX (c:=(_,_)) (o:= .dK []) Dj;refine#[p,_,dx,_,Gc,O.get 0 rfl,T.Hn,T.JS,(by show 4<1000;decide),q #[x,dw,fa,sl,tl,0] sd ol nd _ ?_];exact O.put (L1:=[]) (o':= .ins a.Ge dx (HN "named" (.ref nd) (HN "desk" (.int (-1)) (HN "orders" (.ref ol) (HN "worker" (.ref x) (HN "market" (.ref m) []))))))
theorem aa9:gz #[[],[]] K9:=#[λf p h=> .inr #[Gc,h],λx=>by unfold QR;exact#[by show-Kc<=0;decide,by show 0<=Kc;decide]]
theorem DP:Ag #[[],[]] [] [] [λ_=>FB]:=#[nofun,nofun,(λ_ x h=>by cases h),λx=>by unfold QR;exact#[by show-Kc<=0;decide,by show 0<=Kc;decide]]
def dk1:Ha->Fm
 | .desk .. =>1
 |_=>0
theorem EE:Jg (t::r)=dk1 t+Jg r:=by
 unfold Jg;cases t with
 |desk x b=>show _+1=_;rw[Ku];rfl
 |const x e=>exact(Kv _).symm
 |func x p e=>exact(Kv _).symm
theorem ahV (h:A3 M t d S l n= .ok (x,m)):x.1=d+dk1 t:=by
 unfold A3 at h;cases t with
 |func y p e=>cases h;rfl
 |const y e=>
  dsimp only at h;split at h
  ·cases h
  ·split at h
   ·cases h
   ·cases h;rfl
 |desk y b=>
  dsimp only at h;split at h
  ·cases h
  ·cases h;rfl
inductive B7 (a:bf) (vs:EV V) (H:Hp) (Q:VK) (E:XK):Prop
 |mk {m dm l:E4}{us:EV V}{ss:Je}{G:J3}(_:vs=[.ref m, .ref l]) (_:H m=Fa (.ins a.JU dm (mF G))) (_:G.quarters<=4) (_:H l=Fa (.lst us)) (_:Paired (λs v=>fh a (λp=>H p=FB) H s v) ss us) (_:xD [] K9 ss) (_: ∀c,Mw G ss= .error c-> ∀H',aW H H'->oV a E H' c) (_: ∀Z H' U o n,Mw G ss= .ok (o,n)->Z.a=a->Z.N=H->TS Z H' U o n (Jg ss) []->Q (.ref Z.x) H'):B7 a vs H Q E
theorem alS (T:aU K mg a) (XC:XW K a) (KX:mw K a):T.d_U.O P w base 33 (B7 a):=by
 refine okL T.d_U.F aaF [03] [02];intro X D;obtain @⟨m,dm,l,us,ss,G,rfl,hm,q4,hl,tl,wt,er,q⟩:=h;refine aQ (cB (i:=2) aaF.nd rfl (.inl rfl) (gT T.RD (kI T) [07] (by rfl) T.Rw T.Zy.c.b .nil aV (aa (pv 0) ag))) λx dx hx UZ ne=>?_;have O:Ow H [(x, .ins a.Ge dx [])] (aF (aF H dx (.own x)) x (.ins a.Ge dx [])):=#[λb o e=>by rw[ac (aj e hx),ac (aj e UZ)];exact e,λy hy=>by rw[Fz.mp hy];exact#[ae,hx],F6.mpr #[nofun, .nil]];refine .mk rfl O λc sd ol nd H1 O=>#[Gc,?_];have nn: ∀ {c:lh},c∈_->H c.1=FB:=λh=>(O.at_ _ h).2
 have n1:=(O.at_ _ (Fb)).2
 have n2:=(O.at_ _ (E9 _ Fb)).2
 have n3:=(O.at_ _ (E9 _ (E9 _ Fb))).2
 have Vo:=O.nd
 have O1:=O.toB.toB.toB;rw[GL] at O1
 let Z:Zx:=#[a,E,x,dx,m,dm,ol,c,H,G,#[[],[]],K9,-1]
 have T0:TS Z H1 [] [] 10000 0 ss:=by
  obtain⟨m1,nd2⟩:=F6.mp Vo;obtain⟨m2,_⟩:=F6.mp nd2;have x1:x≠nd:=λz=>m1 (by show x∈_;rw[z];exact .head _);have x2:x≠ol:=λz=>m1 (by show x∈_;rw[z];exact .tail _ (.head _));have x3:nd≠ol:=λz=>m2 (by show nd∈_;rw[z];exact .head _);have sm:aW H (aF (aF (aF H x (.ins a.Ge dx (xF m c.wk ol (-1) nd))) nd (.dK [])) ol (.lst [])):=λb o e=>by rw[ac (aj e n3),ac (aj e n2),ac (aj e n1)];exact e
  have eb:EB Z (aF (aF (aF H x (.ins a.Ge dx (xF m c.wk ol (-1) nd))) nd (.dK [])) ol (.lst [])) ⟨[],[]⟩ nd [] []:=#[sm,by show aF _ _ _ x=_;rw[ac x2,ac x1,ae],sm _ _ hm,ae,by rw[ac x3,ae],#[n1,n3,n2], .nil,FI _,λ_=>rfl,Fq _,Fq _,q4]
  refine#[_,[],#[aa9,#[O1,#[FI _,λf=>rfl], .cons #[λ_=>rfl,FI 6] .nil, .nil,#[by decide,nofun,by show 1+10000<=10002;decide,by decide,by show 6+5*10000<=60000-0;decide,by show 60000-0<=60000;decide]],DP,λs hs y z hz=>?_,eb,FI _],nofun,Gc,FI _,wt];rw[Fz.mp hs] at hz;cases hz
 generalize GH:Mw G ss=res at er q;refine jW (L:=l) (xs:=us) 3 IS aaF.nd (pv 1) [05] (λj σ H'=> ∃y S F d U o n e,σ=[Fa (.ref m),Fa (.ref l),Fa (.ref x),y]/\TS (Z.to S F d) H' U o n e (ss.drop j)/\n<=10000/\e+Jg (ss.drop j)=Jg ss/\MY G (ss.drop j) e S o n=res) #[_,_,_,_,_,_,_,_,Gc,T0,Fq _,Kv _,GH] ?_ ?_ ?_
 ·rintro j σ H2 _ ⟨y,S,F,d,U,o,n,e,rfl,⟨B,nm,R,_⟩,_⟩
  exact R.same _ _ hl
 ·rintro j v σ H2 hv ⟨y,S,F,d,U,o,n,e,rfl,TS1,hn,he,ht⟩
  obtain⟨t,ht',at_⟩:=ja tl hv;have dr:ss.drop j=t::ss.drop (j+1):=(FZ.mp ht').elim λh z=>by rw[<-z];exact Hd h
  rw[dr] at TS1 he ht;rw[yq] at ht;rw[EE] at he;refine fk (bL (aO (bC 2 (aO (bC 3 (cH (.mk (Z:=Z.to S F d) rfl rfl rfl TS1 hn at_ (λc h=>er c ?_) λx' m' H3 U' F' h PM TS2=>?_)))))) (ahU T XC KX) [07] T.Zz.c aA) rfl
  ·rw[<-ht]
   show(match A3 G t e S o n with| .error c=>_| .ok (x,m)=>_)=_
   rw[h]
  ·rw[h] at ht
   have:=ahV h;exact#[_,_,_,_,_,_,_,_,Gc,TS2,by lia,by lia,ht]
 ·rintro σ H2 ⟨y,S,F,d,U,o,n,e,rfl,TS1,hn,he,ht⟩
  have dr:ss.drop us.length=[]:=by rw[<-bj tl,Qs]
  rw[dr] at TS1 he ht;have:e=Jg ss:=he;subst this;exact aL (bC 2 (q (Z.to S F d) H2 U o n ht.symm rfl rfl TS1))
end OS
namespace OS
open Vbemac
def W {α:Type}(p:P α) (t:MI) (Qo:α->MI->Prop) (Qe:Fm->Pos->Prop):Prop:=match p t with
 | .ok (a,r)=>Qo a r
 | .error e=>Qe e.1 e.2
section
variable {α β:Type}{p:P α}{f:α->P β}{Qo Qo':α->MI->Prop}{Qe Qe':Fm->Pos->Prop}{Ro:β->MI->Prop}
theorem yI {a:α}(e:p t= .ok (a,r)):W p t Qo Qe=Qo a r:=by unfold W;rw[e]
theorem i9 (h:p t= .error e):W p t Qo Qe=Qe e.1 e.2:=by unfold W;rw[h]
theorem jE:W (p>>=f) t Ro Qe=W p t (λa r=>W (f a) r Ro Qe) Qe:=by
 have e:(p>>=f) t=(match p t with
  | .error x=> .error x
  | .ok (a,r)=>f a r):=by
  show(FF p f) t=_
  unfold FF;show(Except.bind (p t) _)=_;cases p t with
  |error x=>rfl
  |ok z=>rfl
 unfold W;rw[e];cases h:p t with
 |error x=>rfl
 |ok z=>rfl
theorem Cn {a:α} :W (pure a:P α) t Qo Qe=Qo a t:=rfl
theorem aba:W (fail n:P α) t Qo Qe=Qe (if peek t= .bad then 1 else n) (place t):=rfl
theorem W.mono (h:W p t Qo Qe) (ho: ∀a r,Qo a r->Qo' a r) (he: ∀n q,Qe n q->Qe' n q):W p t Qo' Qe':=by
 unfold W at h ⊢;cases e:p t with
 |error x=>rw[e] at h;exact he _ _ h
 |ok z=>rw[e] at h;exact ho _ _ h
end
def aK {α:Type}(p:P α):Prop:= ∀t,peek t= .bad->p t= .error (1,place t)
def h8 {α:Type}(p:P α):Prop:= ∀t,peek t= .bad->p t= .error (1,place t)\/ ∃a,p t= .ok (a,t)
theorem aK.Pj {α:Type}{p:P α}(h:aK p):h8 p:=λt e=> .inl (h t e)
section
variable {α β:Type}{p:P α}{f:α->P β}{Qo:α->MI->Prop}{Qe:Fm->Pos->Prop}{Ro:β->MI->Prop}
theorem aK.bind (h:aK p):aK (p>>=f):=λt e=>by
 show(FF p f) t=_
 unfold FF;rw[h t e]
 rfl
theorem h8.bind (h:h8 p) (k: ∀a,h8 (f a)):h8 (p>>=f):=λt e=>by
 show(FF p f) t=_\/ ∃a,(FF p f) t=_
 unfold FF;rcases h t e with z|⟨a,z⟩
 ·rw[z];exact .inl rfl
 ·rw[z];exact k a t e
theorem h8.strict (h:h8 p) (k: ∀a,aK (f a)):aK (p>>=f):=λt e=>by
 show(FF p f) t=_
 unfold FF;rcases h t e with z|⟨a,z⟩
 ·rw[z];rfl
 ·rw[z];exact k a t e
theorem aK.Lw (h:aK p) (e:peek t= .bad) (w:W p t Qo Qe):Qe 1 (place t):=by
 rw[i9 (h t e)] at w;exact w
end
theorem cq {t:MI}(e:peek t= .bad) (w:String):HB t w=FS:=by unfold HB;rw[e];rfl
theorem c8 {t:MI}(e:peek t= .bad) (w:String):LP t w=FS:=by unfold LP;rw[e];rfl
theorem aG {α:Type}(n:Fm):aK (fail n:P α):=λt e=>by unfold fail;rw[E7 e]
theorem eT (w:String):aK (key w):=λt e=>by unfold key;rw[cq e];exact aG 2 t e
theorem bi (w:String):aK (sign w):=λt e=>by unfold sign;rw[c8 e];exact aG 2 t e
theorem eE:aK anyName:=λt e=>by unfold anyName;rw[e];exact aG 2 t e
theorem fP (K:Known):aK (newName K):=λt e=>by unfold newName;rw[eE t e]
theorem lE (B:Blocks):aK (blockName B):=λt e=>by unfold blockName;rw[eE t e]
theorem kj (B:Blocks):aK (knownBlock B):=λt e=>by unfold knownBlock;rw[eE t e]
theorem lM:aK side:=λt e=>by unfold side;rw[cq e,cq e];exact aG 2 t e
theorem gF (B:Blocks):aK (maybeName B):=λt e=>by
 unfold maybeName;rw[cq e,cq e,E5 (by simp),lE B t e]
theorem fL {α:Type}(a:α):h8 (pure a:P α):=λt _=> .inr #[a,Gc]
theorem lU (w:String):h8 (ifSign w):=λt e=>by unfold ifSign;rw[c8 e];exact .inr #[_,Gc]
theorem tT (l:EV String):h8 (Ll l):=λt e=>by unfold Ll;rw[e];exact .inr #[_,Gc]
theorem f9 {α:Type}(w:String) (p:P α):h8 (behind w p):=λt e=>by unfold behind;rw[cq e];exact .inr #[_,Gc]
theorem iI (k d:Fm) (K:Known):aK (primary k d K):=λt e=>by
 cases k with
 |zero=>rw[primary];exact aG 6 t e
 |succ k=>rw[primary];simp only[e];exact aG 2 t e
theorem jZ (k d:Fm) (K:Known):aK (unary k d K):=λt e=>by
 cases k with
 |zero=>rw[unary];exact aG 6 t e
 |succ k=>rw[unary];simp only[c8 e,II,ME];exact iI k d K t e
theorem qW (k d:Fm) (K:Known):aK (times k d K):=by
 cases k with
 |zero=>rw[times];exact aG 6
 |succ k=>rw[times];exact(jZ k d K).bind
theorem j6 (k d:Fm) (K:Known):aK (added k d K):=by
 cases k with
 |zero=>rw[added];exact aG 6
 |succ k=>rw[added];exact(qW k d K).bind
theorem lY (k d:Fm) (K:Known):aK (compared k d K):=by
 cases k with
 |zero=>rw[compared];exact aG 6
 |succ k=>rw[compared];exact(j6 k d K).bind
theorem sQ (k d:Fm) (K:Known):aK (ands k d K):=by
 cases k with
 |zero=>rw[ands];exact aG 6
 |succ k=>rw[ands];exact(lY k d K).bind
theorem lP (k d:Fm) (K:Known):aK (expr k d K):=λt e=>by
 cases k with
 |zero=>rw[expr];exact aG 6 t e
 |succ k=>rw[expr];simp only[cq e,II,ME];exact(sQ k d K).bind t e
theorem kW (k d:Fm) (K:Known) (n:Fm):aK (arguments k d K n):=λt e=>by
 cases k with
 |zero=>rw[arguments];exact aG 6 t e
 |succ k=>rw[arguments];simp only[c8 e,II,ME];exact(lP k d K).bind t e
theorem mD (k d:Fm) (K:Known):h8 (moreTimes k d K):=by
 cases k with
 |zero=>rw[moreTimes];exact(aG 6).Pj
 |succ k=>
  rw[moreTimes];intro t e;refine .inr #[.nil,?_];show(FF _ _) t=_;unfold FF Ll;rw[e]
  rfl
theorem mC (k d:Fm) (K:Known):h8 (moreAdded k d K):=by
 cases k with
 |zero=>rw[moreAdded];exact(aG 6).Pj
 |succ k=>
  rw[moreAdded];intro t e;refine .inr #[.nil,?_];show(FF _ _) t=_;unfold FF Ll;rw[e]
  rfl
theorem qN (k d:Fm) (K:Known):h8 (moreAnd k d K):=by
 cases k with
 |zero=>rw[moreAnd];exact(aG 6).Pj
 |succ k=>
  rw[moreAnd];intro t e;refine .inr #[.nil,?_];show(FF _ _) t=_;unfold FF ifSign;rw[c8 e]
  rfl
theorem ud (k d:Fm) (K:Known):h8 (moreOr k d K):=by
 cases k with
 |zero=>rw[moreOr];exact(aG 6).Pj
 |succ k=>
  rw[moreOr];intro t e;refine .inr #[.nil,?_];show(FF _ _) t=_;unfold FF ifSign;rw[c8 e]
  rfl
theorem lS (k d:Fm) (K:Known) (B:Blocks):aK (stmt k d K B):=λt e=>by
 cases k with
 |zero=>rw[stmt];exact aG 6 t e
 |succ k=>rw[stmt];simp only[cq e,II,ME];exact lM.bind t e
theorem kq (k d:Fm) (K:Known) (B:Blocks):aK (stmts k d K B):=λt e=>by
 cases k with
 |zero=>rw[stmts];exact aG 6 t e
 |succ k=>rw[stmts];simp only[c8 e,II,ME];exact(lS k d K B).bind t e
theorem ji (k n:Fm) (K:Known):aK (params k n K):=λt e=>by
 cases k with
 |zero=>rw[params];exact aG 6 t e
 |succ k=>
  rw[params];dsimp only;by_cases h:n=0
  ·rw[E7 h];exact aG 7 t e
  ·rw[E5 h];exact(fP K).bind t e
theorem rO (k:Fm) (K:Known) (n:Fm) (D:EV F7):aK (tops k K n D):=λt e=>by
 cases k with
 |zero=>rw[tops];exact aG 6 t e
 |succ k=>rw[tops];simp only[e,reduceCtorEq,ME,cq e,II];exact aG 2 t e
end OS
namespace OS
open PySem PySem.Spec L2
open PyProof.Rows hiding St
variable {P:FW}{w:Gx}{K:E1}{mg:FD->Fd E3}{base:GI}{a:bf}
structure Yv where
 p:E4
 c:EV (a8×V)
 x:E4->EV V->Prop
instance:Coe Yv E4:=#[Yv.p]
structure Rb where
 r:E4
 q:E4
 kd:E4
 fn:E4
 ds:Yv
 bl:Yv
def eU (B:Rb) (b:E4):Prop:=b=B.r\/b=B.kd\/b=B.fn\/b=B.ds.p\/b=B.bl.p\/ ∃xs,B.bl.x b xs
inductive Yw (H:Hp) (kd:E4) (Kn:E6):Prop
 |mk (kk:EV (a8×V)) (_:H kd=Fa (.dK kk)) (_:kk.length<=Kn.values.length) (_: ∀u,has kk u=Kn.values.contains u):Yw H kd Kn
inductive Yx (H:Hp) (fn:E4) (Kn:E6):Prop
 |mk (ff:EV (a8×V)) (_:H fn=Fa (.dK ff)) (_: ∀u,bO ff (nk u)=(Kn.funs.find? λf=>f.1 == u).map λf=>V.int (f.2:Fm)):Yx H fn Kn
inductive Dif (k f d b:E4):Prop
 |mk (_:k≠f) (_:k≠d) (_:k≠b) (_:f≠d) (_:f≠b) (_:d≠b):Dif k f d b
structure abb (H:Hp) (kd fn:E4) (Kn:E6) (room:Fm):Prop where
 vals:Yw H kd Kn
 funs:Yx H fn Kn
 len:Kn.values.length+room<=4000
 alT: ∃ff,H fn=Fa (.dK ff)/\ff.length=Kn.funs.length
theorem abb.fl {H:Hp}(h:abb H kd fn Kn room) (e:H fn=Fa (.dK ff)):ff.length=Kn.funs.length:=by
 obtain⟨gg,g1,g2⟩:=h.alT;rw[e] at g1;cases g1;exact g2
structure fo (a:bf) (B:Rb) (H:Hp) (n:Fm) (t:E2) (Kn:E6):Prop where
 rd:nB a H B.r B.q B.kd B.fn B.ds.p B.bl.p n t
 wh:fT t
 kn:abb H B.kd B.fn Kn t.length
 SI:H B.ds.p=Fa (.dK B.ds.c)
 R8:H B.bl.p=Fa (.dK B.bl.c)
 PL:Dif B.kd B.fn B.ds.p B.bl.p
 fr: ∀b xs,B.bl.x b xs->H b=Fa (.lst xs)
theorem qO (kk:EV (a8×V)) (u v:EW) (y:V):has (dy kk (nk u) y) v=(decide (v=u)||has kk v):=by
 unfold has;rw[gE];by_cases e:v=u
 ·rw[E7 (by rw[e]),Gy e];rfl
 ·rw[E5 (λz=>e (ee (Jt z))),FU e];rfl
theorem ux (kk:EV (a8×V)) (k j:a8):bO (fE kk k) j=if j=k then FB else bO kk j:=by
 induction kk with
 |nil=>unfold fE bO;split<;>rfl
 |cons p r ih=>
  unfold fE at ih ⊢;rw[Qq];by_cases e:p.1=k
  ·rw[E5 (by simp [e]),ih]
   by_cases j1:j=k
   ·rw[E7 j1,E7 j1]
   ·rw[E5 j1,E5 j1,b7 λz=>j1 (z.symm.trans e)]
  ·rw[E7 (by simp [e])]
   by_cases j1:p.1=j
   ·rw[cg j1,cg j1,E5 λz=>e (j1.trans z)]
   ·rw[b7 j1,b7 j1,ih]
theorem rP (kk:EV (a8×V)) (u v:EW):has (fE kk (nk u)) v=(!decide (v=u)&&has kk v):=by
 unfold has;rw[ux];by_cases e:v=u
 ·rw[E7 (by rw[e]),Gy e];rfl
 ·rw[E5 (λz=>e (ee (Jt z))),FU e];rfl
theorem mZ:lZ v k=decide (uD k=Fa v):=by
 unfold lZ;cases k with
 |word u=>exact decide_eq_decide.mpr #[λz=>Ga Fa (V.str.inj z),λz=>Ga V.str (Fs z)]
 |num n=>exact decide_eq_decide.mpr #[(λz=>nomatch z),(λz=>nomatch z)]
 |sign u=>exact decide_eq_decide.mpr #[λz=>Ga Fa (V.str.inj z),λz=>Ga V.str (Fs z)]
 |eof=>exact decide_eq_decide.mpr #[λz=>Ga Fa (V.str.inj z),λz=>Ga V.str (Fs z)]
 |bad=>exact decide_eq_decide.mpr #[λz=>Ga Fa (V.str.inj z),λz=>Ga V.str (Fs z)]
theorem b4 (ok:gb k) (h:cX x u):lZ x k=(k == .word u):=by
 rw[mZ,GZ,F5,beq_iff_eq];exact Cs ok h
theorem cQ (ok:gb k) (h:d7 x u):lZ x k=(k == .sign u):=by
 rw[mZ,GZ,F5,beq_iff_eq];exact t8 ok h
inductive Yy (t:E2):Prop
 |mk (x:Gs×Gh) (r:E2) (_:t=x::r) (_:gb x.1) (_:Fp t=x.1) (_:HZ t=x.2) (_: ¬jH x->fT r):Yy t
theorem fT.first (w:fT t):Yy t:=by
 cases t with
 |nil=>exact Fv rfl w.ne
 |cons x r=>
  refine#[x,r,Gc,?_,Gc,Gc,λh=>(w.tail h).2];by_cases h:jH x
  ·rcases h with h|h
   ·rw[h];exact G7
   ·rw[h];exact G7
  ·exact(w.tail h).1.2.2
section
variable {H H' H2:Hp}{M:E4->Prop}
theorem aW.keeps (s:aW H H'):db M H H':=λb o e _=>s b o e
theorem db.trans (k:db M H H') (l:db M H' H2):db M H H2:=λb o e m=>l b o (k b o e m) m
theorem db.refl:db M H H:=λ_ _ e _=>e
theorem nB.same (R:nB a H r q kd fn ds bl n t) (s:aW H H'):nB a H' r q kd fn ds bl n t:=by
 obtain⟨dr,e⟩:=R.ins;obtain⟨as,all,h1,h2,h3⟩:=R.toks;exact#[#[dr,s _ _ e],as,all,s _ _ h1,Paired.Np h2 λb z k=>k.keep λb' o e _=>s b' o e,h3]
theorem fo.same (S:fo a B H n t Kn) (s:aW H H'):fo a B H' n t Kn:=by
 obtain⟨kk,k1,k2,k3⟩:=S.kn.vals;obtain⟨ff,f1,f2⟩:=S.kn.funs;exact#[S.rd.same s,S.wh,#[#[kk,s _ _ k1,k2,k3],#[ff,s _ _ f1,f2],S.kn.len,#[ff,s _ _ f1,S.kn.fl f1]],s _ _ S.SI,s _ _ S.R8,S.PL,λb xs h=>s _ _ (S.fr b xs h)]
theorem uG (h:past a H B.r B.q B.kd B.fn B.ds.p B.bl.p n H'):db (eU B) H H':=λb o e m=>by
 obtain⟨dr,e1,rfl⟩:=h;rw[ac λz=>m (.inl z)];exact e
theorem fo.past (S:fo a B H n (x::t) Kn) (hx: ¬jH x) (h:OS.past a H B.r B.q B.kd B.fn B.ds.p B.bl.p n H'):fo a B H' (n+1) t Kn:=by
 have R:=S.rd.step h;obtain⟨dr,e1,rfl⟩:=h;obtain⟨kk,k1,k2,k3⟩:=S.kn.vals;obtain⟨ff,f1,f2⟩:=S.kn.funs
 have hy:=S.SI
 have hz:=S.R8
 have nk:B.kd≠B.r:=λw=>by rw[w,e1] at k1;cases k1
 have nf:B.fn≠B.r:=λw=>by rw[w,e1] at f1;cases f1
 have nd:B.ds.p≠B.r:=λw=>by rw[w,e1] at hy;cases hy
 have nb:B.bl.p≠B.r:=λw=>by rw[w,e1] at hz;cases hz
 refine#[R,(S.wh.tail hx).2,#[#[kk,by rw[ac nk];exact k1,k2,k3],#[ff,by rw[ac nf];exact f1,f2],?_,#[ff,by rw[ac nf];exact f1,S.kn.fl f1]],(by rw[ac nd];exact hy),(by rw[ac nb];exact hz),S.PL,λb xs h=>by
  have e2:=S.fr b xs h;rw[ac λw=>by rw[w,e1] at e2;cases e2]
  exact e2]
 have:=S.kn.len;rw[Fj] at this;lia
theorem fo.ahW (S:fo a B H n t Kn) (free:Kn.values.contains u=FS) (room:Kn.values.length+1+t.length<=4000) (e:H B.kd=Fa (.dK kk)):
  fo a B (aF H B.kd (.dK (dy kk (nk u) (.bl FM)))) n t (Kn.with u):=by
 obtain⟨dr,er⟩:=S.rd.ins;obtain⟨as,all,h1,h2,h3⟩:=S.rd.toks;obtain⟨kk',k1,k2,k3⟩:=S.kn.vals;obtain⟨ff,f1,f2⟩:=S.kn.funs;have hy:=S.SI;have hz:=S.R8;obtain rfl:kk'=kk:=by rw[e] at k1;cases k1;rfl
 obtain⟨d1,d2,d3,d4,d5,d6⟩:=S.PL;have nr:B.r≠B.kd:=λw=>by rw[w,e] at er;cases er
 have nq:B.q≠B.kd:=λw=>by rw[w,e] at h1;cases h1
 refine#[#[#[dr,by rw[ac nr];exact er],as,all,by rw[ac nq];exact h1,Paired.Np h2 λb x ⟨dx,ex⟩=>#[dx,?_],h3],S.wh,#[#[_,ae,?_,λv=>?_],#[ff,by rw[ac d1.symm];exact f1,f2],by show Kn.values.length+1+t.length<=4000;exact room,#[ff,by rw[ac d1.symm];exact f1,S.kn.fl f1]],(by rw[ac d2.symm];exact hy),(by rw[ac d3.symm];exact hz),S.PL,λb xs h=>by
  have e2:=S.fr b xs h;rw[ac λw=>by rw[w,e] at e2;cases e2]
  exact e2]
 ·rw[ac λw=>by rw[w,e] at ex;cases ex]
  exact ex
 ·have:=cD kk' (nk u) (.bl FM)
  show _<=Kn.values.length+1
  lia
 ·rw[qO,k3]
  show _=(u::Kn.values).contains v
  rw[Gn]
  congr 1
  rw[GZ,F5,beq_iff_eq]
theorem fo.forget (S:fo a B H n t (Kn.with u)) (free:Kn.values.contains u=FS) (e:H B.kd=Fa (.dK kk)):
  has kk u=FM/\fo a B (aF H B.kd (.dK (fE kk (nk u)))) n t Kn:=by
 obtain⟨dr,er⟩:=S.rd.ins;obtain⟨as,all,h1,h2,h3⟩:=S.rd.toks;obtain⟨kk',k1,k2,k3⟩:=S.kn.vals;obtain⟨ff,f1,f2⟩:=S.kn.funs;have hy:=S.SI;have hz:=S.R8;obtain rfl:kk'=kk:=by rw[e] at k1;cases k1;rfl
 obtain⟨d1,d2,d3,d4,d5,d6⟩:=S.PL;have nr:B.r≠B.kd:=λw=>by rw[w,e] at er;cases er
 have nq:B.q≠B.kd:=λw=>by rw[w,e] at h1;cases h1
 have hu:has kk' u=FM:=by
  rw[k3];show(u::Kn.values).contains u=FM;rw[Gn,GN]
  rfl
 have len:Kn.values.length+1+t.length<=4000:=S.kn.len
 have k2:kk'.length<=Kn.values.length+1:=k2;refine#[hu,#[#[dr,by rw[ac nr];exact er],as,all,by rw[ac nq];exact h1,Paired.Np h2 λb x ⟨dx,ex⟩=>#[dx,?_],h3],S.wh,#[#[_,ae,?_,λv=>?_],#[ff,by rw[ac d1.symm];exact f1,f2],by lia,#[ff,by rw[ac d1.symm];exact f1,S.kn.fl f1]],(by rw[ac d2.symm];exact hy),(by rw[ac d3.symm];exact hz),S.PL,λb xs h=>by
  have e2:=S.fr b xs h;rw[ac λw=>by rw[w,e] at e2;cases e2]
  exact e2]
 ·rw[ac λw=>by rw[w,e] at ex;cases ex]
  exact ex
 ·have:(fE kk' (nk u)).length<kk'.length:=by
   unfold fE;refine Vr (Od _ _) λw=>?_;rw[PN] at w;unfold has bO at hu;rw[HR,Na] at hu;obtain⟨p,hp,e1⟩:=hu;have:=w p hp;simp only[NT] at this e1;exact this e1
  lia
 ·rw[rP,k3]
  show(!decide (v=u)&&(u::Kn.values).contains v)=_
  rw[Gn];by_cases w:v=u
  ·rw[w,Gy rfl,free];rfl
  ·rw[FU w,show(v == u)=FS from beq_eq_false_iff_ne.mpr w];rfl
theorem fo.fresh (S:fo a B H n t Kn) (h:H b=FB): ¬eU B b:=by
 obtain⟨dr,e1⟩:=S.rd.ins;obtain⟨kk,k1,_⟩:=S.kn.vals;obtain⟨ff,f1,_⟩:=S.kn.funs;have hy:=S.SI;have hz:=S.R8;rintro(rfl|rfl|rfl|rfl|rfl|⟨xs,hx⟩)
 ·rw[e1] at h;cases h
 ·rw[k1] at h;cases h
 ·rw[f1] at h;cases h
 ·rw[hy] at h;cases h
 ·rw[hz] at h;cases h
 ·rw[S.fr _ _ hx] at h;cases h
end
section
variable {H H' H0:Hp}{B:Rb}{n:Fm}{t:E2}{Kn:E6}{M M':E4->Prop}
def Rb.more (B:Rb) (l:E4) (xs:EV V):Rb:= { B with bl:=#[B.bl.p,B.bl.c,λb ys=>B.bl.x b ys\/(b=l/\ys=xs)] }
theorem fo.more (S:fo a B H n t Kn) (h:H l=Fa (.lst xs)):fo a (B.more l xs) H n t Kn:=
 #[S.rd,S.wh,S.kn,S.SI,S.R8,S.PL,λb ys z=>z.elim (S.fr b ys) λ⟨e1,e2⟩=>by rw[e1,e2];exact h]
theorem fo.less (S:fo a (B.more l xs) H n t Kn):fo a B H n t Kn:=
 #[S.rd,S.wh,S.kn,S.SI,S.R8,S.PL,λb ys z=>S.fr b ys (.inl z)]
theorem fo.Qv (S:fo a (B.more l xs) H n t Kn):H l=Fa (.lst xs):=S.fr l xs (.inr #[Gc,Gc])
theorem cv (m:eU B b):eU (B.more l xs) b:=by
 rcases m with h|h|h|h|h|⟨ys,h⟩
 ·exact .inl h
 ·exact .inr (.inl h)
 ·exact .inr (.inr (.inl h))
 ·exact .inr (.inr (.inr (.inl h)))
 ·exact .inr (.inr (.inr (.inr (.inl h))))
 ·exact .inr (.inr (.inr (.inr (.inr #[ys, .inl h]))))
theorem de (m:eU (B.more l xs) b):b=l\/eU B b:=by
 rcases m with h|h|h|h|h|⟨ys,h|⟨h,_⟩⟩
 ·exact .inr (.inl h)
 ·exact .inr (.inr (.inl h))
 ·exact .inr (.inr (.inr (.inl h)))
 ·exact .inr (.inr (.inr (.inr (.inl h))))
 ·exact .inr (.inr (.inr (.inr (.inr (.inl h)))))
 ·exact .inr (.inr (.inr (.inr (.inr (.inr #[ys,h])))))
 ·exact .inl h
theorem e9:eU (B.more l xs) l:= .inr (.inr (.inr (.inr (.inr #[xs, .inr #[Gc,Gc]]))))
theorem eX (h:M l):db M H (aF H l o):=λb o' e m=>by
 rw[ac λz=>m (by rw[z];exact h)];exact e
theorem fo.write (S:fo a (B.more l xs) H n t Kn) (apart: ∀zs,¬B.bl.x l zs) (hq:l≠B.q):fo a (B.more l ys) (aF H l (.lst ys)) n t Kn:=by
 have hl:=S.Qv;obtain⟨dr,er⟩:=S.rd.ins;obtain⟨as,all,h1,h2,h3⟩:=S.rd.toks;obtain⟨kk,k1,k2,k3⟩:=S.kn.vals;obtain⟨ff,f1,f2⟩:=S.kn.funs
 have up: ∀ {b:E4}{o:HO},H b=Fa o->(∀zs,o≠ .lst zs)->aF H l (.lst ys) b=Fa o:=λe no=>by
  rw[ac λw=>by rw[w,hl] at e;exact no _ (Fs e).symm];exact e
 refine#[#[#[dr,up er (λ_ z=>nomatch z)],as,all,(by show aF H l (.lst ys) B.q=_;rw[ac hq.symm];exact h1),Paired.Np h2 λb x ⟨dx,ex⟩=>#[dx,up ex (λ_ z=>nomatch z)],h3],S.wh,
  #[#[kk,up k1 (λ_ z=>nomatch z),k2,k3],#[ff,up f1 (λ_ z=>nomatch z),f2],S.kn.len,#[ff,up f1 (λ_ z=>nomatch z),S.kn.fl f1]],up S.SI (λ_ z=>nomatch z),up S.R8 (λ_ z=>nomatch z),S.PL,λb zs z=>?_]
 rcases z with z|⟨e1,e2⟩
 ·rw[ac λw=>apart zs (by rw[<-w];exact z)]
  exact S.fr b zs (.inl z)
 ·rw[e1,e2]
  exact ae
end
theorem yz:aaU=Gp.map λu=>V.str (sb u):=by decide+kernel
theorem dD:cP (.word u)=!Vbemac.KEYS.contains u:=by
 show(!uj (.str (sb u)) aaU)=_
 congr 1
 rw[yz];unfold uj;rw[S7,EV.contains_eq_any_beq]
 congr 1
 funext z
 show(sb z == sb u)=(u == z)
 rw[GZ,beq_iff_eq,beq_iff_eq];exact#[λe=>(ee e).symm,λe=>by rw[e]]
theorem Cz (T:aU K mg a) (XC:XT K a):T.ZL.O P w mg base 6 (wo a):=by
 have G_p:=mv (P:=P) (w:=w) (base:=base) T XC;refine fQ T.ZL.F agP [03] [02];obtain⟨r,q,kd,fn,ds,bl,n,x,t,v,rfl,R,hb,hf,hg⟩:=h;obtain⟨dr,er⟩:=R.ins;refine#[_,(ax (cx (lf (cZ (cy (pv 0) T.FV T.d_p.c G_p [07] aA (aa (pv 1) ag)))) (ai (aI tG)) br)
   (ax (gD (pv 0) ak mP)
   (ai (aI tG)))),?_]
 refine#[r,dr,_,Gc,er,Gc,r,q,kd,fn,ds,bl,n,x,t,v,Gc,R,hb,λnb=>#[_,Gc,?_]];cases e:lZ v x.1 with
 |false=>exact cc (hf nb e)
 |true=>
  refine bN ?_;exact#[r,_,dr,_,_,Gc,er,T.FV,T.Kl,Gc,_,_,Gc,Gc,dr,_,er,(by show 6<1000;decide),hg nb e _ #[dr,er,Gc]]
theorem jf (T:aU K mg a) (XC:XT K a):T.ZN.O P w mg base 7 (vZ a):=by
 have G_z:=hX (P:=P) (w:=w) (base:=base) T XC
 have TR:=cT (P:=P) (w:=w) (base:=base) T XC
 have U1:=fJ (P:=P) (w:=w) (base:=base) T XC
 have G_t:=qX (P:=P) (w:=w) (base:=base) T XC;refine fQ T.ZN.F agQ [03] [02];obtain⟨r,q,kd,fn,ds,bl,g,n,⟨x,xp⟩,t,gg,rfl,R,eg,hb,hn,h4,hg⟩:=h;obtain⟨dr,er⟩:=R.ins;refine#[_,(ax (bh (bS (pv 0) T.FV T.d_z.c G_z [07] aA))
   (ax (cx (fD (nZ (dn hr) (ah (bS (pv 0) T.FV T.VR.c TR [07] aA) rfl) (pv 1))) (ai (bh (cy (pv 0) T.FV T.VS.c U1 [07] aA (aa (aR (by rfl) T.OL) ag)))) br)
   (ai (aI (bS (pv 0) T.FV T.d_t.c G_t [07] aA))))),?_]
 refine#[r,dr,_,Gc,er,Gc,r,q,kd,fn,ds,bl,n,(x,xp),t,Gc,R,hb,hn,λnb e=>?_];cases x with
 |word u=>
  refine#[r,dr,_,Gc,er,Gc,r,q,kd,fn,ds,bl,n,(.word u,xp),t,Gc,R,hb,λ_ p ⟨dx,et⟩=>#[p,_,dx,_,_,Gc,et,T.Iv,T.Jj,Gc,?_]];refine#[g,_,Gc,gy.k (k:=nk u) eg,_,Gc,aP (λe1=>?_) λe1=>?_]
  ·refine#[r,dr,_,Gc,er,Gc,r,q,kd,fn,ds,bl,n,(.word u,xp),t,4,Gc,R,?_]
   rw[E5 nb];exact h4 u rfl e e1
  ·exact#[r,dr,_,Gc,er,Gc,r,q,kd,fn,ds,bl,n,(.word u,xp),t,Gc,R,hb,λ_=>hg u rfl e e1]
 |num m=>cases e
 |sign u=>cases e
 |eof=>cases e
 |bad=>exact Fv rfl nb
theorem fF {α:Type}{p:Fe α}{n:Fm}{t:E2}{Qo:α->E2->Prop}{Qe:Fm->Gh->Prop}(e:p t=Fx n t) (nb:Fp t≠ .bad) (h:W p t Qo Qe):Qe n (HZ t):=by
 have e:p t= .error (n,HZ t):=by rw[e];unfold Fx;rw[E5 nb]
 rw[i9 e] at h;exact h
theorem ahX {α:Type}{p p':Fe α}{t:E2}{Qo:α->E2->Prop}{Qe:Fm->Gh->Prop}(e:p t=p' t) (h:W p t Qo Qe):W p' t Qo Qe:=by
 unfold W at h ⊢;rw[<-e];exact h
abbrev QE (a:bf) (B:Rb) (H0:Hp) (E:XK):Fm->Gh->Prop:=λk x=> ∀H',db (eU B) H0 H'->oF a.HA E H' k x
theorem c9 {t:E2} :Wl ((.word u,xp)::t)=if Gp.contains u=FM then Fx 2 ((.word u,xp)::t) else .ok (u,t):=rfl
theorem iM {Kn:E6}{t:E2}(h:Gp.contains u=FM):Gz Kn ((.word u,xp)::t)=Fx 2 ((.word u,xp)::t):=by
 unfold Gz;rw[c9,E7 h]
 rfl
theorem eD {Kn:E6}{t:E2}(h:Gp.contains u=FS):Gz Kn ((.word u,xp)::t)=if Kn.taken u=FM then Fx 4 ((.word u,xp)::t) else .ok (u,t):=by
 unfold Gz;rw[c9,E5 (by rw[h];exact EZ)]
structure Zf (β:Type) where
 a:bf
 E:XK
 B:Rb
 L:Fm
 H0:Hp
 Ro:β->E2->Prop
inductive CB (X:Cx) (x:FD) (ps:EV FD) (sp:Sp):Prop
 |mk {k:Fm}{f:E4}{fd:Gb}(F:bU X.prog X.w X.K X.mg X.base (fY X.prog X.w) k f fd ps sp) (hr:bX k X.A) (d:CD X.K X.mg x f fd ps) (hg:Gl X x):CB X x ps sp
structure RX (X:Cx) (a:bf) (E:XK):Prop where
 T:aU X.K X.mg a
 C:XT X.K a
 hr:bX 8 X.A
 up:dg (fY X.prog X.w) X E
 lv:PR (model X.prog X.w) X.A X.env X.xe
 nd:X.N.Nodup
 n0:X.N[0]?=Fa ("reader":FD)
 v0:oS X.env.scope "reader"
structure RS {β:Type}(Z:Zf β) (F:EV (Fk×V)) (b:Gg) (H:Hp) (t:E2) (Kn:E6) (p:Fe β):Prop where
 S: ∃n,fo Z.a Z.B H n t Kn
 k:db (eU Z.B) Z.H0 H
 f: ∀ {i:Fm}{x:Fk×V},F[i]?=Fa x->jh Z.a (eU Z.B) H x
 l:t.length+b.toNat<=Z.L
 w:W p t Z.Ro (QE Z.a Z.B Z.H0 Z.E)
section
variable {β:Type}{Z:Zf β}{H H':Hp}{p p':Fe β}
theorem RS.go (R:RS Z F b H t Kn p) (S:fo Z.a Z.B H' n t' Xl) (k:db (eU Z.B) H H') (l:t'.length+b'.toNat<=Z.L) (w:W p' t' Z.Ro (QE Z.a Z.B Z.H0 Z.E)):RS Z F b' H' t' Xl p':=
 #[#[n,S],R.k.trans k,λe=>jh.HH k.two (R.f e),l,w]
theorem RS.and (R:RS Z F b H t Kn p) (h:jh Z.a (eU Z.B) H e):RS Z (e::F) b H t Kn p:=
 #[R.S,R.k,λ{i x} q=>match i,q with
  |0,q=>by cases q;exact h
  |i+1,q=>R.f (i:=i) q,R.l,R.w]
theorem RS.as (R:RS Z F b H t Kn p) (e:p t=p' t):RS Z F b H t Kn p':=#[R.S,R.k,R.f,R.l,ahX e R.w]
theorem RS.one (R:RS Z F b H (x::t) Kn p):t.length+1<=Z.L:=FA (JN _ _) R.l
theorem RS.past (R:RS Z F b H (x::t) Kn p) (S:fo Z.a Z.B H n (x::t) Kn) (hx: ¬jH x) (h:OS.past Z.a H Z.B.r Z.B.q Z.B.kd Z.B.fn Z.B.ds.p Z.B.bl.p n H') (w:W p' t Z.Ro (QE Z.a Z.B Z.H0 Z.E)):RS Z F FM H' t Kn p':=
 R.go (S.past hx h) (uG h) R.one w
end
structure XpP (v:FD) (p:Fe MZ) (x:Gs×Gh) (r:E2):Prop where
 bad:x.1= .bad->p (x::r)= .error (1,x.2)
 no:x.1≠ .bad->lZ v x.1=FS->p (x::r)= .error (2,x.2)
 yes:x.1≠ .bad->lZ v x.1=FM->p (x::r)= .ok ((),r)/\ ¬jH x
theorem d7.p {v:FD}{s:String}(l:d7 v (EY s)) (r:E2) (ok:gb x.1):XpP v (FX s) x r:=by
 refine#[λb=>bi s (x::r) b,λnb e=>?_,λnb e=>?_]
 ·rw[cQ ok l] at e
  show(if FY (x::r) s=FM then _ else Fx 2 (x::r))=_
  rw[E5 (by show¬(x.1 == .sign (EY s))=FM;rw[e];exact EZ)];unfold Fx;rw[E5 (show¬Fp (x::r)= .bad from nb)]
  rfl
 ·rw[cQ ok l] at e
  refine#[?_,λz=>?_]
  ·show(if FY (x::r) s=FM then _ else Fx 2 (x::r))=_
   rw[E7 (by show(x.1 == .sign (EY s))=FM;exact e)]
   rfl
  ·have:=beq_iff_eq.mp e
   exact z.elim (λz=>by rw[this] at z;cases z) nb
theorem cX.p {v:FD}{s:String}(l:cX v (EY s)) (r:E2) (ok:gb x.1):XpP v (Hc s) x r:=by
 refine#[λb=>eT s (x::r) b,λnb e=>?_,λnb e=>?_]
 ·rw[b4 ok l] at e
  show(if Ff (x::r) s=FM then _ else Fx 2 (x::r))=_
  rw[E5 (by show¬(x.1 == .word (EY s))=FM;rw[e];exact EZ)];unfold Fx;rw[E5 (show¬Fp (x::r)= .bad from nb)]
  rfl
 ·rw[b4 ok l] at e
  refine#[?_,λz=>?_]
  ·show(if Ff (x::r) s=FM then _ else Fx 2 (x::r))=_
   rw[E7 (by show(x.1 == .word (EY s))=FM;exact e)]
   rfl
  ·have:=beq_iff_eq.mp e
   exact z.elim (λz=>by rw[this] at z;cases z) nb
theorem AT {v:FD}(r:E2) (e:lZ v x.1=FM) (nb:x.1≠ .bad) (nf: ¬jH x):XpP v Gq x r:=
 #[λb=>Fv b nb,λ_ z=>(by rw[e] at z;cases z),λ_ _=>#[Gc,nf]]
theorem RS.tok {β:Type}{Z:Zf β}{F:EV (Fk×V)}{b:Gg}{H:Hp}{t:E2}{Kn:E6}{p:Fe β}(R:RS Z F b H t Kn p):gb (Fp t):=by
 rw[00];obtain⟨x,t',rfl,tok,QN,_,_⟩:=S.wh.first;exact tok
section
variable {X:Cx}{β:Type}{Z:Zf β}{F:EV (Fk×V)}{b:Gg}{H:Hp}{t:E2}{Kn:E6}{D:d8}{ss:EV Stmt}{σ:L2.St}{p0 p1 p2 p3 p4 p5:Pos}{j:Fm}{v y:FD}{s:String}{E:XK}{Q:VK}{B:Rb}{n:Fm}{m:FD}{f:E4}{fd:Gb}{ps:EV FD}{sp:Sp}{k:Fm}{CX:pw}{E':XK}{p:Fe β}
theorem RX.rd (Y:RX X a E):PE X [005] (kQ 0):=dR Y.n0 Y.v0
theorem RX.m1 (Y:RX X a E) (d:MD X.K a.Gm m f fd ps) (G:bU X.prog X.w X.K X.mg X.base CX k f fd ps sp) (hk:k<=8) (up:dg CX X E') (S:fo a B H n t Kn) (hm:(rD B.q B.kd B.fn B.ds.p B.bl.p n).lookup m=FB) (q:Pe X e (Fa (.ref B.r)::σ) H λv H1=>sp [.ref B.r,v] H1 Q E')
  (hp:ip p2 p4) (Kd:Fy [e] X.env=[[001]]):Pe X (.Call (.Attribute [005] m p2) [e] [] p4) (Fa (.ref B.r)::σ) H Q:=by
 obtain⟨dr,er⟩:=S.rd.ins;exact#[_,cy Y.rd Y.T.FV d G (Y.hr.mono hk) up (aa dq ag Kd) Kd rfl (d9 hp (by rw[Kd];rfl)),B.r,dr,_,Gc,er,hm,q]
theorem RX.m0 (Y:RX X a E) (d:MD X.K a.Gm m f fd ps) (G:bU X.prog X.w X.K X.mg X.base CX k f fd ps sp) (hk:k<=8) (up:dg CX X E') (S:fo a B H n t Kn) (hm:(rD B.q B.kd B.fn B.ds.p B.bl.p n).lookup m=FB) (q:sp [.ref B.r] H Q E')
  (hp:ip p2 p4):Pe X (.Call (.Attribute [005] m p2) [] [] p4) (Fa (.ref B.r)::σ) H Q:=by
 obtain⟨dr,er⟩:=S.rd.ins;exact#[_,bS Y.rd Y.T.FV d G (Y.hr.mono hk) up (d9 hp rfl),B.r,dr,_,Gc,er,hm,q]
theorem wd {e:Hv}{te:TE}{u:Fe MZ}{g:MZ->Fe β}(Y:RX X Z.a Z.E) (R:RS Z F b H t Kn (u>>=g)) (he:PE X e te) (hv: ∀Q:VK,Q (.str v) H->te (Fa (.ref Z.B.r)::σ) H Q) (l: ∀ {x:Gs×Gh} r,t=x::r->gb x.1->XpP v u x r) (q: ∀H' t',RS Z F FM H' t' Kn (g ())->Bd X ss D (Fa (.ref Z.B.r)::σ) H') (hp:ip p2 p4:=by rfl) (Kd:Fy [e] X.env=[[001]]:=by rfl):
  Bd X (.Expr (.Call (.Attribute [005] "expect" p2) [e] [] p4) p5::ss) D (Fa (.ref Z.B.r)::σ) H:=by
 rw[00];obtain⟨x,t',rfl,tok,QN,MJ,_⟩:=S.wh.first;have hW:=R.w;rw[jE] at hW;have l:=l t' rfl tok;refine bE (Y.m1 Y.T.ZK.c (xR Y.T Y.C) [01] Y.up S rfl #[_,he,hv _ #[Z.B.r,Z.B.q,Z.B.kd,Z.B.fn,Z.B.ds,Z.B.bl,n,x,t',v,Gc,S.rd,λb=>?_,λnb e=>?_,λnb e H' hp=>?_]] hp Kd)
 ·rw[i9 (l.bad b)] at hW;exact hW H R.k
 ·rw[i9 (l.no nb e)] at hW;exact hW H R.k
 ·obtain⟨h1,h2⟩:=l.yes nb e
  rw[yI h1] at hW;exact q H' t' (R.past S h2 hp hW)
theorem mn {te:TE}(Y:RX X Z.a Z.E) (R:RS Z F b H t Kn p) (he:PE X e te) (hv: ∀Q:VK,Q (.str v) H->te (Fa (.ref Z.B.r)::σ) H Q) (hb:Fp t= .bad->QE Z.a Z.B Z.H0 Z.E 1 (HZ t)) (q:Fp t≠ .bad->Q (.bl (lZ v (Fp t))) H) (hp:ip p2 p4:=by rfl) (Kd:Fy [e] X.env=[[001]]:=by rfl):
  Pe X (.Call (.Attribute [005] "sees" p2) [e] [] p4) (Fa (.ref Z.B.r)::σ) H Q:=by
 rw[00];obtain⟨x,t',rfl,tok,QN,MJ,_⟩:=S.wh.first;exact Y.m1 Y.T.d_p.c (mv Y.T Y.C) [01] Y.up S rfl #[_,he,hv _ #[Z.B.r,Z.B.q,Z.B.kd,Z.B.fn,Z.B.ds,Z.B.bl,n,x,t',v,Gc,S.rd,λb=>hb (QN.trans b) H R.k,q]] hp Kd
theorem qw {u:Fe MZ}{g:MZ->Fe β}(Y:RX X Z.a Z.E) (R:RS Z F b H t Kn (u>>=g)) (l: ∀ {x:Gs×Gh} r,t=x::r->gb x.1->XpP v u x r) (q: ∀H' t',RS Z F FM H' t' Kn (g ())->Bd X ss D (Fa (.ref Z.B.r)::σ) H') (hp:ip p2 p4:=by rfl):
  Bd X (.Expr (.Call (.Attribute [005] "expect" p2) [.Constant (.str v) j p3] [] p4) p5::ss) D (Fa (.ref Z.B.r)::σ) H:=wd Y R dJ [05] l q hp
theorem cE {g:MZ->Fe β}(Y:RX X Z.a Z.E) (lit:d7 v (EY s)) (R:RS Z F b H t Kn (FX s>>=g)) (q: ∀H' t',RS Z F FM H' t' Kn (g ())->Bd X ss D (Fa (.ref Z.B.r)::σ) H') (hp:ip p2 p4:=by rfl):
  Bd X (.Expr (.Call (.Attribute [005] "expect" p2) [.Constant (.str v) j p3] [] p4) p5::ss) D (Fa (.ref Z.B.r)::σ) H:=qw Y R (λr _ ok=>lit.p r ok) q hp
theorem kN {g:MZ->Fe β}(Y:RX X Z.a Z.E) (lit:cX v (EY s)) (R:RS Z F b H t Kn (Hc s>>=g)) (q: ∀H' t',RS Z F FM H' t' Kn (g ())->Bd X ss D (Fa (.ref Z.B.r)::σ) H') (hp:ip p2 p4:=by rfl):
  Bd X (.Expr (.Call (.Attribute [005] "expect" p2) [.Constant (.str v) j p3] [] p4) p5::ss) D (Fa (.ref Z.B.r)::σ) H:=qw Y R (λr _ ok=>lit.p r ok) q hp
theorem iT (Y:RX X Z.a Z.E) (R:RS Z F b H t Kn p) (st:aK p) (q:Fp t≠ .bad->Q (.bl (lZ v (Fp t))) H) (hp:ip p2 p4:=by rfl):
  Pe X (.Call (.Attribute [005] "sees" p2) [.Constant (.str v) j p3] [] p4) (Fa (.ref Z.B.r)::σ) H Q:=mn Y R dJ [05] (λb=>st.Lw b R.w) q hp
theorem iY (Y:RX X Z.a Z.E) (R:RS Z F b H t Kn p) (nb:Fp t≠ .bad) (q:Q (.bl (lZ v (Fp t))) H) (hp:ip p2 p4:=by rfl):
  Pe X (.Call (.Attribute [005] "sees" p2) [.Constant (.str v) j p3] [] p4) (Fa (.ref Z.B.r)::σ) H Q:=mn Y R dJ [05] (λb=>Fv b nb) (λ_=>q) hp
theorem Yz {c:Gs->Gg}(Y:RX X Z.a Z.E) (d:MD X.K Z.a.Gm m f fd ps) (G:bU X.prog X.w X.K X.mg X.base (fY X.prog X.w) k f fd ps (t9 Z.a c)) (hk:k<=8) (hm: ∀n,(rD Z.B.q Z.B.kd Z.B.fn Z.B.ds.p Z.B.bl.p n).lookup m=FB) (R:RS Z F b H t Kn p) (st:aK p) (q:Fp t≠ .bad->Q (.bl (c (Fp t))) H) (hp:ip p2 p4:=by rfl):
  Pe X (.Call (.Attribute [005] m p2) [] [] p4) (Fa (.ref Z.B.r)::σ) H Q:=by
 rw[00];obtain⟨x,t',rfl,tok,QN,MJ,_⟩:=S.wh.first;exact Y.m0 d G hk Y.up S (hm n) #[Z.B.r,Z.B.q,Z.B.kd,Z.B.fn,Z.B.ds,Z.B.bl,n,x,t',Gc,S.rd,λb=>st.Lw (QN.trans b) R.w H R.k,q] hp
theorem iq {g:MZ->Fe β}(Y:RX X Z.a Z.E) (R:RS Z F b H (x::r) Kn (Gq>>=g)) (nf: ¬jH x) (q: ∀H',RS Z F FM H' r Kn (g ())->Q (ii x.1) H') (hp:ip p2 p4:=by rfl):
  Pe X (.Call (.Attribute [005] "take" p2) [] [] p4) (Fa (.ref Z.B.r)::σ) H Q:=by
 rw[00];exact Y.m0 Y.T.d_t.c (qX Y.T Y.C) [01] Y.up S rfl #[Z.B.r,Z.B.q,Z.B.kd,Z.B.fn,Z.B.ds,Z.B.bl,n,x,r,Gc,S.rd,λb=>Fv (.inr b) nf,λ_ H' hp=>q H' (R.past S nf hp R.w)] hp
theorem qU {e:Hv}{i:Fm}(Y:RX X Z.a Z.E) (he:PE X e (tC (.int i))) (R:RS Z F b H t Kn p) (nb:Fp t≠ .bad) (h:p t=Fx i t) (hp:ip p2 p4:=by rfl) (Kd:Fy [e] X.env=[[001]]:=by rfl):
  Pe X (.Call (.Attribute [005] "fail" p2) [e] [] p4) (Fa (.ref Z.B.r)::σ) H Q:=by
 rw[00];obtain⟨x,t',rfl,tok,QN,MJ,_⟩:=S.wh.first;refine Y.m1 Y.T.VS.c (fJ Y.T Y.C) [01] Y.up S rfl #[_,he,Z.B.r,Z.B.q,Z.B.kd,Z.B.fn,Z.B.ds,Z.B.bl,n,x,t',i,Gc,S.rd,?_] hp Kd;rw[E5 (show¬x.1= .bad from nb)];exact fF h nb R.w H R.k
theorem p_g (Y:RX X Z.a Z.E) (R:RS Z F b H t Kn p) (st:aK p) (h:Fp t≠ .bad->cP (Fp t)=FS->p t=Fx 2 t) (q:Fp t≠ .bad->cP (Fp t)=FM->Q .Iw H) (hp:ip p2 p4:=by rfl):
  Pe X (.Call (.Attribute [005] "need_name" p2) [] [] p4) (Fa (.ref Z.B.r)::σ) H Q:=by
 rw[00];obtain⟨x,t',rfl,tok,QN,MJ,_⟩:=S.wh.first;exact Y.m0 Y.T.d_z.c (hX Y.T Y.C) [01] Y.up S rfl #[Z.B.r,Z.B.q,Z.B.kd,Z.B.fn,Z.B.ds,Z.B.bl,n,x,t',Gc,S.rd,λb=>st.Lw (QN.trans b) R.w H R.k,λnb e=>fF (h nb e) nb R.w H R.k,q] hp
theorem vr (Y:RX X Z.a Z.E) (R:RS Z F b H t Kn p) (hb:Fp t= .bad->QE Z.a Z.B Z.H0 Z.E 1 (HZ t)) (q:Fp t≠ .bad->Q (ii (Fp t)) H) (hp:ip p2 p4:=by rfl):
  Pe X (.Attribute (.Call (.Attribute [005] "current" p2) [] [] p4) "value" p5) (Fa (.ref Z.B.r)::σ) H Q:=by
 rw[00];obtain⟨x,t',rfl,tok,QN,MJ,_⟩:=S.wh.first;refine#[_,ah dq rfl,Y.m0 Y.T.VR.c (cT Y.T Y.C) [01] Y.up S rfl #[Z.B.r,Z.B.q,Z.B.kd,Z.B.fn,Z.B.ds,Z.B.bl,n,x,t',Gc,S.rd,λb=>hb (QN.trans b) H R.k,λnb c ⟨dx,et⟩=>#[c,_,dx,_,_,Gc,et,Y.T.Iv,Y.T.Jj,Gc,q nb]] hp]
theorem ahY (Y:RX X Z.a Z.E) (R:RS Z F b H t Kn p) (st:aK p) (q:Fp t≠ .bad->Q (ii (Fp t)) H) (hp:ip p2 p4:=by rfl):
  Pe X (.Attribute (.Call (.Attribute [005] "current" p2) [] [] p4) "value" p5) (Fa (.ref Z.B.r)::σ) H Q:=vr Y R (λb=>st.Lw b R.w) q hp
theorem RS.cons (R:RS Z F b H t Kn p): ∃x r,t=x::r:=by
 rw[00];obtain⟨x,t',e,_⟩:=S.wh.first;exact#[x,t',e]
theorem abc (Y:RX X Z.a Z.E) (R:RS Z F b H (x::r) Kn p) (nf: ¬jH x) (q:Q (.bl (lT (Fp r))) H) (hp:ip p2 p4:=by rfl):
  Pe X (.Call (.Attribute [005] "number_follows" p2) [] [] p4) (Fa (.ref Z.B.r)::σ) H Q:=by
 rw[00];obtain⟨y,r',rfl,_⟩:=(S.wh.tail nf).2.first;exact Y.m0 Y.T.ZJ.c (kG Y.T) [01] aV S rfl #[Z.B.r,Z.B.q,Z.B.kd,Z.B.fn,Z.B.ds,Z.B.bl,n,x,y,r',Gc,S.rd,q] hp
theorem abd {te:TE}{C:Gg->Hp->Prop}(Y:RX X Z.a Z.E) (R:RS Z F b H t Kn p) (he:PE X e te) (hv: ∀Q:VK,Q (.str (sb u)) H->te (Fa (.ref Z.B.r)::σ) H Q) (q:C ((Kn.funs.find? λf=>f.1 == u).isSome) H):
  Pt X (.Compare e [.In] [.Attribute [005] "functions" p2] p3) (Fa (.ref Z.B.r)::σ) H C:=by
 rw[00];obtain⟨dr,er⟩:=S.rd.ins;obtain⟨ff,f1,f2⟩:=S.kn.funs;refine#[_,fD (nZ (dn Y.hr) he (ah Y.rd rfl)),hv _ #[Z.B.r,_,dr,_,_,Gc,er,Y.T.FV,Y.T.Iy,Gc,Z.B.fn,_,Gc,gy.k (k:=nk u) f1,_,Gc,?_]];rw[f2,HR];exact q
theorem abe {te:TE}{C:Gg->Hp->Prop}(Y:RX X Z.a Z.E) (R:RS Z F b H t Kn p) (he:PE X e te) (hv: ∀Q:VK,Q (.str (sb u)) H->te (Fa (.ref Z.B.r)::σ) H Q) (q:C (!Kn.values.contains u) H):
  Pt X (.Compare e [.NotIn] [.Attribute [005] "known" p2] p3) (Fa (.ref Z.B.r)::σ) H C:=by
 rw[00];obtain⟨dr,er⟩:=S.rd.ins;obtain⟨kk,k1,k2,k3⟩:=S.kn.vals;refine#[_,fD (iV (dn Y.hr) he (ah Y.rd rfl)),hv _ #[Z.B.r,_,dr,_,_,Gc,er,Y.T.FV,Y.T.JV,Gc,Z.B.kd,_,Gc,gy.k (k:=nk u) k1,_,Gc,?_]];have:=k3 u;unfold has at this;rw[this];exact q
theorem sx (i:Fm) {g:EW->Fe β}(Y:RX X Z.a Z.E) (R:RS Z F b H t Kn (Gz Kn>>=g)) (q: ∀u H' t',cX (sb u) u->Gp.contains u=FS->Kn.taken u=FS->RS Z F FM H' t' Kn (g u)->Bd X ss D ((Fa (.ref Z.B.r)::σ).set i (Fa (.str (sb u)))) H')
  (h:Sl X i y:=by exact#[Gc,GO rfl,Gc]) (hp:ip p2 p4:=by rfl):
  Bd X (.Assign [.Name y p0] (.Call (.Attribute [005] "take_free_name" p2) [] [] p4) p5::ss) D (Fa (.ref Z.B.r)::σ) H:=by
 rw[00];obtain⟨dr,er⟩:=S.rd.ins;obtain⟨⟨x,xp⟩,t',rfl,tok,QN,MJ,_⟩:=S.wh.first;obtain⟨kk,k1,k2,k3⟩:=S.kn.vals;obtain⟨ff,f1,f2⟩:=S.kn.funs;have hW:=R.w;rw[jE] at hW;have tk: ∀u,(has kk u||has ff u)=Kn.taken u:=λu=>by
  unfold NU;rw[k3]
  congr 1
  unfold has;rw[f2,HR,GZ,Na,LL]
 refine aN i Y.nd (Y.m0 Y.T.ZM.c (jP Y.T Y.C) [01] Y.up S rfl #[Z.B.r,Z.B.q,Z.B.kd,Z.B.fn,Z.B.ds,Z.B.bl,n,(x,xp),t',kk,ff,Gc,S.rd,k1,f1,λb=>(fP Kn).Lw (QN.trans b) hW H R.k,λnb e=>?_,λu ex e e4=>?_,λu ex e e4 H' hp=>?_] hp) h
 ·refine fF (p:=Gz Kn) (n:=2) (t:=(x,xp)::t') ?_ nb hW H R.k
  cases x with
  |word u=>
   rw[dD] at e;have RN:Gp.contains u=FM:=by cases h:Gp.contains u;rw[h] at e;cases e;rfl
   exact iM RN
  |num m=>rfl
  |sign s=>rfl
  |eof=>rfl
  |bad=>exact Fv rfl nb
 ·obtain rfl:x= .word u:=ex
  rw[dD] at e;have RN:Gp.contains u=FS:=by cases h:Gp.contains u;rfl;rw[h] at e;cases e
  refine fF (p:=Gz Kn) (n:=4) (t:=(.word u,xp)::t') ?_ (λz=>nomatch z) hW H R.k
  rw[eD RN,E7 (by rw[<-tk];exact e4)]
 ·obtain rfl:x= .word u:=ex
  rw[dD] at e;have RN:Gp.contains u=FS:=by cases h:Gp.contains u;rfl;rw[h] at e;cases e
  have ft:Kn.taken u=FS:=by rw[<-tk];exact e4
  have en:Gz Kn ((.word u,xp)::t')= .ok (u,t'):=by
   rw[eD RN,E5 (by rw[ft];exact EZ)]
  rw[yI en] at hW;exact q u H' t' #[Gc,tok.1,tok.2] RN ft (R.past S (λz=>z.elim (λz=>nomatch z) λz=>nomatch z) hp hW)
theorem i4 (i:Fm) {g:EW->Fe β}(Y:RX X Z.a Z.E) (R:RS Z F b H t Kn (Gz Kn>>=g)) (q: ∀u H' t',Kn.taken u=FS->RS Z F FM H' t' Kn (g u)->Bd X ss D ((Fa (.ref Z.B.r)::σ).set i (Fa (.str (sb u)))) H')
  (h:Sl X i y:=by exact#[Gc,GO rfl,Gc]) (hp:ip p2 p4:=by rfl):
  Bd X (.Assign [.Name y p0] (.Call (.Attribute [005] "take_free_name" p2) [] [] p4) p5::ss) D (Fa (.ref Z.B.r)::σ) H:=sx i Y R (λu H' t' _ _=>q u H' t') h hp
theorem jt (h:Kn.taken u=FS):Kn.values.contains u=FS:=(LZ.mp h).1
theorem gH {te:TE}(Y:RX X Z.a Z.E) (he:PE X e te) (hv: ∀Q:VK,Q (.str (sb u)) H->te (Fa (.ref Z.B.r)::σ) H Q) (ft:Kn.taken u=FS) (hm:Kn.values.length+Z.L<=4000) (R:RS Z F FM H t Kn p)
  (q: ∀H',RS Z F FM H' t (Kn.with u) p->Bd X ss D (Fa (.ref Z.B.r)::σ) H') (hp:ip p2 p4:=by rfl) (Kd:Fy [e] X.env=[[001]]:=by rfl):
  Bd X (.Expr (.Call (.Attribute [005] "learn" p2) [e] [] p4) p5::ss) D (Fa (.ref Z.B.r)::σ) H:=by
 rw[00];obtain⟨dr,er⟩:=S.rd.ins;obtain⟨kk,k1,k2,k3⟩:=S.kn.vals;have l:=R.l;have l:t.length+1<=Z.L:=l;refine bE (Y.m1 Y.T.ZO.c (zV Y.T) [01] aV S rfl #[_,he,hv _ #[Z.B.r,dr,Z.B.q,Z.B.kd,Z.B.fn,Z.B.ds,Z.B.bl,n,u,kk,Gc,er,k1,F9 (show kk.length<=4000 by lia) [01],?_]] hp Kd);exact q _ (R.go (S.ahW (jt ft) (by lia) k1) (eX (.inr (.inl rfl))) l R.w)
theorem lA {te:TE}(Y:RX X Z.a Z.E) (he:PE X e te) (hv: ∀Q:VK,Q (.str (sb u)) H->te (Fa (.ref Z.B.r)::σ) H Q) (ft:Kn.taken u=FS) (R:RS Z F b H t (Kn.with u) p)
  (q: ∀H',RS Z F b H' t Kn p->Bd X ss D (Fa (.ref Z.B.r)::σ) H') (hp:ip p2 p4:=by rfl) (Kd:Fy [e] X.env=[[001]]:=by rfl):
  Bd X (.Expr (.Call (.Attribute [005] "forget" p2) [e] [] p4) p5::ss) D (Fa (.ref Z.B.r)::σ) H:=by
 rw[00];obtain⟨dr,er⟩:=S.rd.ins;obtain⟨kk,k1,k2,k3⟩:=S.kn.vals;obtain⟨hu,S'⟩:=S.forget (jt ft) k1;refine bE (Y.m1 Y.T.WO.c (pU Y.T) [01] aV S rfl #[_,he,hv _ #[Z.B.r,dr,Z.B.q,Z.B.kd,Z.B.fn,Z.B.ds,Z.B.bl,n,u,kk,Gc,er,k1,hu,?_]] hp Kd);exact q _ (R.go S' (eX (.inr (.inl rfl))) R.l R.w)
theorem RX.call2 {sp:Sp}{te:TE}(Y:RX X a E) (c:CB X x ["reader","depth"] sp) (he:PE X e te) (hx:(x == [003])=FS) (Kd:Fy [e] X.env=[[001]]):PE X (.Call (.Name x p1) [.Name "reader" p2,e] [] p4) (zY sp [] E (Df (kQ 0) (Df te CN))):=by
 obtain⟨G,hr,d,hg⟩:=c;exact aJ G hr hg d Y.up (aa Y.rd (aa he ag Kd) (by show _::Fy [e] X.env=_;rfl)) hx rfl (by rw[Kd];rfl)
end
def RoX (a:bf) (B:Rb) (H0:Hp) (L:Fm) (Kn:E6) (Q:VK) (e:Fc) (t:E2):Prop:= ∀H' v n,t.length<L->fo a B H' n t Kn->db (eU B) H0 H'->au a (eU B) H' e v->Q v H'
def Rz (w2:Gg) (a:bf) (B:Rb) (H0:Hp) (L:Fm) (Kn:E6) (Q:VK) (E:XK) (e:Fc) (t:E2):Prop:=if w2=FM/\Fp t= .bad then QE a B H0 E 1 (HZ t) else RoX a B H0 L Kn Q e t
inductive aX (a:bf) (w2:Gg) (p:Fm->Fm->E6->Fe Fc) (c:Fm) (ok:Fm->E6->E2->Prop) (vs:EV V) (H:Hp) (Q:VK) (E:XK):Prop
 |mk (B:Rb) (n:Fm) (t:E2) (Kn:E6) (d:Fm) (fuel:Fm) (_:vs=[.ref B.r, .int d]) (_:d<=12) (_:ok d Kn t) (_:fo a B H n t Kn) (_:16*t.length+c<=fuel) (_:W (p fuel (12-d) Kn) t (Rz w2 a B H t.length Kn Q E) (QE a B H E)):aX a w2 p c ok vs H Q E
def Lv (j:Fm):Fm->E6->E2->Prop:=λd _ _=>13<=d+j
def LvS (j:Fm) (s:EW):Fm->E6->E2->Prop:=λd _ t=>13<=d+j/\Fp t= .sign s
def LvW (j:Fm) (s:EW):Fm->E6->E2->Prop:=λd _ t=>13<=d+j/\Fp t= .word s
def LvC (j:Fm):Fm->E6->E2->Prop:=λd K t=>13<=d+j/\ ∃u f,Fp t= .word u/\u≠EY "sum"/\Gp.contains u=FS/\K.funs.find? (λf=>f.1 == u)=Fa f
section
variable {k:Fm}{w2:Gg}{pp:Fm->Fm->E6->Fe Fc}{c:Fm}{ok:Fm->E6->E2->Prop}{x GU:FD}{st:Stmt}{f:E4}{fd:Gb}{N:EV FD}{ps:EV FD}
theorem jU {s:E8}{H:Hp}{E:XK}(T:aU K mg a) (XC:XT K a) (hk:8<=k) (S:az N ("reader"::ps) (af st)) (hr:bX k (A.deeper (Jz GU (af st) s.heap.objs.size f GF))):
  RX (e8 (fY P w) P w K mg base N GU (af st) f GF A outer s H E) a E:=
 #[T,XC,hr.mono hk,aA,IS,S.nd,by
  have e:=S.pre;cases N with
  |nil=>cases e
  |cons x l=>exact Ga Fa (Js e).1,(S.par "reader" Fb).elim .inl λz=> .inr (.inl z)]
theorem vk (T:aU K mg a) (XC:XT K a) (hk:8<=k) (F:oU K x GU st f fd) (S:az N ["reader","depth"] (af st))
  (Jv: ∀(GF:E3) (A:GG) (outer:EV Env) (s:E8) (H:Hp) (B:Rb) (t:E2) (Kn:E6) (d fuel:Fm) (Q:VK) (E:XK),bX k (A.deeper (Jz GU (af st) s.heap.objs.size f GF))->d<=12->ok d Kn t->16*t.length+c<=fuel->Kn.values.length+t.length<=4000->
   let X:=e8 (fY P w) P w K mg base N GU (af st) f GF A outer s H E
   let D:d8:= { nx:=λ_ H'=>Q .Iw H',rt:=Q }
   let Z:Zf Fc:=#[a,E,B,t.length,H,Rz w2 a B H t.length Kn Q E]
   RX X a E->RS Z [] FS H t Kn (pp fuel (12-d) Kn)->Bd X (be st) D (L2.start N [.ref B.r, .int d]) H):bU P w K mg base (fY P w) (k+1) f fd ["reader","depth"] (aX a w2 pp c ok):=by
 refine fQ F S [03] [02];obtain⟨B,n,t,Kn,d,fuel,rfl,hd,ho,St,hf,hW⟩:=h;exact Jv GF A outer s H B t Kn d fuel Q E hr hd ho hf St.kn.len (jU T XC hk S hr) #[#[n,St],db.refl,λ{i x} e=>(by cases e),Fq _,hW]
end
section
variable {X:Cx}{β:Type}{Z:Zf β}{F:EV (Fk×V)}{b:Gg}{H:Hp}{t:E2}{Kn:E6}{D:d8}{ss:EV Stmt}{σ:L2.St}{p0 p1 p2 p3 p4 p5:Pos}{j:Fm}{v y:FD}{s:String}{E:XK}{d:Fm}
theorem RS.done {H0:Hp}{w2:Gg}{Q:VK}{v:V}(R:RS #[a,E,B,L,H0,Rz w2 a B H0 L Kn Q E] F FM H t Kn (pure e)) (h:au a (eU B) H e v) (nb:w2=FM->Fp t≠ .bad:=by intro z;cases z):Q v H:=by
 rw[00];have w:=R.w;rw[Cn] at w;have w:Rz w2 a B H0 L Kn Q E e t:=w;unfold Rz at w;rw[E5 λz=>nb z.1 z.2] at w;exact w H v n R.l S R.k h
theorem RS.tail {w2:Gg}{Q:VK}{pp:Fm->Fm->E6->Fe Fc}{c f:Fm}{ok:Fm->E6->E2->Prop}(R:RS #[a,E,B,t.length,H,Rz w2 a B H t.length Kn Q E] F b H t Kn (pp f (12-d) Kn)) (hd:d<=12) (ho:ok d Kn t) (hf:16*t.length+c<=f):aX a w2 pp c ok [.ref B.r, .int d] H Q E:=by
 rw[00];exact#[B,n,t,Kn,d,f,Gc,hd,ho,S,hf,R.w]
theorem zm (i:Fm) {g:Fm->Fe β}(Y:RX X Z.a Z.E) (hd:d<=12) (nb:Fp t≠ .bad) (R:RS Z F b H t Kn (Hh (12-d)>>=g)) (q:d<12->RS Z F b H t Kn (g (12-(d+1)))->Bd X ss D ((Fa (.ref Z.B.r)::Fa (.int d)::σ).set i (Fa (.int ((d+1:Fm):Int)))) H)
  (h:Sl X i y:=by exact#[Gc,GO rfl,Gc]) (h1:X.N[1]?=Fa ("depth":FD):=by rfl) (v1:oS X.env.scope "depth":=by exact GO rfl) (hg:Gl X "deeper":=by rfl):
  Bd X (.Assign [.Name y p0] (.Call (.Name "deeper" p1) [.Name "reader" p2, .Name "depth" p3] [] p4) p5::ss) D (Fa (.ref Z.B.r)::Fa (.int d)::σ) H:=by
 rw[00];obtain⟨⟨x,xp⟩,t',rfl,tok,QN,MJ,_⟩:=S.wh.first;have hW:=R.w;rw[jE] at hW;have nx:x≠ .bad:=nb;refine aN i Y.nd (h:=h) #[_,Y.call2 #[alB Y.T Y.C,Y.hr.mono [01],Y.T.d_f.c,hg] (dR h1 v1) [01] rfl,Z.B.r,Z.B.q,Z.B.kd,Z.B.fn,Z.B.ds,Z.B.bl,n,(x,xp),t',d,Gc,S.rd,λe=>?_,λe=>?_]
 ·rw[E5 nx]
  exact fF (p:=Hh (12-d)) (n:=6) (by unfold Hh;rw[E7 (by lia)]) nb hW H R.k
 ·have ed:Hh (12-d) ((x,xp)::t')= .ok (12-(d+1),(x,xp)::t'):=by unfold Hh;rw[E5 (by lia),show 12-d-1=12-(d+1) by lia]
  rw[yI ed] at hW;exact q (by lia) #[R.S,R.k,R.f,R.l,hW]
def En (Z:Zf β) (g:Fc->Fe β):Prop:= ∀e r,Fp r= .bad->W (g e) r Z.Ro (QE Z.a Z.B Z.H0 Z.E)->QE Z.a Z.B Z.H0 Z.E 1 (HZ r)
theorem oB {g:Fc->Fe β}(h: ∀e,aK (g e)):En Z g:=λe _ nb w=>(h e).Lw nb w
theorem alU {H0:Hp}{Q:VK}{g:Fc->Fc} :En #[a,E,B,L,H0,Rz FM a B H0 L Kn Q E] (λy=>pure (g y)):=λe r nb w=>by
 rw[Cn] at w;have w:Rz FM a B H0 L Kn Q E (g e) r:=w;unfold Rz at w;rw[E7 #[Gc,nb]] at w;exact w
theorem RS.Uz {w2:Gg}{g:Fc->Fe β}{pp:Fm->Fm->E6->Fe Fc}{c f:Fm}{ok:Fm->E6->E2->Prop}{Q:VK}(R:RS Z F b H t Kn (pp f (12-d) Kn>>=g)) (st:w2=FM->En Z g) (hd:d<=12) (ho:ok d Kn t) (hf:16*t.length+c<=f)
  (q: ∀e v H' t',(w2=FM->Fp t'≠ .bad)->RS Z ((.e e,v)::F) FM H' t' Kn (g e)->Q v H'):aX Z.a w2 pp c ok [.ref Z.B.r, .int d] H Q Z.E:=by
 rw[00];have hW:=R.w;rw[jE] at hW;have l:t.length<=Z.L:=FA (JN _ _) R.l;refine#[Z.B,n,t,Kn,d,f,Gc,hd,ho,S,hf,hW.mono (λe r w=>?_) λ_ _ z H' k=>z H' (R.k.trans k)];unfold Rz;by_cases nb:w2=FM/\Fp r= .bad
 ·rw[E7 nb]
  exact λH' k=>st nb.1 e r nb.2 w H' (R.k.trans k)
 ·rw[E5 nb]
  exact λH' v n' l' S' k' h=>q e v H' r (λh z=>nb #[h,z]) ((R.go (b':=FM) S' k' (show r.length+1<=Z.L by lia) w).and h)
theorem RS.call {g:Fc->Fe β}{pp:Fm->Fm->E6->Fe Fc}{c f:Fm}{ok:Fm->E6->E2->Prop}{Q:VK}(R:RS Z F b H t Kn (pp f (12-d) Kn>>=g)) (st:En Z g) (hd:d<=12) (ho:ok d Kn t) (hf:16*t.length+c<=f)
  (q: ∀e v H' t',Fp t'≠ .bad->RS Z ((.e e,v)::F) FM H' t' Kn (g e)->Q v H'):aX Z.a FM pp c ok [.ref Z.B.r, .int d] H Q Z.E:=R.Uz (λ_=>st) hd ho hf λe v H' t' nb=>q e v H' t' (nb rfl)
theorem RS.ahZ {g:Fc->Fe β}{pp:Fm->Fm->E6->Fe Fc}{c f:Fm}{ok:Fm->E6->E2->Prop}{Q:VK}(R:RS Z F b H t Kn (pp f (12-d) Kn>>=g)) (hd:d<=12) (ho:ok d Kn t) (hf:16*t.length+c<=f)
  (q: ∀e v H' t',RS Z ((.e e,v)::F) FM H' t' Kn (g e)->Q v H'):aX Z.a FS pp c ok [.ref Z.B.r, .int d] H Q Z.E:=R.Uz (λz=>nomatch z) hd ho hf λe v H' t' _=>q e v H' t'
theorem eI (i:Fm) {x:FD}{g:Fc->Fe β}{pp:Fm->Fm->E6->Fe Fc}{c f:Fm}{ok:Fm->E6->E2->Prop}{te:TE}(Y:RX X Z.a Z.E) (cl:CB X x ["reader","depth"] (aX Z.a FM pp c ok)) (he:PE X e te) (hv: ∀Q:VK,Q (.int d) H->te (Fa (.ref Z.B.r)::σ) H Q)
  (R:RS Z F FM H t Kn (pp f (12-d) Kn>>=g)) (st:En Z g) (hd:d<=12) (ho:ok d Kn t) (hf:16*Z.L+c<=f+16)
  (q: ∀e v H' t',RS Z ((.e e,v)::F) FM H' t' Kn (g e)->Bd X ss D ((Fa (.ref Z.B.r)::σ).set i (Fa v)) H')
  (h:Sl X i y:=by exact#[Gc,GO rfl,Gc]) (hx:(x == [003])=FS:=by decide) (Kd:Fy [e] X.env=[[001]]:=by rfl):
  Bd X (.Assign [.Name y p0] (.Call (.Name x p1) [.Name "reader" p2,e] [] p4) p5::ss) D (Fa (.ref Z.B.r)::σ) H:=by
 have l:t.length+1<=Z.L:=R.l;refine aN i Y.nd #[_,Y.call2 cl he hx Kd,?_] h;exact hv _ (R.call st hd ho (by lia) λe v H' t' _ R'=>q e v H' t' R')
theorem RX.make {c:FD}{C:E4}{fs:EV FD}{e:Hv}{es:EV Hv}{tt:TA}(Y:RX X a E) (nb:NB X c C fs) (ha:PA X (e::es) tt) (hg:Gl X c) (hx:(c == [003])=FS) (he:Fy (e::es) X.env=[001]::Fy es X.env) (MJ:(IE p4 (Fy es X.env)).any (·.1)=FS):
  PE X (.Call (.Name c p1) (e::es) [] p4) (CC C (kY C fs) [] E0 tt):=by
 obtain⟨M,G,b,hm⟩:=nb;exact gT M G (Y.hr.mono [01]) hg hm b .nil aV ha hx he MJ
theorem jy {c:FD}{C:E4}{fs:EV FD}{e:Hv}{es:EV Hv}{Q:VK}(Y:RX X a E) (nb:NB X c C fs) (q:Pa X (e::es) σ H λws H1=> ∀x dx,H1 x=FB->H1 dx=FB->dx≠x->kY C fs (.ref x::(ws++[])) (aF (aF H1 dx (.own x)) x (.ins C dx [])) (λv H2=>v= .Iw/\Q (.ref x) H2) E0)
  (hg:Gl X c:=by rfl) (hx:(c == [003])=FS:=by decide) (he:Fy (e::es) X.env=[001]::Fy es X.env:=by rfl) (MJ:(IE p4 (Fy es X.env)).any (·.1)=FS:=by rfl):Pe X (.Call (.Name c p1) (e::es) [] p4) σ H Q:=#[_,Y.make nb sY hg hx he MJ,q]
theorem RS.new {p:Fe β}{Q:VK}(R:RS Z F b H t Kn p) (hl:ws.length=fs.length) (q: ∀u H',bI (eU Z.B) H' C (fs.zip ws) u->RS Z F b H' t Kn p->Q u H'):
  ∀x dx,H x=FB->H dx=FB->dx≠x->kY C fs (.ref x::(ws++[])) (aF (aF H dx (.own x)) x (.ins C dx [])) (λv H2=>v= .Iw/\Q (.ref x) H2) E0:=λx dx hx UZ ne=>by
 rw[00];refine#[x,dx,ws++[],Gc,by rw[GL];exact hl,ae,λH' h1 h2=>#[Gc,?_]];rw[GL] at h1;have sm:aW H H':=λb o e=>h2 b o (by rw[ac (aj e hx),ac (aj e UZ)];exact e) (aj e hx);exact q _ H' #[x,dx,Gc,S.fresh hx,h1] (R.go (S.same sm) (OS.aW.keeps sm) R.l R.w)
theorem gW {p:Fe β}{c:FD}(Y:RX X Z.a Z.E) (nb:NB X c C fs) (ha:PA X (e::es) tt) (hv: ∀Q:EV V->Hp->Prop,Q ws H->tt σ H Q) (R:RS Z F b H t Kn p) (hl:ws.length=fs.length) (q: ∀u H',bI (eU Z.B) H' C (fs.zip ws) u->RS Z F b H' t Kn p->D.rt u H')
  (hg:Gl X c:=by rfl) (hx:(c == [003])=FS:=by decide) (he:Fy (e::es) X.env=[001]::Fy es X.env:=by rfl) (MJ:(IE p4 (Fy es X.env)).any (·.1)=FS:=by rfl):
  Bd X [.Return (Fa (.Call (.Name c p1) (e::es) [] p4)) p5] D σ H:=eu (aI (Y.make nb ha hg hx he MJ)) (hv _ (R.new hl q))
end
theorem yc:d7 "(" (EY "("):=[008]
theorem vM:d7 ")" (EY ")"):=[008]
theorem vt:cX "sum" (EY "sum"):=[007]
theorem YA:cX "in" (EY "in"):=[007]
theorem YB:d7 ".." (EY ".."):=[008]
theorem YC:d7 ":" (EY ":"):=[008]
theorem so {Kn:E6}{t:E2} :Gw (f+1) d Kn ((.word (EY "sum"),xp)::t)=
  (Hh d>>=λe=>Gq>>=λ_=>FX "(">>=λ_=>Gz Kn>>=λx=>Hc "in">>=λ_=>FE f e Kn>>=λlo=>FX "..">>=λ_=>FE f e Kn>>=λhi=>FX ":">>=λ_=>
   FE f e (Kn.with x)>>=λy=>FX ")">>=λ_=>pure (.sum x lo hi y):Fe Fc) ((.word (EY "sum"),xp)::t):=by
 rw[Gw];show(if EY "sum"=EY "sum" then _ else _)=_
 rw[E7 rfl]
theorem xG:cX "if" (EY "if"):=[007]
theorem Ec:cX "then" (EY "then"):=[007]
theorem qz:cX "else" (EY "else"):=[007]
theorem Dr {Kn:E6}{t:E2} :FE (f+1) d Kn ((.word (EY "if"),xp)::t)=
  (Hh d>>=λe=>Gq>>=λ_=>FE f e Kn>>=λc=>Hc "then">>=λ_=>FE f e Kn>>=λx=>Hc "else">>=λ_=>FE f e Kn>>=λy=>pure (.pick c x y):Fe Fc) ((.word (EY "if"),xp)::t):=by
 rw[FE];show(if Ff ((.word (EY "if"),xp)::t) "if"=FM then _ else _)=_
 rw[E7 (by unfold Ff;exact GN _)]
theorem vx {Kn:E6}{t:E2} :Gw (f+1) d Kn ((.sign (EY "("),xp)::t)=
  (Hh d>>=λe=>Gq>>=λ_=>FE f e Kn>>=λx=>FX ")">>=λ_=>pure x:Fe Fc) ((.sign (EY "("),xp)::t):=by
 rw[Gw];show(if FY ((.sign (EY "("),xp)::t) "("=FM then _ else _)=_
 rw[E7 (by unfold FY;exact GN _)]
theorem eY {β:Type}{Z:Zf β}{F:EV (Fk×V)}{b:Gg}{H:Hp}{t:E2}{Kn:E6}{p:Fe β}(R:RS Z F b H t Kn p) (h:Fp t= .word u): ∃xp r,t=(.word u,xp)::r:=by
 rw[00];obtain⟨⟨x,xp⟩,r,rfl,_,_,_,_⟩:=S.wh.first;exact#[xp,r,by rw[show x= .word u from h]]
theorem wj {β:Type}{Z:Zf β}{F:EV (Fk×V)}{b:Gg}{H:Hp}{t:E2}{Kn:E6}{p:Fe β}(R:RS Z F b H t Kn p) (h:Fp t= .sign u): ∃xp r,t=(.sign u,xp)::r:=by
 rw[00];obtain⟨⟨x,xp⟩,r,rfl,_,_,_,_⟩:=S.wh.first;exact#[xp,r,by rw[show x= .sign u from h]]
theorem CA (h:16*L+c<=f) (hc:6<=c): ∃g,f=g+1/\16*L+12<=g+16:=#[f-1,by lia,by lia]
section
variable {β:Type}{Z:Zf β}{H:Hp}
theorem ir {g:MZ->Fe β}(Y:RX X Z.a Z.E) (l:cX v (EY s)) (R:RS Z F b H ((.word (EY s),xp)::t) Kn (Gq>>=g)) (q: ∀H' t',RS Z F FM H' t' Kn (g ())->Bd X ss D (Fa (.ref Z.B.r)::σ) H') (hp:ip p2 p4:=by rfl):
  Bd X (.Expr (.Call (.Attribute [005] "expect" p2) [.Constant (.str v) j p3] [] p4) p5::ss) D (Fa (.ref Z.B.r)::σ) H:=
 qw Y R (λr e ok=>by
  cases e;exact AT t (by rw[b4 ok l];exact GN _) (by intro z;cases z) (by intro z;cases z with|inl z=>cases z|inr z=>cases z)) q hp
theorem Bo {g:MZ->Fe β}(Y:RX X Z.a Z.E) (l:d7 v (EY s)) (R:RS Z F b H ((.sign (EY s),xp)::t) Kn (Gq>>=g)) (q: ∀H' t',RS Z F FM H' t' Kn (g ())->Bd X ss D (Fa (.ref Z.B.r)::σ) H') (hp:ip p2 p4:=by rfl):
  Bd X (.Expr (.Call (.Attribute [005] "expect" p2) [.Constant (.str v) j p3] [] p4) p5::ss) D (Fa (.ref Z.B.r)::σ) H:=
 qw Y R (λr e ok=>by
  cases e;exact AT t (by rw[cQ ok l];exact GN _) (by intro z;cases z) (by intro z;cases z with|inl z=>cases z|inr z=>cases z)) q hp
end
theorem ah0 (T:aU K mg a) (XC:XT K a) (hk:8<=k)
  (G:T.Sn.O P w base k (aX a FM FE 12 (Lv j))):
  T.WV.O P w base (k+1) (aX a FS Gw 6 (LvW (j+1) (EY "sum"))):=by
 refine vk T XC hk T.WV.F agY λGF A outer s H B t Kn d fuel Q E hr hd ho hf hm=>?_;intro X D Z Y R;obtain⟨hl,h0⟩:=ho;obtain⟨xp,r,rfl⟩:=eY R h0;obtain⟨f,rfl,hF⟩:=CA hf [01];have c:CB X "read_exp" ["reader","depth"] (aX a FM FE 12 (Lv j)):=#[G,hr,T.Sn.c,Gc];have hl:13<=d+1+j:=by rw[MX];exact hl
 refine zm 2 Y hd (by intro z;cases z) (R.as so) λlt R=>?_;refine ir Y vt R λH t R=>?_;refine cE Y yc R λH t R=>?_;refine i4 3 Y R λu H t ft R=>?_;refine kN Y YA R λH t R=>?_;refine eI 4 Y c (pv 2) [05] R (oB λx=>(bi "..").bind) lt hl hF λe1 v1 H t R=>?_;refine cE Y YB R λH t R=>?_;refine eI 5 Y c (pv 2) [05] R (oB λx=>(bi ":").bind) lt hl hF λe2 v2 H t R=>?_;refine cE Y YC R λH t R=>?_;refine gH Y (pv 3) [05] ft hm R λH R=>?_;refine eI 6 Y c (pv 2) [05] R (oB λx=>(bi ")").bind) lt hl hF λe3 v3 H t R=>?_;refine lA Y (pv 3) [05] ft R λH R=>?_;refine cE Y vM R λH t R=>?_;refine gW Y (aaW T) (aa (pv 3) (aa (pv 4) (aa (pv 5) (aa (pv 6) ag)))) [05] R rfl λu H i R=>R.done ?_;unfold au;exact#[v1,v2,v3,i,R.f (i:=2) rfl,R.f (i:=1) rfl,R.f (i:=0) rfl]
theorem ah1 (T:aU K mg a) (XC:XT K a) (hk:8<=k)
  (G:T.Sn.O P w base k (aX a FM FE 12 (Lv j))):
  T.WU.O P w base (k+1) (aX a FS Gw 6 (LvS (j+1) (EY "("))):=by
 refine vk T XC hk T.WU.F agX λGF A outer s H B t Kn d fuel Q E hr hd ho hf hm=>?_;intro X D Z Y R;obtain⟨hl,h0⟩:=ho;obtain⟨xp,r,rfl⟩:=wj R h0;obtain⟨f,rfl,hF⟩:=CA hf [01];have c:CB X "read_exp" ["reader","depth"] (aX a FM FE 12 (Lv j)):=#[G,hr,T.Sn.c,Gc];have hl:13<=d+1+j:=by rw[MX];exact hl
 refine zm 2 Y hd (by intro z;cases z) (R.as vx) λlt R=>?_;refine Bo Y yc R λH t R=>?_;refine eI 3 Y c (pv 2) [05] R (oB λx=>(bi ")").bind) lt hl hF λe v H t R=>?_;refine cE Y vM R λH t R=>?_;exact aL (bC 3 (R.done (R.f (i:=0) rfl)))
theorem ah2 (T:aU K mg a) (XC:XT K a) (hk:8<=k)
  (G:T.Sn.O P w base k (aX a FM FE 12 (Lv j))):
  T.WQ.O P w base (k+1) (aX a FM FE 12 (LvW (j+1) (EY "if"))):=by
 refine vk T XC hk T.WQ.F agU λGF A outer s H B t Kn d fuel Q E hr hd ho hf hm=>?_;intro X D Z Y R;obtain⟨hl,h0⟩:=ho;obtain⟨xp,r,rfl⟩:=eY R h0;obtain⟨f,rfl,hF⟩:=CA hf [01];have c:CB X "read_exp" ["reader","depth"] (aX a FM FE 12 (Lv j)):=#[G,hr,T.Sn.c,Gc];have hl:13<=d+1+j:=by rw[MX];exact hl
 refine zm 2 Y hd (by intro z;cases z) (R.as Dr) λlt R=>?_;refine ir Y xG R λH t R=>?_;refine eI 3 Y c (pv 2) [05] R (oB λx=>(eT "then").bind) lt hl hF λe1 v1 H t R=>?_;refine kN Y Ec R λH t R=>?_;refine eI 4 Y c (pv 2) [05] R (oB λx=>(eT "else").bind) lt hl hF λe2 v2 H t R=>?_;refine kN Y qz R λH t R=>?_;have l:t.length+1<=Z.L:=R.l;refine aL (jy Y (yZ T) (aO (bC 3 (aO (bC 4 (aO #[_,Y.call2 c (pv 2) [01] rfl,R.call alU lt hl (by lia) λe3 v3 H t nb R=>cH (R.new rfl λu H i R=>R.done ?_ λ_=>nb)]))))));unfold au;exact#[v1,v2,v3,i,R.f (i:=2) rfl,R.f (i:=1) rfl,R.f (i:=0) rfl]
end OS
namespace OS
open Vbemac
def ors (f d:Fm) (Kn:E6):Fe Fc:=do
 let x<-ands f d Kn
 let l<-moreOr f d Kn
 return (match l with
  | .nil=>x
  |l=> .either x l)
abbrev Pairs:=EV (F7×Exp)
def vp:Pairs->Exps->Exps
 |[],l=>l
 |x::r,l=> .cons x.2 (vp r l)
def vH:Pairs->Rest->Rest
 |[],l=>l
 |x::r,l=> .cons x.1 x.2 (vH r l)
theorem tK:vp (es++[x]) l=vp es (.cons x.2 l):=by
 induction es with
 |nil=>rfl
 |cons y r ih=>show Exps.cons y.2 (vp (r++[x]) l)=_;rw[ih];rfl
theorem tN:vH (es++[x]) l=vH es (.cons x.1 x.2 l):=by
 induction es with
 |nil=>rfl
 |cons y r ih=>show Rest.cons y.1 y.2 (vH (r++[x]) l)=_;rw[ih];rfl
theorem bJ {α β:Type}{p:P α}{g:α->P β}{x:α}(h:p t= .ok (x,r)):(p>>=g) t=g x r:=by
 show FF p g t=_
 unfold FF;rw[h]
 rfl
theorem jX {α β:Type}{p q:P α}{g:α->P β}(e:p t=q t'):(p>>=g) t=(q>>=g) t':=by
 show FF p g t=FF q g t'
 unfold FF;rw[e]
structure ChP (p sub:Fm->Fm->Known->P Exp) (c c':Fm) (sg:EV F7) (once:Gg) (res:Exp->Pairs->Exp) where
 q:Fm->Fm->Known->Exp->Pairs->P Exp
 start: ∀ {fuel d:Fm}{Kn:Known}{n:Fm},16*n+c<=fuel-> ∃f,16*n+c'<=f/\p fuel d Kn=(sub f d Kn>>=λe=>q f d Kn e [])
 Pj: ∀f d Kn e es,h8 (q f d Kn e es)
 stop: ∀ {f d:Fm}{Kn:Known}{e:Exp}{es:Pairs}{t:MI},1<=f->(once=FM->es.length<=1)->(once=FM/\es≠[]\/ ∀op,peek t= .sign op->op∉sg)->q f d Kn e es t= .ok (res e es,t)
 go: ∀ {f d:Fm}{Kn:Known}{e:Exp}{es:Pairs}{x:Tok×Pos}{t:MI}{op:F7},16*(t.length+1)+c'<=f->(once=FM->es=[])->x.1= .sign op->op∈sg-> ∃f',16*t.length+c'<=f'/\q f d Kn e es (x::t)=(sub f' d Kn>>=λe2=>q f' d Kn e (es++[(op,e2)])) t
def D2 (e:Exp):Exps->Exp
 | .nil=>e
 |l=> .either e l
def bth (e:Exp):Exps->Exp
 | .nil=>e
 |l=> .both e l
def sms (e:Exp):Rest->Exp
 | .nil=>e
 |l=> .sums e l
def oR (e:Exp):Rest->Exp
 | .nil=>e
 |l=> .prods e l
def S0:EV F7:=[text "||"]
def S1:EV F7:=[text "&&"]
def S2:EV F7:=["==","!=","<=",">=","<",">"].map text
def S3:EV F7:=["+","-"].map text
def S4:EV F7:=["*","/","%"].map text
theorem abf {f d:Fm}{Kn:Known} :ors f d Kn=(ands f d Kn>>=λx=>moreOr f d Kn>>=λl=>pure (D2 x l):P Exp):=by
 unfold ors
 congr 1
theorem Ef {f d:Fm}{Kn:Known} :ands (f+1) d Kn=(compared f d Kn>>=λx=>moreAnd f d Kn>>=λl=>pure (bth x l):P Exp):=by
 rw[ands]
 congr 1
theorem C7 {f d:Fm}{Kn:Known} :added (f+1) d Kn=(times f d Kn>>=λx=>moreAdded f d Kn>>=λl=>pure (sms x l):P Exp):=by
 rw[added]
 congr 1
theorem Bw {f d:Fm}{Kn:Known} :times (f+1) d Kn=(unary f d Kn>>=λx=>moreTimes f d Kn>>=λl=>pure (oR x l):P Exp):=by
 rw[times]
 congr 1
theorem nX {t:MI}{s:String}{l:EV F7}(h: ∀op,peek t= .sign op->op∉l) (m:text s∈l):LP t s=FS:=by
 unfold LP;rw[beq_eq_false_iff_ne];exact λz=>h _ z m
theorem jG (h: ∀op,peek t= .sign op->op∉l.map text):Ll l t= .ok (FB,t):=by
 unfold Ll;cases e:peek t with
 |sign s=>
  dsimp only;rw[E5 (by rw[F8];exact h s e)]
 |_=>rfl
theorem lC (e:x.1= .sign op) (h:op∈l.map text):Ll l (x::t)= .ok (Fa op,t):=by
 unfold Ll;have e:peek (x::t)= .sign op:=e;rw[e];dsimp only;rw[E7 (by rw[F8];exact h)]
 rfl
theorem vd {f d:Fm}{Kn:Known}{t:MI}(h:LP t "||"=FS):moreOr (f+1) d Kn t= .ok (.nil,t):=by
 rw[moreOr];show(FF (ifSign "||") _) t=_;unfold FF ifSign;rw[h]
 rfl
theorem rV {f d:Fm}{Kn:Known}{t:MI}(h:LP t "&&"=FS):moreAnd (f+1) d Kn t= .ok (.nil,t):=by
 rw[moreAnd];show(FF (ifSign "&&") _) t=_;unfold FF ifSign;rw[h]
 rfl
theorem yi {f d:Fm}{Kn:Known}{x:Tok×Pos}{t:MI}(h:LP (x::t) "||"=FM):moreOr (f+1) d Kn (x::t)=(ands f d Kn>>=λa=>moreOr f d Kn>>=λl=>pure (.cons a l):P Exps) t:=by
 rw[moreOr];show(FF (ifSign "||") _) (x::t)=_;unfold FF ifSign;rw[h]
 rfl
theorem vR {f d:Fm}{Kn:Known}{x:Tok×Pos}{t:MI}(h:LP (x::t) "&&"=FM):moreAnd (f+1) d Kn (x::t)=(compared f d Kn>>=λa=>moreAnd f d Kn>>=λl=>pure (.cons a l):P Exps) t:=by
 rw[moreAnd];show(FF (ifSign "&&") _) (x::t)=_;unfold FF ifSign;rw[h]
 rfl
theorem o4 {f d:Fm}{Kn:Known}{t:MI}(h: ∀op,peek t= .sign op->op∉S3):moreAdded (f+1) d Kn t= .ok (.nil,t):=by
 rw[moreAdded];show(FF (Ll ["+","-"]) _) t=_;unfold FF;rw[jG h]
 rfl
theorem ph {f d:Fm}{Kn:Known}{t:MI}(h: ∀op,peek t= .sign op->op∉S4):moreTimes (f+1) d Kn t= .ok (.nil,t):=by
 rw[moreTimes];show(FF (Ll ["*","/","%"]) _) t=_;unfold FF;rw[jG h]
 rfl
theorem ro {f d:Fm}{Kn:Known}{x:Tok×Pos}{t:MI}{op:F7}(e:x.1= .sign op) (h:op∈S3):moreAdded (f+1) d Kn (x::t)=(times f d Kn>>=λa=>moreAdded f d Kn>>=λl=>pure (.cons op a l):P Rest) t:=by
 rw[moreAdded];show(FF (Ll ["+","-"]) _) (x::t)=_;unfold FF;rw[lC e h]
 rfl
theorem qm {f d:Fm}{Kn:Known}{x:Tok×Pos}{t:MI}{op:F7}(e:x.1= .sign op) (h:op∈S4):moreTimes (f+1) d Kn (x::t)=(unary f d Kn>>=λa=>moreTimes f d Kn>>=λl=>pure (.cons op a l):P Rest) t:=by
 rw[moreTimes];show(FF (Ll ["*","/","%"]) _) (x::t)=_;unfold FF;rw[lC e h]
 rfl
def nH (f d:Fm) (Kn:Known) (a:Exp):P Exp:=Ll ["==","!=","<=",">=","<",">"]>>=λs=>match s with
 |none=>pure a
 |some op=>added f d Kn>>=λb=>pure (.cmp op a b)
theorem sj {f d:Fm}{Kn:Known} :compared (f+1) d Kn=(added f d Kn>>=λx=>nH f d Kn x:P Exp):=by
 rw[compared]
 rfl
theorem vj (f d:Fm) (Kn:Known) (a:Exp):h8 (nH f d Kn a):=(tT _).bind λs=>by
 cases s with
 |none=>exact fL _
 |some op=>exact(j6 f d Kn).bind.Pj
theorem xX {f d:Fm}{Kn:Known}{a:Exp}{t:MI}(h: ∀op,peek t= .sign op->op∉S2):nH f d Kn a t= .ok (a,t):=by
 unfold nH;show(FF (Ll ["==","!=","<=",">=","<",">"]) _) t=_;unfold FF;rw[jG h]
 rfl
theorem A8 {f d:Fm}{Kn:Known}{a:Exp}{x:Tok×Pos}{t:MI}{op:F7}(e:x.1= .sign op) (h:op∈S2):nH f d Kn a (x::t)=(added f d Kn>>=λb=>pure (.cmp op a b):P Exp) t:=by
 unfold nH;show(FF (Ll ["==","!=","<=",">=","<",">"]) _) (x::t)=_;unfold FF;rw[lC e h]
 rfl
theorem xJ {x:Tok×Pos}{t:MI}{op:F7}{s:String}(e:x.1= .sign op) (h:op∈[text s]):LP (x::t) s=FM:=by
 unfold LP;obtain rfl:=Fz.mp h;exact beq_iff_eq.mpr e
def alV:ChP ors ands 11 11 S0 FS (λe es=>D2 e (vp es .nil)) where
 q f d Kn e es:=moreOr f d Kn>>=λl=>pure (D2 e (vp es l))
 start {fuel d Kn n} hf:=#[fuel,by lia,by rw[abf];rfl]
 Pj f d Kn e es:=(ud f d Kn).bind λl=>fL _
 stop {f d Kn e es t} hf _ h:=by
  obtain⟨f,rfl⟩: ∃f',f=f'+1:=#[f-1,by lia];rcases h with⟨h,_⟩|h
  ·cases h
  ·exact bJ (vd (nX h (Fz.mpr rfl)))
 go {f d Kn e es x t op} hf _ e1 h:=by
  obtain⟨f,rfl⟩: ∃f',f=f'+1:=#[f-1,by lia];refine#[f,by lia,?_];rw[jX (yi (xJ e1 h)),bind_assoc];refine Ga (λg=>(ands f d Kn>>=g:P Exp) t) (funext λa=>?_);rw[bind_assoc];simp only[tK]
  rfl
def ah3:ChP ands compared 11 10 S1 FS (λe es=>bth e (vp es .nil)) where
 q f d Kn e es:=moreAnd f d Kn>>=λl=>pure (bth e (vp es l))
 start {fuel d Kn n} hf:=by
  obtain⟨f,rfl⟩: ∃f',fuel=f'+1:=#[fuel-1,by lia];exact#[f,by lia,by rw[Ef];rfl]
 Pj f d Kn e es:=(qN f d Kn).bind λl=>fL _
 stop {f d Kn e es t} hf _ h:=by
  obtain⟨f,rfl⟩: ∃f',f=f'+1:=#[f-1,by lia];rcases h with⟨h,_⟩|h
  ·cases h
  ·exact bJ (rV (nX h (Fz.mpr rfl)))
 go {f d Kn e es x t op} hf _ e1 h:=by
  obtain⟨f,rfl⟩: ∃f',f=f'+1:=#[f-1,by lia];refine#[f,by lia,?_];rw[jX (vR (xJ e1 h)),bind_assoc];refine Ga (λg=>(compared f d Kn>>=g:P Exp) t) (funext λa=>?_);rw[bind_assoc];simp only[tK]
  rfl
def ah4:ChP added times 9 8 S3 FS (λe es=>sms e (vH es .nil)) where
 q f d Kn e es:=moreAdded f d Kn>>=λl=>pure (sms e (vH es l))
 start {fuel d Kn n} hf:=by
  obtain⟨f,rfl⟩: ∃f',fuel=f'+1:=#[fuel-1,by lia];exact#[f,by lia,by rw[C7];rfl]
 Pj f d Kn e es:=(mC f d Kn).bind λl=>fL _
 stop {f d Kn e es t} hf _ h:=by
  obtain⟨f,rfl⟩: ∃f',f=f'+1:=#[f-1,by lia];rcases h with⟨h,_⟩|h
  ·cases h
  ·exact bJ (o4 h)
 go {f d Kn e es x t op} hf _ e1 h:=by
  obtain⟨f,rfl⟩: ∃f',f=f'+1:=#[f-1,by lia];refine#[f,by lia,?_];rw[jX (ro e1 h),bind_assoc];refine Ga (λg=>(times f d Kn>>=g:P Exp) t) (funext λa=>?_);rw[bind_assoc];simp only[tN]
  rfl
def ah5:ChP times unary 8 7 S4 FS (λe es=>oR e (vH es .nil)) where
 q f d Kn e es:=moreTimes f d Kn>>=λl=>pure (oR e (vH es l))
 start {fuel d Kn n} hf:=by
  obtain⟨f,rfl⟩: ∃f',fuel=f'+1:=#[fuel-1,by lia];exact#[f,by lia,by rw[Bw];rfl]
 Pj f d Kn e es:=(mD f d Kn).bind λl=>fL _
 stop {f d Kn e es t} hf _ h:=by
  obtain⟨f,rfl⟩: ∃f',f=f'+1:=#[f-1,by lia];rcases h with⟨h,_⟩|h
  ·cases h
  ·exact bJ (ph h)
 go {f d Kn e es x t op} hf _ e1 h:=by
  obtain⟨f,rfl⟩: ∃f',f=f'+1:=#[f-1,by lia];refine#[f,by lia,?_];rw[jX (qm e1 h),bind_assoc];refine Ga (λg=>(unary f d Kn>>=g:P Exp) t) (funext λa=>?_);rw[bind_assoc];simp only[tN]
  rfl
def ah6 (e:Exp):Pairs->Exp
 |[]=>e
 |x::_=> .cmp x.1 e x.2
def alW (f d:Fm) (Kn:Known) (e:Exp):Pairs->P Exp
 |[]=>nH f d Kn e
 |x::_=>pure (.cmp x.1 e x.2)
def ah7:ChP compared added 10 9 S2 FM ah6 where
 q:=alW
 start {fuel d Kn n} hf:=by
  obtain⟨f,rfl⟩: ∃f',fuel=f'+1:=#[fuel-1,by lia];exact#[f,by lia,by rw[sj];rfl]
 Pj f d Kn e es:=by
  cases es with
  |nil=>exact vj f d Kn e
  |cons x r=>exact fL _
 stop {f d Kn e es t} hf _ h:=by
  cases es with
  |nil=>
   rcases h with⟨_,h⟩|h
   ·exact Fv rfl h
   ·exact xX h
  |cons x r=>rfl
 go {f d Kn e es x t op} hf h0 e1 h:=by
  obtain rfl:=h0 rfl;exact#[f,by lia,A8 e1 h]
end OS
namespace OS
open PySem PySem.Spec L2
open PyProof.Rows hiding St
variable {P:FW}{w:Gx}{K:E1}{mg:FD->Fd E3}{base:GI}{a:bf}
theorem YD {u:EW}{xp:Gh} : ¬jH (.word u,xp):=by intro z;cases z with|inl z=>cases z|inr z=>cases z
theorem nfS {u:EW}{xp:Gh} : ¬jH (.sign u,xp):=by intro z;cases z with|inl z=>cases z|inr z=>cases z
theorem nfN {xp:Gh} : ¬jH (.num m,xp):=by intro z;cases z with|inl z=>cases z|inr z=>cases z
theorem si (h:lT x=FM): ∃m,x= .num m:=by
 cases x with
 |num m=>exact#[m,Gc]
 |_=>cases h
theorem gQ (h:cP x=FM): ∃u,x= .word u/\Gp.contains u=FS:=by
 cases x with
 |word u=>rw[dD] at h;exact#[u,Gc,by cases e:Gp.contains u;rfl;rw[e] at h;cases h]
 |_=>cases h
theorem AZ {A:Type} [BEq A] [LawfulBEq A] {x y:A}(h:(x == y)=FS):x≠y:=beq_eq_false_iff_ne.mp h
theorem rL:Gw (f+1) d Kn ((.num m,xp)::t)=(Gq>>=λ_=>pure (.num m):Fe Fc) ((.num m,xp)::t):=by rw[Gw];rfl
theorem vK (h0:lT x=FS) (h1:x≠ .sign (EY "(")) (h2:x≠ .word (EY "sum")) (h3:cP x=FS):Gw (f+1) d Kn ((x,xp)::t)=Fx 2 ((x,xp)::t):=by
 rw[Gw];cases x with
 |num m=>cases h0
 |sign u=>
  show(if FY ((.sign u,xp)::t) "("=FM then _ else Fx 2 ((.sign u,xp)::t))=_
  rw[E5 (show¬FY ((.sign u,xp)::t) "("=FM from λz=>h1 (beq_iff_eq.mp z))]
 |word u=>
  rw[dD] at h3;show(if u=EY "sum" then _ else if Gp.contains u=FM then _ else _)=_
  rw[E5 λz=>h2 (by rw[z]),E7 (by cases e:Gp.contains u;rw[e] at h3;cases h3;rfl)]
 |eof=>rfl
 |bad=>rfl
theorem rl (ns:Hj u≠ .word (EY "sum")) (hk:Gp.contains u=FS) (hf:(Kn.funs.find? λf=>f.1 == u).isSome=FS):Gw (f+1) d Kn ((.word u,xp)::t)=if Kn.values.contains u=FM then .ok (.name u,t) else Fx 3 ((.word u,xp)::t):=by
 rw[Gw];show(if u=EY "sum" then _ else if Gp.contains u=FM then _ else _)=_
 rw[E5 λz=>ns (by rw[z]),E5 (by rw[hk];exact EZ),Fd.isSome_eq_false_iff.mp hf |> Fd.isNone_iff_eq_none.mp]
 rfl
theorem ah8 (T:aU K mg a) (XC:XT K a) (hk:8<=k)
  (G1:T.WU.O P w base k (aX a FS Gw 6 (LvS j (EY "("))))
  (G2:T.WV.O P w base k (aX a FS Gw 6 (LvW j (EY "sum"))))
  (G3:T.d_Y.O P w base k (aX a FS Gw 6 (LvC j))):
  T.WR.O P w base (k+1) (aX a FS Gw 6 (Lv j)):=by
 refine vk T XC hk T.WR.F agW λGF A outer s H B t Kn d fuel Q E hr hd hl hf hm=>?_;intro X D Z Y R;obtain⟨⟨x,xp⟩,r,rfl⟩:=R.cons;have tok:gb x:=R.tok;have st:=iI fuel (12-d) Kn;refine bH (dv (Yz Y T.ZI.c (rC T XC) [01] (λ_=>rfl) R st λnb=>#[_,Gc,aP (λe=>?_) λe0=>?_]))
 ·obtain⟨m,rfl⟩:=si e
  obtain⟨f,rfl,_⟩:=CA hf [01];exact aL (jy Y (zC T) (aO (iq Y (R.as rL) nfN λH R=>cH (R.new rfl λu H i R=>R.done (by unfold au;exact i)))))
 refine bH (dv (iY Y R nb #[_,Gc,aP (λe=>?_) λe1=>?_]))
 ·obtain rfl:x=_:=beq_iff_eq.mp ((cQ tok yc).symm.trans e)
  exact aL #[_,Y.call2 #[G1,hr,T.WU.c,Gc] (pv 1) [01] rfl,R.tail hd #[hl,Gc] hf]
 refine bH (dv (iY Y R nb #[_,Gc,aP (λe=>?_) λe2=>?_]))
 ·obtain rfl:x=_:=beq_iff_eq.mp ((b4 tok vt).symm.trans e)
  exact aL #[_,Y.call2 #[G2,hr,T.WV.c,Gc] (pv 1) [01] rfl,R.tail hd #[hl,Gc] hf]
 have h1:=AZ ((cQ tok yc).symm.trans e1)
 have h2:=AZ ((b4 tok vt).symm.trans e2);obtain⟨f,rfl,_⟩:=CA hf [01];refine bE (p_g Y R st (λ_ e=>vK e0 h1 h2 e) λ_ e=>?_)
 obtain⟨u,rfl,hu⟩:=gQ e;refine aN 2 Y.nd (ahY Y R st λ_=>?_);refine bH (abd Y R (pv 2) [05] (aP (λe=>?_) λe3=>?_))
 ·obtain⟨g,hg⟩:=Ky.mp e
  exact aL #[_,Y.call2 #[G3,hr,T.d_Y.c,Gc] (pv 1) [01] rfl,R.tail hd #[hl,u,g,Gc,λz=>h2 (by rw[z]),hu,hg] hf]
 have ep:=rl (f:=f) (d:=12-d) (xp:=xp) (t:=r) h2 hu e3;refine bH (abe Y R (pv 2) [05] (aP (λe=>?_) λe4=>?_))
 ·refine bE (qU Y (aR (by rfl) T.Qg) R nb ?_)
  rw[Vy] at e;rw[ep,e]
  rfl
 ·refine aL (jy Y (DJ T) (aO (iq Y (R.as (p':=Gq>>=λ_=>pure (.name u)) ?_) YD λH R=>cH (R.new rfl λu H i R=>R.done (by unfold au;exact i)))))
  rw[Pl] at e4;rw[ep,e4]
  rfl
theorem alX:d7 "-" (EY "-"):=[008]
theorem alY:d7 "!" (EY "!"):=[008]
theorem dY {t:E2} :FY (x::t) s=(x.1 == .sign (EY s)):=rfl
theorem xT {f d:Fm}{Kn:E6}{xp:Gh}{t:E2} :GD (f+1) d Kn ((.sign (EY "!"),xp)::t)=
  (Hh d>>=λe=>Gq>>=λ_=>GD f e Kn>>=λx=>pure (.not x):Fe Fc) ((.sign (EY "!"),xp)::t):=by
 rw[GD];show(if FY ((.sign (EY "!"),xp)::t) "-"=FM then _ else if FY ((.sign (EY "!"),xp)::t) "!"=FM then _ else _)=_
 rw[E5 (by rw[dY];show¬(IU (EY "!") == .sign (EY "-"))=FM;decide+kernel),E7 (by rw[dY];exact GN _)]
theorem zx {f d:Fm}{Kn:E6}{xp:Gh}{t:E2}(h: ∀m,Fp t≠ .num m):GD (f+1) d Kn ((.sign (EY "-"),xp)::t)=
  (Hh d>>=λe=>Gq>>=λ_=>GD f e Kn>>=λx=>pure (.neg x):Fe Fc) ((.sign (EY "-"),xp)::t):=by
 rw[GD];show(if FY ((.sign (EY "-"),xp)::t) "-"=FM then(match Fp t with
   | .num n=>_
   |_=>_) else _)=_
 rw[E7 (by rw[dY];exact GN _)];cases e:Fp t with
 |num m=>exact Fv e (h m)
 |_=>rfl
theorem yL {f d m:Fm}{Kn:E6}{xp:Gh}{t:E2}(h:Fp t= .num m):GD (f+1) d Kn ((.sign (EY "-"),xp)::t)= .ok (.neg (.num m),t.drop 1):=by
 rw[GD];show(if FY ((.sign (EY "-"),xp)::t) "-"=FM then(match Fp t with
   | .num n=>_
   |_=>_) else _)=_
 rw[E7 (by rw[dY];exact GN _),h]
 rfl
theorem mO {f d:Fm}{Kn:E6}{t:E2}(h1:(x.1 == .sign (EY "-"))=FS) (h2:(x.1 == .sign (EY "!"))=FS):GD (f+1) d Kn (x::t)=Gw f d Kn (x::t):=by
 rw[GD];show(if FY (x::t) "-"=FM then _ else if FY (x::t) "!"=FM then _ else _)=_
 rw[E5 (by rw[dY,h1];exact EZ),E5 (by rw[dY,h2];exact EZ)]
theorem Eh {f d m:Fm}{Kn:E6}{xp:Gh}{t:E2} :GD (f+2) d Kn ((.num m,xp)::t)= .ok (.num m,t):=by
 rw[mO rfl rfl,Gw]
 rfl
theorem uN {f d m:Fm}{Kn:E6}{xp:Gh}{t:E2}(hf:2<=f) (w:t≠[]) (h:Fp t= .num m):GD (f+1) d Kn ((.sign (EY "-"),xp)::t)=(Gq>>=λ_=>GD f d Kn>>=λx=>pure (.neg x):Fe Fc) ((.sign (EY "-"),xp)::t):=by
 rw[yL h];obtain⟨g,rfl⟩: ∃g,f=g+2:=#[f-2,by lia];cases t with
 |nil=>exact Fv rfl w
 |cons y r=>
  obtain⟨y,yp⟩:=y;obtain rfl:y= .num m:=h;show _=(GD (g+2) d Kn>>=λx=>pure (.neg x):Fe Fc) ((.num m,yp)::r)
  rw[bJ Eh]
  rfl
theorem gA (okT okC:Fm->E6->E2->Prop) (T:aU K mg a) (XC:XT K a) (hk:8<=k)
  (h0: ∀d Kn t,okT d Kn t->13<=d+j) (h1: ∀d Kn s xp t,okT d Kn ((.sign s,xp)::t)->d<12->okC (d+1) Kn t) (h2: ∀d Kn s xp t m,okT d Kn ((.sign s,xp)::t)->Fp t= .num m->okC d Kn t)
  (G1:T.WR.O P w base k (aX a FS Gw 6 (Lv j)))
  (G2:T.Wr.O P w base k (aX a FS GD 7 okC)):
  T.Wr.O P w base (k+1) (aX a FS GD 7 okT):=by
 refine vk T XC hk T.Wr.F aaI λGF A outer s H B t Kn d fuel Q E hr hd ho hf hm=>?_;intro X D Z Y R;obtain⟨⟨x,xp⟩,r,rfl⟩:=R.cons;have tok:gb x:=R.tok;have st:=jZ fuel (12-d) Kn;have vm:=cQ tok alX;have vn:=cQ tok alY;obtain⟨f,rfl⟩: ∃f,fuel=f+1:=#[fuel-1,by lia];rw[Fj] at hf;have tail: ∀(c:EW) (d2:Fm) (mk:Fc->Fc),x= .sign c->(∀ {H:Hp}{e:Fc}{u v:V},bI (eU B) H a.KD [("sign",ii (.sign c)),("operand",u)] v->au a (eU B) H e u->au a (eU B) H (mk e) v)->d2<=12->okC d2 Kn r->
   RS Z [] FS H ((x,xp)::r) Kn (Gq>>=λ_=>GD f (12-d2) Kn>>=λy=>pure (mk y))->Bd X ((be s_l).drop 3) D [Fa (.ref B.r),Fa (.int d),Fa (.int d2),FB] H:=by
  intro c d2 mk ex hmk hd2 hC R;subst ex;refine aN 3 Y.nd (iq Y R nfS λH R=>?_);exact aL (jy Y (BF T) (aO (bC 3 (aO #[_,Y.call2 #[G2,hr,T.Wr.c,Gc] (pv 2) [01] rfl,R.ahZ hd2 hC (by lia) λe v H t R=>cH (R.new rfl λu H i R=>R.done (hmk i (R.f (i:=0) rfl)))]))))
 refine bH (Ai (jk (dv (iT Y R st λnb=>#[_,Gc,?_]))));have vm:lZ "-" (Fp ((x,xp)::r))=_:=vm;have vn:lZ "!" (Fp ((x,xp)::r))=_:=vn;rw[vm];cases em:(x == IU (EY "-")) with
 |true=>
  obtain rfl:x=_:=beq_iff_eq.mp em;refine bN (bN ?_);refine aN 2 Y.nd (bC 1 ?_);refine bH (afO (dv (iY Y R nb #[_,Gc,?_])));rw[vn];refine bN (jk (dv (abc Y R nfS #[_,Gc,?_])));cases ey:lT (Fp r) with
  |true=>
   obtain⟨m,e⟩:=si ey;refine bN (tail _ d _ rfl (λi h=>by unfold au;exact#[_,i,h]) hd (h2 _ _ _ _ _ m ho e) (R.as (uN (by lia) (λz=>by rw[z] at e;cases e) e)))
  |false=>
   refine cc (zm 2 Y hd (by intro z;cases z) (R.as (zx λm z=>by rw[z] at ey;cases ey)) λlt R=>vh ?_);exact tail _ (d+1) _ rfl (λi h=>by unfold au;exact#[_,i,h]) lt (h1 _ _ _ _ _ ho lt) R
 |false=>
  refine cc (jk (dv (iY Y R nb #[_,Gc,?_])));rw[vn];cases en:(x == IU (EY "!")) with
  |true=>
   obtain rfl:x=_:=beq_iff_eq.mp en;refine bN ?_;refine aN 2 Y.nd (bC 1 ?_);refine bH (afO (dv (iY Y R nb #[_,Gc,?_])));rw[vn,en];refine cc (cc (zm 2 Y hd (by intro z;cases z) (R.as xT) λlt R=>vh ?_));exact tail _ (d+1) _ rfl (λi h=>by unfold au;exact#[_,i,h]) lt (h1 _ _ _ _ _ ho lt) R
  |false=>exact cc (aL #[_,Y.call2 #[G1,hr,T.WR.c,Gc] (pv 1) (by decide) rfl,RS.tail (R.as (mO em en)) hd (h0 _ _ _ ho) (by rw[Fj];lia)])
def Zf.mo {β:Type}(Z:Zf β) (L:E4) (us:EV V):Zf β:= { Z with B:=Z.B.more L us }
theorem db.wide {M M':E4->Prop}{H H':Hp}(k:db M H H') (h: ∀b,M b->M' b):db M' H H':=λb o e m=>k b o e λz=>m (h b z)
section
variable {β:Type}{Z:Zf β}{H:Hp}{p:Fe β}{Q:VK}
structure vJ (Z:Zf β) (L:E4):Prop where
 n0:Z.H0 L=FB
 nm: ¬eU Z.B L
 nx: ∀zs,¬Z.B.bl.x L zs
 nq:L≠Z.B.q
theorem RS.nwl (R:RS Z F b H t Kn p) (h:H L=FB):vJ Z L:=by
 rw[00];have nm:=S.fresh h;refine#[?_,nm,λzs z=>(by rw[S.fr L zs z] at h;cases h),λz=>(by obtain⟨as,all,h1,_⟩:=S.rd.toks;rw[z,h1] at h;cases h)];cases e:Z.H0 L with
 |none=>rfl
 |some o=>rw[R.k L o e nm] at h;cases h
theorem RS.more {us:EV V}(R:RS Z F b H t Kn p) (h:H L=FB):RS (Z.mo L us) F b (aF H L (.lst us)) t Kn p:=by
 rw[00];have N:=R.nwl h;have sm:aW H (aF H L (.lst us)):=a0 h;refine#[#[n,(S.same sm).more ae],(R.k.trans (OS.aW.keeps sm)).wide λb=>cv,λe=>jh.HH (λb o e m=>#[λz=>(de z).elim (λz=>by rw[z,h] at e;cases e) m,sm b o e]) (R.f e),R.l,R.w.mono (λ_ _ z=>z) λ_ _ z H' k=>z H' λb o e m=>k b o e λz=>(de z).elim (λz=>by rw[z,N.n0] at e;cases e) m]
theorem RS.Qv (R:RS (Z.mo L us) F b H t Kn p):H L=Fa (.lst us):=by
 rw[00];exact S.Qv
theorem RS.push {v:V}(N:vJ Z L) (R:RS (Z.mo L us) F b H t Kn p):RS (Z.mo L (us++[v])) F b (aF H L (.lst (us++[v]))) t Kn p:=by
 rw[00];have mm: ∀c,eU (Z.B.more L us) c->eU (Z.B.more L (us++[v])) c:=λc h=>(de h).elim (λz=>by rw[z];exact e9) λz=>cv z;have mm': ∀c,eU (Z.B.more L (us++[v])) c->eU (Z.B.more L us) c:=λc h=>(de h).elim (λz=>by rw[z];exact e9) λz=>cv z;refine#[#[n,S.write N.nx N.nq],(R.k.wide mm).trans (eX e9),λe=>jh.HH (λc o e m=>#[λz=>m (mm' c z),by rw[ac λz=>m (by rw[z];exact e9)];exact e]) (R.f e),R.l,R.w.mono (λ_ _ z=>z) λ_ _ z H' k=>z H' (k.wide mm')]
theorem RS.less (N:vJ Z L) (R:RS (Z.mo L us) F b H t Kn p):RS Z F b H t Kn p:=by
 rw[00];refine#[#[n,S.less],λb o e m=>R.k b o e λz=>(de z).elim (λz=>by rw[z,N.n0] at e;cases e) m,λe=>jh.HH (λb o e m=>#[λz=>m (cv z),e]) (R.f e),R.l,R.w.mono (λ_ _ z=>z) λ_ _ z H' k=>z H' (k.wide λb=>cv)]
theorem vJ.mo (N:vJ Z L') (ne:L'≠L):vJ (Z.mo L us) L':=#[N.n0,λz=>(de z).elim ne N.nm,λzs z=>z.elim (N.nx zs) λz=>ne z.1,N.nq]
theorem RS.swap (R:RS ((Z.mo L us).mo L' V9) F b H t Kn p):RS ((Z.mo L' V9).mo L us) F b H t Kn p:=by
 rw[00];have m1: ∀c,eU ((Z.B.more L us).more L' V9) c->eU ((Z.B.more L' V9).more L us) c:=λc h=>(de h).elim (λz=>by rw[z];exact cv e9) λz=>(de z).elim (λz=>by rw[z];exact e9) λz=>cv (cv z);have m2: ∀c,eU ((Z.B.more L' V9).more L us) c->eU ((Z.B.more L us).more L' V9) c:=λc h=>(de h).elim (λz=>by rw[z];exact cv e9) λz=>(de z).elim (λz=>by rw[z];exact e9) λz=>cv (cv z);exact#[#[n,S.rd,S.wh,S.kn,S.SI,S.R8,S.PL,λc zs z=>S.fr c zs (z.elim (λz=>z.elim (λz=> .inl (.inl z)) .inr) λz=> .inl (.inr z))],R.k.wide m1,λe=>jh.HH (λc o e m=>#[λz=>m (m2 c z),e]) (R.f e),R.l,R.w.mono (λ_ _ z=>z) λ_ _ z H' k=>z H' (k.wide m2)]
theorem mj (i:Fm) (Y:RX X Z.a Z.E) (R:RS Z F b H t Kn p) (q: ∀L H',vJ Z L->RS (Z.mo L []) F b H' t Kn p->Bd X ss D (σ.set i (Fa (.ref L))) H') (h:Sl X i y:=by exact#[Gc,GO rfl,Gc]):Bd X (.Assign [.Name y p0] (.List [] p1) p5::ss) D σ H:=
 aN i Y.nd (mr λL h=>q L _ (R.nwl h) (R.more h)) h
theorem rh {te:TE}(N:vJ Z L) (R:RS (Z.mo L us) F b H t Kn p) (he:PE X e te) (hv: ∀R:VK,R (.ref L) H->te σ H R) (q:Pe X f σ H λv H1=> ∃F' b' t' Xl p',us.length<FP/\RS (Z.mo L us) F' b' H1 t' Xl p'/\(∀H2,RS (Z.mo L (us++[v])) F' b' H2 t' Xl p'->Bd X ss D σ H2))
  (hb:Im e "append" X.env (eval e X.env)=eval e X.env:=by rfl) (Kd:Fy [f] X.env=[(FS,eval f X.env)]:=by rfl) (hp:ip p2 p4:=by rfl):
  Bd X (.Expr (.Call (.Attribute e "append" p2) [f] [] p4) p5::ss) D σ H:=by
 refine iJ he hv R.Qv (q.mono λv H1 z=>?_) hb Kd hp;obtain⟨F',b',t',Xl,p',h1,R',h2⟩:=z;exact#[us,R'.Qv,h1,h2 _ (R'.push N)]
theorem k6 (Y:RX X Z.a Z.E) (R:RS Z F b H t Kn p) (lit:d7 v (EY s)) (st:aK p) (h:FY t s=FM->p t=Fx 5 t) (q:FY t s=FS->Bd X ss D (Fa (.ref Z.B.r)::σ) H) (hg:Gl X "refuse_here":=by rfl):
  Bd X (.Expr (.Call (.Name "refuse_here" p1) [.Name "reader" p2, .Constant (.str v) j p3] [] p4) p5::ss) D (Fa (.ref Z.B.r)::σ) H:=by
 rw[00];obtain⟨x,t',rfl,tok,QN,MJ,_⟩:=S.wh.first;refine bE #[_,aJ (aho Y.T Y.C) (Y.hr.mono [01]) hg Y.T.ZP.c Y.up (aa Y.rd (aa dJ ag)),Z.B.r,Z.B.q,Z.B.kd,Z.B.fn,Z.B.ds,Z.B.bl,n,x,t',v,Gc,S.rd,λb=>st.Lw (QN.trans b) R.w H R.k,λnb e=>?_,λnb e=>?_]
 ·rw[cQ tok lit] at e
  exact fF (h e) nb R.w H R.k
 ·rw[cQ tok lit] at e
  exact q e
end
end OS
namespace OS
open Vbemac
def cJ (f e:Fm) (K:Known) (m:Fm):P Exps:=λu=>
 if m=0 then(if LP u ","=FM then fail 5 u else(sign ")">>=λ_=>pure .nil:P Exps) u)
 else(if LP u ")"=FM then fail 5 u else(sign ",">>=λ_=>arguments f e K m:P Exps) u)
def xB:EV Exp->Exps->Exps
 |[],l=>l
 |e::r,l=> .cons e (xB r l)
theorem rT {es:EV Exp}{x:Exp}{l:Exps} :xB (es++[x]) l=xB es (.cons x l):=by
 induction es with
 |nil=>rfl
 |cons y r ih=>show Exps.cons y (xB (r++[x]) l)=_;rw[ih];rfl
theorem dM (f e:Fm) (K:Known) (m:Fm):aK (cJ f e K m):=λt h=>by
 unfold cJ;rw[c8 h,c8 h];by_cases c:m=0
 ·rw[E7 c,E5 EZ]
  exact(bi ")").bind t h
 ·rw[E5 c,E5 EZ]
  exact(bi ",").bind t h
theorem rf {f d:Fm}{Kn:Known}{u:F7}{xp:Pos}{t:MI}{g:F7×Fm}(hs:u≠text "sum") (hk:KEYS.contains u=FS) (hf:Kn.funs.find? (λf=>f.1 == u)=Fa g):
  primary (f+1) d Kn ((.word u,xp)::t)=(deeper d>>=λe=>next>>=λ_=>sign "(">>=λ_=>(if g.2=0 then(sign ")">>=λ_=>pure (.call u .nil)) else(arguments f e Kn g.2>>=λl=>pure (.call u l))):P Exp) ((.word u,xp)::t):=by
 rw[primary];show(if u=text "sum" then _ else _)=_
 rw[E5 hs,E5 (by rw[hk];exact EZ)];simp only[hf]
end OS
namespace OS
open PySem PySem.Spec L2
open PyProof.Rows hiding St
variable {P:FW}{w:Gx}{K:E1}{mg:FD->Fd E3}{base:GI}{a:bf}
section
open Vbemac (arguments)
theorem xg:d7 "," (EY ","):=[008]
section
variable {α β γ:Type}{p q:Fe α}{g:α->Fe β}{h:β->Fe γ}
theorem aS (e:p t=q t):(p>>=g) t=(q>>=g) t:=by
 show FF p g t=FF q g t
 unfold FF;rw[e]
end
def Zf.at {β:Type}(Z:Zf β) (l:Fm):Zf β:= { Z with L:=l }
section
variable {β:Type}{Z:Zf β}{F:EV (Fk×V)}{b:Gg}{H:Hp}{t:E2}{Kn:E6}{p:Fe β}{L:E4}{l:Fm}
theorem RS.at (R:RS Z F b H t Kn p):RS (Z.at t.length) F FS H t Kn p:=#[R.S,R.k,R.f,Fq _,R.w]
theorem RS.back (h:l<=Z.L) (R:RS (Z.at l) F FM H t Kn p):RS Z F FM H t Kn p:=#[R.S,R.k,R.f,FA R.l h,R.w]
end
theorem nM {K:E6}{t:E2}(h:FY t ","=FS):cJ f e K 0 t=(FX ")">>=λ_=>pure .nil:Fe JP) t:=by
 unfold cJ;rw[E7 rfl,E5 (by rw[h];exact EZ)]
theorem nv {K:E6}{t:E2}(hm:m≠0) (h:FY t ")"=FS):cJ f e K m t=(FX ",">>=λ_=>arguments f e K m:Fe JP) t:=by
 unfold cJ;rw[E5 hm,E5 (by rw[h];exact EZ)]
theorem gX {K:E6}{t:E2}(h:if m=0 then FY t ","=FM else FY t ")"=FM):cJ f e K m t=Fx 5 t:=by
 unfold cJ;by_cases c:m=0
 ·rw[E7 c] at h ⊢; rw[E7 h]
 ·rw[E5 c] at h ⊢; rw[E7 h]
theorem abg {K:E6}{t:E2}(h:FY t ")"=FM):arguments (f+1) e K n t=Fx 5 t:=by
 rw[arguments];show(if FY t ")"=FM then _ else _)=_
 rw[E7 h]
theorem Es {K:E6}{t:E2}(hn:1<=n) (h:FY t ")"=FS):arguments (f+1) e K n t=(FE f e K>>=λa=>cJ f e K (n-1)>>=λl=>pure (.cons a l):Fe JP) t:=by
 rw[arguments];show(if FY t ")"=FM then _ else _)=_
 rw[E5 (by rw[h];exact EZ)];show FF _ _ t=FF _ _ t;unfold FF
 congr 1
 funext #[a,u]
 show(if n<=1 then _ else _:Fe JP) u=(cJ f e K (n-1)>>=λl=>pure (.cons a l):Fe JP) u
 by_cases n1:n<=1
 ·rw[E7 n1,show n-1=0 by lia]
  show(if FY u ","=FM then Fx 5 u else _)=_
  by_cases c:FY u ","=FM
  ·rw[E7 c,aS (gX (by rw[E7 rfl];exact c))]
   rfl
  ·rw[E5 c,aS (nM (by cases h:FY u ",";rfl;exact Fv h c)),bind_assoc]
   rfl
 ·rw[E5 n1]
  show(if FY u ")"=FM then Fx 5 u else _)=_
  by_cases c:FY u ")"=FM
  ·rw[E7 c,aS (gX (by rw[E5 (by lia)];exact c))]
   rfl
  ·rw[E5 c,aS (nv (by lia) (by cases h:FY u ")";rfl;exact Fv h c)),bind_assoc]
def w9 (f e:Fm) (Kn:E6) (u:EW) (wanted:Fm):EV Fc->Fe Fc
 |[]=>if wanted=0 then(FX ")">>=λ_=>pure (.call u .nil)) else(arguments f e Kn wanted>>=λl=>pure (.call u l))
 |x::es=>cJ f e Kn (wanted-(x::es).length)>>=λl=>pure (.call u (xB (x::es) l))
theorem vo {f e w:Fm}{Kn:E6}{t:E2}(lt:es.length<w) (hc:FY t ")"=FS):
  (arguments (f+1) e Kn (w-es.length)>>=λl=>pure (.call u (xB es l)):Fe Fc) t=(FE f e Kn>>=λa=>w9 f e Kn u w (es++[a])) t:=by
 rw[aS (Es (by lia) hc),bind_assoc];refine Ga (λg=>(FE f e Kn>>=g:Fe Fc) t) (funext λa=>?_);rw[bind_assoc];have n:w-es.length-1=w-(es++[a]).length:=by rw[Ft,Jm];lia
 have e1:(λl=>(pure (Ts u (xB es (.cons a l))):Fe Fc))=λl=>pure (.call u (xB (es++[a]) l)):=funext λl=>by rw[rT]
 rw[n];show(cJ f e Kn _>>=λl=>(pure (Ts u (xB es (.cons a l))):Fe Fc))=_
 rw[e1];cases es with
 |nil=>rfl
 |cons y r=>rfl
abbrev fkE (ps:EV (Fc×V)):EV (Fk×V):=ps.map λx=>(.e x.1,x.2)
theorem wG {a:bf}{M:E4->Prop}{H:Hp}{l:JP}{ws:EV V}(hl:cr a M H l ws): ∀ {ps:EV (Fc×V)},(∀ {i:Fm}{x:Fk×V},(fkE ps)[i]?=Fa x->jh a M H x)->cr a M H (xB (ps.map (·.1)).reverse l) ((ps.map (·.2)).reverse++ws)
 |[],_=>hl
 | (e,v)::ps,h=>by
  rw[FC,FC,GA,GA,rT,Gr];refine wG (l:= .cons e l) ?_ λ{i x} q=>h (i:=i+1) q;unfold cr;exact#[v,ws,Gc,h (i:=0) rfl,hl]
theorem oA {Z:Zf Fc}{F:EV (Fk×V)}{b:Gg}{H:Hp}{t:E2}{Kn K:E6}{f e w:Fm}{u:EW}{x:Fc×V}{r:EV (Fc×V)}(R:RS Z F b H t Kn (w9 f e K u w ((x::r).map (·.1)).reverse)):RS Z F b H t Kn (cJ f e K (w-((x::r).map (·.1)).reverse.length)>>=λl=>pure (.call u (xB ((x::r).map (·.1)).reverse l))):=by
 cases h:((x::r).map (·.1)).reverse with
 |nil=>rw[EV.reverse_eq_nil_iff] at h;cases h
 |cons y l=>rw[h] at R;exact R
theorem ah9 {b:Gg}{A B:Prop}(e:b=FM) (h:A):if b=FM then A else B:=by rw[E7 e];exact h
theorem qF (f e:Fm) (K:E6) (u:EW) (w:Fm) (es:EV Fc) (x:Fc):aK (w9 f e K u w (es++[x])):=by
 cases es with
 |nil=>exact(dM _ _ _ _).bind
 |cons y r=>exact(dM _ _ _ _).bind
theorem aia {β:Type}{Z:Zf β}{F:EV (Fk×V)}{b:Gg}{H:Hp}{t:E2}{Kn:E6}{p:Fe β}{Q:VK}{te:TE}{g:EW×Fm}(Y:RX X Z.a Z.E) (R:RS Z F b H t Kn p) (he:PE X e te) (hv: ∀Q:VK,Q (.str (sb u)) H->te (Fa (.ref Z.B.r)::σ) H Q) (hg:Kn.funs.find? (λf=>f.1 == u)=Fa g) (q:Q (.int (g.2:Fm)) H) (hs:Ee e:=by exact λ_ _=>rfl):
  Pe X (.Subscript (.Attribute [005] "functions" p2) e p3) (Fa (.ref Z.B.r)::σ) H Q:=by
 rw[00];obtain⟨dr,er⟩:=S.rd.ins;obtain⟨ff,f1,f2⟩:=S.kn.funs;have f2:=f2 u;rw[hg] at f2;exact#[_,jO (dn Y.hr) (ah Y.rd rfl) he hs,Z.B.r,_,dr,_,_,Gc,er,Y.T.FV,Y.T.Iy,Gc,hv _ #[Z.B.fn,_,Gc, .inl #[ff,nk u, .inl f1,Gc,f2.symm],q]]
inductive YE (Z:Zf Fc) (L:E4) (Kn:E6) (u:EW) (w e:Fm) (σ0:L2.St) (m:Fm) (σ:L2.St) (H:Hp):Prop
 |mk (ps:EV (Fc×V)) (t:E2) (f:Fm) (_:m=w-ps.length) (_:σ=σ0) (_:ps.length<=w) (_:ps.length+t.length<=Z.L) (_:16*t.length+12<=f) (_:ps=[]->16*t.length+13<=f) (_:RS (Z.mo L (ps.map (·.2)).reverse) (fkE ps) FM H t Kn (w9 f e Kn u w (ps.map (·.1)).reverse)):YE Z L Kn u w e σ0 m σ H
inductive aib (Z:Zf Fc) (L:E4) (Kn:E6) (u:EW) (w e:Fm) (σ0:L2.St) (ps:EV (Fc×V)) (l:Fm) (σ:L2.St) (H:Hp):Prop
 |mk (t:E2) (f:Fm) (_:σ=σ0) (_:t.length<=l) (_:16*t.length+12<=f) (_:RS (Z.mo L (ps.map (·.2)).reverse) (fkE ps) FM H t Kn (arguments (f+1) e Kn (w-(ps.map (·.1)).reverse.length)>>=λl=>pure (.call u (xB (ps.map (·.1)).reverse l)))):aib Z L Kn u w e σ0 ps l σ H
section
variable {k j:Fm}
theorem alZ (T:aU K mg a) (XC:XT K a) (hk:8<=k)
  (G:T.Sn.O P w base k (aX a FM FE 12 (Lv j))):
  T.d_Y.O P w base (k+1) (aX a FS Gw 6 (LvC (j+1))):=by
 refine vk T XC hk T.d_Y.F alf λGF A outer s H B t Kn d fuel Q E hr hd ho hf hm=>?_;intro X D Z Y R;obtain⟨hl,u,g,h0,hs,hu,hg⟩:=ho;obtain⟨xp,r,rfl⟩:=eY R h0;obtain⟨f,rfl⟩: ∃f,fuel=f+1:=#[fuel-1,by lia];have c:CB X "read_exp" ["reader","depth"] (aX a FM FE 12 (Lv j)):=#[G,hr,T.Sn.c,Gc];have hl:13<=d+1+j:=by rw[MX];exact hl
 refine zm 2 Y hd (by intro z;cases z) (R.as (rf hs hu hg)) λlt R=>?_;refine aN 3 Y.nd (iq Y R YD λH R=>?_);refine cE Y yc R λH t R=>?_;have l1:t.length+1<=Z.L:=R.l;refine aN 4 Y.nd (aia Y R (pv 3) [05] hg ?_);refine mj 5 Y R λL H N R=>?_;have hL:(r.length+1:Fm)<=Z.L:=Fq _;have hm:Kn.values.length+Z.L<=4000:=hm;have hf:16*Z.L+6<=f+1:=hf;refine fW Y.lv (YE Z L Kn u g.2 (12-(d+1)) [Fa (.ref B.r),Fa (.int d),Fa (.int ((d+1:Fm):Int)),Fa (.str (sb u)),Fa (.int (g.2:Fm)),Fa (.ref L)]) _ #[[],t,f,Gc,Gc,FI _,by show 0+t.length<=_;lia,by lia,λ_=>by lia,R] ?_;rintro m σ H ⟨ps,t,f,rfl,rfl,h1,h2,h3,h4,R⟩;refine cR ka (iA T.JW R.Qv (pv 5) [05] (bC 4 #[_,_,Gc,Gc,_,Gc,aP (λe=>?_) λe=>?_]))
 ·have lt':ps.length<g.2:=by have:=FN e;rw[Gv,Fh] at this;lia
  have len:((ps.map (·.1)).reverse:EV Fc).length=ps.length:=by rw[Gv,Fh]
  refine gc (aib Z L Kn u g.2 (12-(d+1)) [Fa (.ref B.r),Fa (.int d),Fa (.int ((d+1:Fm):Int)),Fa (.str (sb u)),Fa (.int (g.2:Fm)),Fa (.ref L)] ps t.length) ?_ ?_
  ·rintro σ H ⟨t1,f1,rfl,l1,hf1,R⟩
   refine k6 Y R vM (kW _ _ _ _).bind (λh=>(aS (abg h)).trans rfl) λhc=>?_;have R:=R.as (vo (by rw[len];exact lt') hc);refine rh N R (pv 5) [05] #[_,Y.call2 c (pv 2) [01] rfl,R.at.call (oB λx=>qF _ _ _ _ _ _ _) lt hl (by lia) λe1 v1 H t2 _ R2=>#[_,_,_,_,_,by rw[Gv,Fh];exact F9 (show ps.length<=4000 by lia) [01],RS.back (Z:=Z.mo L _) (l:=t1.length) (by show t1.length<=Z.L;lia) R2,λH3 R3=>?_]];have l2:t2.length+1<=t1.length:=R2.l;refine ga #[_,(show g.2-((e1,v1)::ps).length<g.2-ps.length by rw[Fj];lia),(e1,v1)::ps,t2,f1,Gc,Gc,(by rw[Fj];lia),(by rw[Fj];lia),(by lia),(λz=>nomatch z),?_]
   rw[FC,FC,GA,GA];exact R3
  ·refine cR gk (iA T.JW R.Qv (pv 5) [05] (cN #[_,_,Gc,Gc,_,Gc,?_]))
   cases ps with
   |nil=>
    refine bN ?_;have R:RS _ (fkE []) FM H t Kn (if g.2=0 then _ else _):=R
    rw[E5 (by have:0<g.2:=lt';lia)] at R;obtain⟨f,rfl⟩: ∃f',f=f'+1:=#[f-1,by lia];exact#[t,f,Gc,Fq _,Fm.le_of_succ_le_succ (h4 rfl),R]
   |cons x r=>
    refine ah9 (Gy (by rw[Gv,Fh,Fj];lia)) ?_;have R:=oA R;refine k6 Y R vM (dM _ _ _ _).bind (λh=>(aS (gX (by rw[E5 (by rw[len];lia)];exact h))).trans rfl) λhc=>?_;refine cE (Z:=(Z.mo L ((x::r).map (·.2)).reverse).at t.length) Y xg (R.at.as ((aS (nv (by rw[len];lia) hc)).trans (congrFun (bind_assoc _ _ _) t))) λH t2 R2=>cf ?_;have l2:t2.length+1<=t.length:=R2.l;obtain⟨f,rfl⟩: ∃f',f=f'+1:=#[f-1,by lia];exact#[t2,f,Gc,by lia,by lia,RS.back (Z:=Z.mo L _) (l:=t.length) (by show t.length<=Z.L;lia) R2]
 ·have eq:ps.length=g.2:=by have:=FR e;rw[Gv,Fh] at this;lia
  have len:((ps.map (·.1)).reverse:EV Fc).length=ps.length:=by rw[Gv,Fh]
  have R:RS (Z.mo L (ps.map (·.2)).reverse) (fkE ps) FM H t Kn (if g.2=0 then(FX ")">>=λ_=>pure (.call u .nil)) else(cJ f (12-(d+1)) Kn 0>>=λl=>pure (.call u (xB (ps.map (·.1)).reverse l)))):=by
   cases ps with
   |nil=>
    have h0:g.2=0:=eq.symm
    have R:RS _ (fkE []) FM H t Kn (if g.2=0 then _ else _):=R
    rw[E7 h0] at R ⊢;exact R
   |cons x r=>
    have R:=oA R;rw[len,eq,Qj] at R;rw[E5 (by rw[<-eq,Fj];lia)];exact R
  have eN:RS (Z.mo L (ps.map (·.2)).reverse) (fkE ps) FM H t Kn (FX ")">>=λ_=>pure (.call u (xB (ps.map (·.1)).reverse .nil)))->Bd X ((be s_Y).drop 7) D [Fa (.ref B.r),Fa (.int d),Fa (.int ((d+1:Fm):Int)),Fa (.str (sb u)),Fa (.int (g.2:Fm)),Fa (.ref L)] H:=λR=>by
   refine cE Y vM R λH t R=>?_;have hL:=R.Qv;refine aL (jy Y (ET T) (aO (bC 3 (aO (bC 5 (cH (R.new rfl λv H i R=>?_)))))));have hL:=R.Qv;have R:=R.less N;refine R.done ?_;unfold au;refine#[.ref L,_,bI.keep (λb o e m=>#[λz=>m (cv z),e]) i,#[L,Gc,N.nm,hL],?_];have:=wG (l:= .nil) (ws:=[]) (by unfold cr;rfl) R.f;rw[GL] at this;exact this
  refine bH (cR gk (bC 4 (cN #[_,_,Gc,Gc,_,Gc,aP (λe=>?_) λe=>?_])))
  ·have h0:g.2≠0:=by have:=FN e;lia
   rw[E5 h0] at R;refine k6 Y R xg (dM _ _ _ _).bind (λh=>(aS (gX (by rw[E7 rfl];exact h))).trans rfl) λhc=>vh (eN (R.as ?_));exact(aS (nM hc)).trans (congrFun (bind_assoc _ _ _) t)
  ·have h0:g.2=0:=by have:=FR e;lia
   rw[E7 h0] at R;obtain rfl:ps=[]:=NJ.mp (eq.trans h0);exact eN R
end
end
theorem lK {α β:Type}{F:α->β->Prop} : ∀ {l:EV α}{m:EV β}{i:Fm}{y:β},Paired F l m->m[i]?=Fa y-> ∃x,l[i]?=Fa x/\F x y
 |_,_,_,_, .nil,h=>by cases h
 |_,_,0,_, .cons r t,h=>#[_,Gc,by obtain rfl:=Fs h;exact r]
 |_,_,i+1,_, .cons r t,h=>lK (i:=i) t h
theorem zK.row {K:E1}{ad:E4}{i:Fm}{xs:EV V}{H:Hp}(h:zK K ad di) (e:di[i]?=Fa xs): ∃qs:EV E4,qs.length=5/\qG K H ad (qs.map V.ref)/\ ∃q,zJ (qs.map V.ref) (i:Fm)=Fa (.ref q)/\qG K H q xs:=by
 obtain⟨qs,h1,h2⟩:=h;obtain⟨q,hq,hk⟩:=lK h2 e;refine#[qs,bj h2,h1.sq,q,?_,hk.sq];refine bw ?_;rw[Gf,hq]
 rfl
theorem CH {x:Gs}(tok:gb x) {sg:EV EW}(hs: ∀o∈sg,o∈Gu) (h:uj (ii x) (sg.map λo=>V.str (dI o))=FM): ∃op∈sg,x= .sign op:=by
 unfold uj at h;rw[S7,LL] at h;obtain⟨o,ho,e⟩:=h;refine#[o,ho,(t8 tok (x:=dI o) #[Gc,hs o ho]).mp ?_];have e:D4 (V.str (dI o)) (ii x)=FM:=e;cases x with
 |word u=>exact Ga Fa (beq_iff_eq.mp (show(dI o == sb u)=FM from e)).symm
 |num n=>cases (show FS=FM from e)
 |sign u=>exact Ga Fa (beq_iff_eq.mp (show(dI o == dI u)=FM from e)).symm
 |eof=>exact Ga Fa (beq_iff_eq.mp (show(dI o == sb [])=FM from e)).symm
 |bad=>exact Ga Fa (beq_iff_eq.mp (show(dI o == sb [])=FM from e)).symm
theorem CV {op:EW}{sg:EV EW}(h:op∈sg):uj (ii (.sign op)) (sg.map λo=>V.str (dI o))=FM:=by
 unfold uj;rw[S7,LL];exact#[op,h,show(dI op == dI op)=FM from GN _]
theorem zB (x:Gs):jo (ii x)=FM:=by cases x<;>rfl
theorem vT (sg:EV EW):(sg.map λo=>V.str (dI o)).all jo=FM:=by
 rw[SX,LJ];exact λ_ _=>rfl
section
variable {M:E4->Prop}{H:Hp}
theorem uy: ∀ {es:Pairs}{us:EV V},Paired (λ(x:EW×Fc) u=>au a M H x.2 u) es us->cr a M H (vp es .nil) us
 |_,_, .nil=>by unfold vp cr;rfl
 |_,_, .cons h t=>by unfold vp cr;exact#[_,_,Gc,h,uy t]
theorem vC: ∀ {es:Pairs}{us:EV V},Paired (λ(x:EW×Fc) u=>au a M H x.2 u) es us->dE a M H (vH es .nil) us (es.map λx=>V.str (dI x.1))
 |_,_, .nil=>by unfold vH dE;exact#[Gc,Gc]
 |_,_, .cons h t=>by unfold vH dE;exact#[_,_,_,Gc,Gc,h,vC t]
theorem rB {F:EW×Fc->V->Prop}{o:EW} : ∀ {es:Pairs}{us:EV V},Paired F es us->(∀x∈es,x.1∈[o])->(es.map λx=>V.str (dI x.1))=us.map λ_=>V.str (dI o)
 |_,_, .nil,_=>rfl
 |_,_, .cons h t,hx=>by
  rw[FC,FC,Fz.mp (hx _ (Fb ..)),rB t λy hy=>hx y (E9 _ hy)]
end
theorem aic:dI (EY "||")="||":=by decide+kernel
theorem abh:dI (EY "&&")="&&":=by decide+kernel
structure pG (s:Fm) (sg:EV EW) (once:Gg) (res:Fc->Pairs->Fc):Prop where
 U2: ∀e,res e []=e
 at_: ∀ {a:bf}{M:E4->Prop}{H:Hp}{e:Fc}{es:Pairs}{v w:V}{us:EV V}{q g:V},es≠[]->(∀x∈es,x.1∈sg)->(once=FM->es.length<=1)->bI M H a.JD [("strength", .int (s:Fm)),("operands",q),("signs",g)] w->
  b5 M H (v::us) q->b5 M H (es.map λx=>V.str (dI x.1)) g->au a M H e v->Paired (λ(x:EW×Fc) u=>au a M H x.2 u) es us->au a M H (res e es) w
theorem abi:pG 0 S0 FS (λe es=>D2 e (vp es .nil)) where
 U2 e:=rfl
 at_ {a M H e es v w us q g} h0 hs _ hi hq hg he Wa:=by
  cases es with
  |nil=>exact Fv rfl h0
  |cons y r=>
   rw[rB Wa hs,aic] at hg;show au a M H (.either e (vp (y::r) .nil)) w;unfold au;exact#[q,g,v,_,hi,hq,hg,he,uy Wa]
theorem DS:pG 1 S1 FS (λe es=>bth e (vp es .nil)) where
 U2 e:=rfl
 at_ {a M H e es v w us q g} h0 hs _ hi hq hg he Wa:=by
  cases es with
  |nil=>exact Fv rfl h0
  |cons y r=>
   rw[rB Wa hs,abh] at hg;show au a M H (.both e (vp (y::r) .nil)) w;unfold au;exact#[q,g,v,_,hi,hq,hg,he,uy Wa]
theorem Ed:pG 3 S3 FS (λe es=>sms e (vH es .nil)) where
 U2 e:=rfl
 at_ {a M H e es v w us q g} h0 hs _ hi hq hg he Wa:=by
  cases es with
  |nil=>exact Fv rfl h0
  |cons y r=>
   show au a M H (.sums e (vH (y::r) .nil)) w
   unfold au;exact#[q,g,v,_,_,hi,hq,hg,he,vC Wa]
theorem Du:pG 4 S4 FS (λe es=>oR e (vH es .nil)) where
 U2 e:=rfl
 at_ {a M H e es v w us q g} h0 hs _ hi hq hg he Wa:=by
  cases es with
  |nil=>exact Fv rfl h0
  |cons y r=>
   show au a M H (.prods e (vH (y::r) .nil)) w
   unfold au;exact#[q,g,v,_,_,hi,hq,hg,he,vC Wa]
theorem EC:pG 2 S2 FM ah6 where
 U2 e:=rfl
 at_ {a M H e es v w us q g} h0 hs h1 hi hq hg he Wa:=by
  cases Wa with
  |nil=>exact Fv rfl h0
  |cons h t=>
   cases t with
   |nil=>
    show au a M H (.cmp _ e _) w
    unfold au;exact#[q,g,v,_,hi,hq,hg,he,h]
   |cons h2 t2=>
    have:=h1 rfl;rw[Fj,Fj] at this;lia
inductive uL (a:bf) (w2:Gg) (s:Fm) (p:Fm->Fm->E6->Fe Fc) (c:Fm) (ok:Fm->E6->E2->Prop) (vs:EV V) (H:Hp) (Q:VK) (E:XK):Prop
 |mk (u v:V) (_:vs=[u,v, .int (s:Fm)]) (_:aX a w2 p c ok [u,v] H Q E):uL a w2 s p c ok vs H Q E
def Dv {β:Type}(Z:Zf β):Prop:= ∀e r,Fp r= .bad->Z.Ro e r->QE Z.a Z.B Z.H0 Z.E 1 (HZ r)
theorem Dv.mo {β:Type}{Z:Zf β}(h:Dv Z) (N:vJ Z L):Dv (Z.mo L us):=λe r b o H' k=>h e r b o H' λc o e m=>k c o e λz=>(de z).elim (λz=>by rw[z,N.n0] at e;cases e) m
theorem Dv.bad {β:Type}{Z:Zf β}{p:Fe β}(h:Dv Z) (hr:h8 p) (b:Fp t= .bad) (w:W p t Z.Ro (QE Z.a Z.B Z.H0 Z.E)):QE Z.a Z.B Z.H0 Z.E 1 (HZ t):=by
 rcases hr t b with e|⟨x,e⟩
 ·rw[i9 e] at w;exact w
 ·rw[yI e] at w;exact h x t b w
theorem enZ {a:bf}{E:XK}{H0:Hp}{Q:VK} :Dv #[a,E,B,L,H0,Rz FM a B H0 L Kn Q E]:=λe r b w=>by
 have w:Rz FM a B H0 L Kn Q E e r:=w;unfold Rz at w;rw[E7 #[Gc,b]] at w;exact w
theorem aid {w2:Gg}{pp:Fm->Fm->E6->Fe Fc}{c sn:Fm}{ok:Fm->E6->E2->Prop}{x GU:FD}{st:Stmt}{f:E4}{fd:Gb}{N:EV FD}(T:aU K mg a) (XC:XT K a) (hk:8<=k) (F:oU K x GU st f fd) (S:az N ["reader","depth","strength"] (af st))
  (Jv: ∀(GF:E3) (A:GG) (outer:EV Env) (s:E8) (H:Hp) (B:Rb) (t:E2) (Kn:E6) (d fuel:Fm) (Q:VK) (E:XK),bX k (A.deeper (Jz GU (af st) s.heap.objs.size f GF))->d<=12->ok d Kn t->16*t.length+c<=fuel->Kn.values.length+t.length<=4000->
   let X:=e8 (fY P w) P w K mg base N GU (af st) f GF A outer s H E
   let D:d8:= { nx:=λ_ H'=>Q .Iw H',rt:=Q }
   let Z:Zf Fc:=#[a,E,B,t.length,H,Rz w2 a B H t.length Kn Q E]
   RX X a E->RS Z [] FS H t Kn (pp fuel (12-d) Kn)->Bd X (be st) D (L2.start N [.ref B.r, .int d, .int (sn:Fm)]) H):bU P w K mg base (fY P w) (k+1) f fd ["reader","depth","strength"] (uL a w2 sn pp c ok):=by
 refine fQ F S [03] [02];obtain⟨_,_,rfl,B,n,t,Kn,d,fuel,h0,hd,ho,St,hf,hW⟩:=h;cases h0;exact Jv GF A outer s H B t Kn d fuel Q E hr hd ho hf St.kn.len (jU T XC hk S hr) #[#[n,St],db.refl,λ{i x} e=>(by cases e),Fq _,hW]
section
variable {H:Hp}{Q:VK}{E:XK}
theorem C9 (Y:RX X a E) (KT:zK X.K a.HV di) (q:Q (.int 5) H) (h1:Gl X "len":=by rfl) (h2:Gl X "CHAIN_SIGNS":=by rfl):Pe X (.Call (.Name "len" p1) [.Name "CHAIN_SIGNS" p2] [] p3) σ H Q:=by
 obtain⟨qs,qs5,sqA,_⟩:=KT.row (H:=H) (i:=0) rfl;refine#[_,bv bB h1 Y.T.JW Hr (aa (ic h2 Y.T.OH) ag),_,_,Gc, .inr sqA,?_];rw[Fh,qs5];exact q
theorem p_B {te:TE}(Y:RX X a E) (KT:zK X.K a.HV di) (row:di[sn]?=Fa xs) (he:PE X e te) (hv: ∀Q:VK,Q (.int (sn:Fm)) H->te σ H Q) (q: ∀c,qG X.K H c xs->Q (.ref c) H) (h2:Gl X "CHAIN_SIGNS":=by rfl) (hs:ra e:=by exact λ_ _=>rfl):Pe X (.Subscript (.Name "CHAIN_SIGNS" p1) e p3) σ H Q:=by
 obtain⟨qs,qs5,sqA,c,atq,sq⟩:=KT.row (H:=H) row;exact#[_,cM aam (ic h2 Y.T.OH) he hs,hv _ #[_,_,_,_,Gc,Gc,sqA,atq,q c sq]]
theorem RX.YF {sp:Sp}{σ:L2.St}(Y:RX X a E) (c:CB X "read_chain" ["reader","depth","strength"] sp) (q:sp [u,v, .int ((sn+1:Fm):Int)] H Q E) (h1:X.N[1]?=Fa ("depth":FD):=by rfl) (v1:oS X.env.scope "depth":=by exact GO rfl) (h2:X.N[2]?=Fa ("strength":FD):=by rfl) (v2:oS X.env.scope "strength":=by exact GO rfl):
  Pe X (.Call (.Name "read_chain" p1) [.Name "reader" p2, .Name "depth" p3, .BinOp (.Name "strength" p4) .Add (.Constant (.int 1) 0 p5) p6] [] p7) (Fa u::Fa v::Fa (.int (sn:Fm))::σ) H Q:=by
 obtain⟨G,hr,d,hg⟩:=c;exact#[_,aJ G hr hg d Y.up (aa Y.rd (aa (dR h1 v1) (aa (bW dP (dR h2 v2) ak) ag))),_,_,Gc,Gc,q]
end
inductive ChI {p sub:Fm->Fm->E6->Fe Fc}{c c':Fm}{sg:EV EW}{once:Gg}{res:Fc->Pairs->Fc}(L:ChP p sub c c' sg once res) (Z:Zf Fc) (A1 A2:E4) (Kn:E6) (d:Fm) (e:Fc) (v:V) (σ0:L2.St) (m:Fm) (σ:L2.St) (H:Hp):Prop
 |mk (F:EV (Fk×V)) (es:Pairs) (us:EV V) (t:E2) (f:Fm) (_:m=t.length) (_:σ=σ0) (_:once=FM->es=[]) (_:us.length+t.length<Z.L) (_: ∀x∈es,x.1∈sg) (_: ∃i:Fm,F[i]?=Fa (.e e,v)) (_:Paired (λ(x:EW×Fc) u=> ∃i:Fm,F[i]?=Fa (.e x.2,u)) es us) (_:16*t.length+c'<=f)
  (_:RS ((Z.mo A1 (v::us)).mo A2 (es.map λx=>V.str (dI x.1))) F FM H t Kn (L.q f d Kn e es)):ChI L Z A1 A2 Kn d e v σ0 m σ H
theorem yt (T:aU K mg a) (XC:XT K a) (KT:zK K a.HV di) (hk:8<=k)
  (G:T.Wr.O P w base k (aX a FS GD 7 (Lv j))):
  T.XH.O P w base (k+1) (uL a FS 5 GD 7 (Lv j)):=by
 refine aid T XC hk T.XH.F agV λGF A outer s H B t Kn d fuel Q E hr hd ho hf hm=>?_;intro X D Z Y R;exact bH (cR b8 (bC 2 (C9 Y KT #[Gc,_,Gc,cc (aL #[_,Y.call2 #[G,hr,T.Wr.c,Gc] (pv 1) [01] rfl,R.tail hd ho hf])])))
theorem fb (T:aU K mg a) (XC:XT K a) (KT:zK K a.HV di) (hk:8<=k) (hs:sn<5) (h2:sn=2->w2=FM) {p sub:Fm->Fm->E6->Fe Fc}{res:Fc->Pairs->Fc}(Wt:1<=c')
  (L:ChP p sub c c' sg once res) (N:pG sn sg once res) (row:di[sn]?=Fa (sg.map λo=>V.str (dI o))) (sgS: ∀o∈sg,o∈Gu) (YG:once=decide (sn=2))
  (G:T.XH.O P w base k (uL a w2 (sn+1) sub c' (Lv j))):
  T.XH.O P w base (k+1) (uL a FM sn p c (Lv j)):=by
 refine aid T XC hk T.XH.F agV λGF A outer s H B t Kn d fuel Q E hr hd ho hf hm=>?_;intro X D Z Y R;have cb:CB X "read_chain" ["reader","depth","strength"] (uL a w2 (sn+1) sub c' (Lv j)):=#[G,hr,T.XH.c,Gc];refine bH (cR b8 (bC 2 (C9 Y KT #[Gc,_,Gc,?_])));rw[cj,FU (by lia)];refine bN ?_;obtain⟨f,hf1,hp⟩:=L.start (d:=12-d) (Kn:=Kn) (n:=t.length) hf;have z0:Dv Z:=enZ;refine aN 3 Y.nd (uC (aO (Y.YF cb #[_,_,Gc,(R.as (congrFun hp t)).Uz (λ_ e r b w=>z0.bad (L.Pj _ _ _ _ _) b w) hd ho hf1 λe v H t1 _ R=>cH #[by show 1<=FP;decide,λA1 hA1=>?_]])));have N1:=R.nwl hA1;have l1:t1.length+1<=Z.L:=R.l;refine aN 4 Y.nd (mr λA2 hA2=>?_);have ne:A2≠A1:=λz=>by rw[z,ae] at hA2;cases hA2
 have N2:=R.nwl (L:=A2) (by rw[ac ne] at hA2;exact hA2)
 have N2': ∀ {us:EV V},vJ (Z.mo A1 us) A2:=N2.mo ne
 have N1': ∀ {us:EV V},vJ (Z.mo A2 us) A1:=N1.mo ne.symm
 have R:=(R.more (us:=[v]) hA1).more (us:=[]) hA2
 have hm:Kn.values.length+Z.L<=4000:=hm
 have eN: ∀ {F:EV (Fk×V)}{es:Pairs}{us:EV V}{t:E2}{f:Fm}{H:Hp},1<=f->Fp t≠ .bad->(once=FM->es.length<=1)->(once=FM/\es≠[]\/ ∀op,Fp t= .sign op->op∉sg)->(∀x∈es,x.1∈sg)->(∃i:Fm,F[i]?=Fa (.e e,v))->Paired (λ(x:EW×Fc) u=> ∃i:Fm,F[i]?=Fa (.e x.2,u)) es us->
   RS ((Z.mo A1 (v::us)).mo A2 (es.map λx=>V.str (dI x.1))) F FM H t Kn (L.q f (12-d) Kn e es)->Bd X ((be s_u).drop 4) D [Fa (.ref B.r),Fa (.int d),Fa (.int (sn:Fm)),Fa (.ref A1),Fa (.ref A2)] H:=by
  intro F es us t f H hf nb h1 Kd hsg m0 mp R;have R:=R.as (p':=pure (res e es)) (L.stop hf h1 Kd);obtain⟨i0,m0⟩:=m0;refine bH (cR b8 (iA T.JW R.Qv (pv 4) [05] (cN #[Gc,_,Gc,?_])));rw[cj,Fh];refine aP (λh=>?_) λh=>?_
  ·obtain rfl:es=[]:=NJ.mp (by have:=FN h;lia)
   have hA1:=(R.less N2').Qv
   have R:=(R.less N2').less N1;rw[N.U2] at R;exact aL #[_,cM bD (pv 3) ak [002],A1,_,0,v,Gc,Gc,cC.of hA1,bw (j:=0) rfl,R.done (R.f m0) λ_=>nb]
  ·have z1:es≠[]:=λz=>by rw[z] at h;cases h
   refine aL (jy Y (Dd T) (aO (bC 2 (aO (bC 3 (aO (bC 4 (cH (R.new rfl λw H i R=>?_)))))))));have hA2:=R.Qv;have hA1:=(R.less N2').Qv;have R:=(R.less N2').less N1;exact R.done (N.at_ z1 hsg h1 (bI.keep (λb o e m=>#[λz=>m (cv (cv z)),e]) i) #[A1,Gc,N1.nm,hA1] #[A2,Gc,N2.nm,hA2] (R.f m0) (Paired.Np mp λx u ⟨i,h⟩=>R.f h)) λ_=>nb
 refine fW Y.lv (ChI L Z A1 A2 Kn (12-d) e v [Fa (.ref B.r),Fa (.int d),Fa (.int (sn:Fm)),Fa (.ref A1),Fa (.ref A2)]) _ #[_,[],[],t1,f,Gc,Gc,λ_=>rfl,(by show 0+t1.length<_;lia),(λ_ z=>nomatch z),#[0,Gc], .nil,by lia,R] ?_
 rintro m σ H ⟨F,es,us,t,f,rfl,rfl,on0,ul,hsg,m0,mp,hf,R⟩;have z2:Dv ((Z.mo A1 (v::us)).mo A2 (es.map λx=>V.str (dI x.1))):=(z0.mo N1).mo N2'
 refine cR lw (vr Y R (λb=>z2.bad (L.Pj _ _ _ _ _) b R.w) λnb=>p_B Y KT row (pv 2) [05] λc sq=>#[c,_,Gc, .inr sq,zB _,vT sg,_,Gc,aP (λein=>?_) λein=>?_]) rfl
 ·obtain⟨⟨x,xp⟩,r,rfl⟩:=R.cons
  obtain⟨op,Xf,rfl⟩:=CH R.tok sgS ein;obtain⟨f6,hf6,h6⟩:=L.go (x:=(.sign op,xp)) (by rw[Fj] at hf;exact hf) on0 rfl Xf;have lu:us.length=es.length:=(bj mp).symm;rw[Fj] at ul;refine rh N2' R (pv 4) [05] (iq Y (R.as (p':=Gq>>=λ_=>sub f6 (12-d) Kn>>=λe2=>L.q f6 (12-d) Kn e (es++[(op,e2)])) h6) nfS λH R=>#[_,_,_,_,_,by rw[Fh];exact F9 (show es.length<=4000 by lia) [01],R,λH R=>?_]);have R:=R.swap;have z3:Dv (((Z.mo A2 ((es.map λx=>V.str (dI x.1))++[ii (.sign op)])).mo A1 (v::us)).at r.length):=(z0.mo N2).mo N1'
  refine rh N1' R (pv 3) [05] (Y.YF cb #[_,_,Gc,RS.Uz (Z:=((Z.mo A2 ((es.map λx=>V.str (dI x.1))++[ii (.sign op)])).mo A1 (v::us)).at r.length) R.at (λ_ e r b w=>z3.bad (L.Pj _ _ _ _ _) b w) hd ho hf6 λe2 v2 H t2 nb2 R2=>#[_,_,_,_,_,F9 (show(v::us).length<=4000 by rw[Fj];lia) [01],RS.back (Z:=(Z.mo A2 _).mo A1 _) (l:=r.length) (by show r.length<=Z.L;lia) R2,λH R=>?_]]);have l2:t2.length+1<=r.length:=R2.l;have R:RS ((Z.mo A1 (v::(us++[v2]))).mo A2 ((es++[(op,e2)]).map λx=>V.str (dI x.1))) ((.e e2,v2)::F) FM H t2 Kn (L.q f6 (12-d) Kn e (es++[(op,e2)])):=by
   rw[GS];exact R.swap
  have aie: ∀x∈es++[(op,e2)],x.1∈sg:=λx hx=>(FK.mp hx).elim (hsg x) λz=>by rw[Fz.mp z];exact Xf
  have m0': ∃i:Fm,((.e e2,v2)::F)[i]?=Fa (.e e,v):=m0.elim λi h=>#[i+1,h]
  have mp':Paired (λ(x:EW×Fc) u=> ∃i:Fm,((.e e2,v2)::F)[i]?=Fa (.e x.2,u)) (es++[(op,e2)]) (us++[v2]):=gm (Paired.Np mp λx u h=>h.elim λi h=>#[i+1,h]) #[0,Gc]
  refine bH (cR b8 (bC 2 #[_,aR (by rfl) T.RE,Gc,_,Gc,?_]));rw[cj];refine aP (λh=>?_) λh=>?_
  ·have s2:sn=2:=by have:=FN h;lia
   have on1:once=FM:=by rw[YG,s2];rfl
   have es0:=on0 on1;exact Ao (eN (by lia) (nb2 (h2 s2)) (λ_=>by rw[es0];exact Fq _) (.inl #[on1,λz=>by rw[SK] at z;cases z.2]) aie m0' mp' R)
  ·have on1:once≠FM:=by rw[YG,FU λz=>by have:=FR h;rw[z] at this;exact this rfl];exact EZ
   exact ga #[_,(show t2.length<r.length+1 by lia),_,_,us++[v2],t2,f6,Gc,Gc,λz=>Fv z on1,(by rw[Ft,Jm];lia),aie,m0',mp',by lia,R]
 ·exact eN (by lia) nb (λz=>by rw[on0 z];exact FI _) (.inr λop ho hm=>by
   rw[ho,CV hm] at ein;cases ein) hsg m0 mp R
theorem yV (h:Ff t "if"=FS):FE (f+1) d Kn t=ors f d Kn t:=by
 rw[FE];show(if Ff t "if"=FM then _ else _)=_
 rw[E5 (by rw[h];exact EZ)]
 rfl
theorem al0 (T:aU K mg a) (XC:XT K a) (hk:8<=k)
  (G1:T.WQ.O P w base k (aX a FM FE 12 (LvW j (EY "if"))))
  (G2:T.XH.O P w base k (uL a FM 0 ors 11 (Lv j))):
  T.Sn.O P w base (k+1) (aX a FM FE 12 (Lv j)):=by
 refine vk T XC hk T.Sn.F agT λGF A outer s H B t Kn d fuel Q E hr hd ho hf hm=>?_;intro X D Z Y R;refine bH (dv (iT Y R (lP _ _ _) λnb=>#[_,Gc,?_]));rw[b4 R.tok xG];refine aP (λe=>?_) λe=>?_
 ·exact aL #[_,Y.call2 #[G1,hr,T.WQ.c,Gc] (pv 1) [01] rfl,R.tail hd #[ho,beq_iff_eq.mp e] hf]
 ·obtain⟨f,rfl⟩: ∃f,fuel=f+1:=#[fuel-1,by lia]
  exact aL #[_,aJ G2 hr (by rfl) T.XH.c Y.up (aa Y.rd (aa (pv 1) (aa ak ag))),_,_,Gc,RS.tail (R.as (yV e)) hd ho (by lia)]
theorem aif {CX:pw}{k:Fm}{sp1 sp2:Sp}(F1:bU P w K mg base CX k f fd ps sp1) (F2:bU P w K mg base CX k f fd ps sp2):bU P w K mg base CX k f fd ps (λvs H Q E=>sp1 vs H Q E\/sp2 vs H Q E):=
 #[λvs H Q E h=>h.elim (F1.len vs H Q E) (F2.len vs H Q E),λA outer s H args us vs Q E hr he hb hv h=>h.elim (F1.run A outer s H args us vs Q E hr he hb hv) (F2.run A outer s H args us vs Q E hr he hb hv)]
theorem yT {p:Fm->Fm->E6->Fe Fc}{ok1 ok2:Fm->E6->E2->Prop}{H:Hp}{Q:VK}{E:XK}(h:aX a w2 p c (λd K t=>ok1 d K t\/ok2 d K t) vs H Q E):aX a w2 p c ok1 vs H Q E\/aX a w2 p c ok2 vs H Q E:=by
 obtain⟨B,n,t,Kn,d,fuel,e,hd,ok,S,hf,hW⟩:=h;rcases ok with ok|ok
 ·exact .inl #[B,n,t,Kn,d,fuel,e,hd,ok,S,hf,hW]
 ·exact .inr #[B,n,t,Kn,d,fuel,e,hd,ok,S,hf,hW]
theorem kt {p:Fm->Fm->E6->Fe Fc}{H:Hp}{Q:VK}{E:XK}(h:aX a w2 p c (Lv 0) vs H Q E):False:=by
 obtain⟨B,n,t,Kn,d,fuel,e,hd,ok,S,hf,hW⟩:=h;have ok:13<=d+0:=ok;lia
theorem kC:(∀o∈S0,o∈Gu)/\(∀o∈S1,o∈Gu)/\(∀o∈S2,o∈Gu)/\(∀o∈S3,o∈Gu)/\(∀o∈S4,o∈Gu):=by decide+kernel
theorem al1:di[0]?=Fa (S0.map λo=>V.str (dI o)):=by decide+kernel
theorem al2:di[1]?=Fa (S1.map λo=>V.str (dI o)):=by decide+kernel
theorem al3:di[2]?=Fa (S2.map λo=>V.str (dI o)):=by decide+kernel
theorem al4:di[3]?=Fa (S3.map λo=>V.str (dI o)):=by decide+kernel
theorem al5:di[4]?=Fa (S4.map λo=>V.str (dI o)):=by decide+kernel
theorem al6 (T:aU K mg a) (XC:XT K a) (KT:zK K a.HV di): ∀j:Fm,
  T.Sn.O P w base (8+11*j) (aX a FM FE 12 (Lv j))/\
  T.Wr.O P w base (8+11*j) (aX a FS GD 7 (Lv j)):=by
 intro j
 induction j with
 |zero=>exact#[fQ T.Sn.F agT (λ_ _ _ _ h=>(kt h).elim) (λ_ _ _ _ _ _ _ _ _ h=>(kt h).elim),fQ T.Wr.F aaI (λ_ _ _ _ h=>(kt h).elim) (λ_ _ _ _ _ _ _ _ _ h=>(kt h).elim)]
 |succ j ih=>
  obtain⟨E0,U0⟩:=ih;have hk:8<=8+11*j:=by lia
  rw[show 8+11*(j+1)=8+11*j+11 by lia];generalize 8+11*j=k at hk E0 U0 ⊢;have B:=ah1 T XC hk E0;have Su:=ah0 T XC hk E0;have Ca:=alZ T XC hk E0;have Ch:=ah2 T XC hk E0;have Pr:=ah8 T XC (by lia) B Su Ca;have UF:T.Wr.O P w base (k+1+1) (aX a FS GD 7 (λ_ _ _=>False)):=
   fQ T.Wr.F aaI (λ_ _ _ _ h=>by obtain⟨B,n,t,Kn,d,fuel,e,hd,ok,_⟩:=h;exact ok.elim) (λ_ _ _ _ _ _ _ _ _ h=>by obtain⟨B,n,t,Kn,d,fuel,e,hd,ok,_⟩:=h;exact ok.elim)
  have UN:=gA (j:=j+1) (λd _ t=>13<=d+(j+1)/\ ∃m,Fp t= .num m) (λ_ _ _=>False) T XC (by lia) (λd Kn t h=>h.1) (λd Kn s xp t h _=>by obtain⟨_,m,z⟩:=h;cases z) (λd Kn s xp t m h _=>by obtain⟨_,m,z⟩:=h;cases z) Pr UF
  have UB:=(aif (U0.mono (by lia:k<=k+1+1+1)) UN).imp λvs H Q E h=>yT h
  have Un:=gA (j:=j+1) (Lv (j+1)) (λd K t=>Lv j d K t\/(13<=d+(j+1)/\ ∃m,Fp t= .num m)) T XC (by lia) (λd Kn t h=>h) (λd Kn s xp t h lt=> .inl (by have h:13<=d+(j+1):=h;show 13<=d+1+j;lia)) (λd Kn s xp t m h z=> .inr #[h,m,z]) (Pr.mono (by lia:k+1+1<=k+1+1+1)) UB
  have C5:=yt T XC KT (by lia) Un
  have C4:=fb T XC KT (by lia) (sn:=4) [01] (λz=>by cases z) [01] ah5 Du al5 kC.2.2.2.2 rfl C5
  have C3:=fb T XC KT (by lia) (sn:=3) [01] (λz=>by cases z) [01] ah4 Ed al4 kC.2.2.2.1 rfl C4
  have C2:=fb T XC KT (by lia) (sn:=2) [01] (λ_=>rfl) [01] ah7 EC al3 kC.2.2.1 rfl C3
  have C1:=fb T XC KT (by lia) (sn:=1) [01] (λz=>by cases z) [01] ah3 DS al2 kC.2.1 rfl C2
  have C0:=fb T XC KT (by lia) (sn:=0) [01] (λz=>by cases z) [01] alV abi al1 kC.1 rfl C1
  have Ex:=al0 T XC (by lia) (Ch.mono (by lia)) C0;exact#[Ex.mono (by lia),Un.mono (by lia)]
end OS
namespace OS
open Vbemac
section
variable {K:Known}
theorem AC (h:HB t "let"=FM):stmt (k+1) d K B t=(next>>=λ_=>newName K>>=λx=>sign "=">>=λ_=>expr k DEEP K>>=λe=>sign ";">>=λ_=>pure (.bind x e,K.with x,B):P (Stmt×Known×Blocks)) t:=by
 rw[stmt];show(if HB t "let"=FM then _ else _)=_
 rw[E7 h]
theorem BZ (h1:HB t "let"=FS) (h:HB t "for"=FM):stmt (k+1) d K B t=(deeper d>>=λn=>next>>=λ_=>newName K>>=λx=>key "in">>=λ_=>expr k DEEP K>>=λlo=>sign "..">>=λ_=>expr k DEEP K>>=λhi=>
  sign "{">>=λ_=>stmts k n (K.with x) B>>=λl=>pure (.loop x lo hi l.1,K,l.2):P (Stmt×Known×Blocks)) t:=by
 rw[stmt];show(if HB t "let"=FM then _ else if HB t "for"=FM then _ else _)=_
 rw[E5 (by rw[h1];exact EZ),E7 h]
def kZ (k n:Fm) (K:Known) (c:Exp) (a:Stmts×Blocks):P (Stmt×Known×Blocks):=ifKey "else">>=λm=>(if m=FM then(sign "{">>=λ_=>stmts k n K a.2>>=λb=>pure (.cond c a.1 b.1,K,b.2)) else pure (.cond c a.1 .nil,K,a.2))
theorem Eo (h1:HB t "let"=FS) (h2:HB t "for"=FS) (h:HB t "if"=FM):stmt (k+1) d K B t=(deeper d>>=λn=>next>>=λ_=>expr k DEEP K>>=λc=>sign "{">>=λ_=>stmts k n K B>>=λa=>kZ k n K c a:P (Stmt×Known×Blocks)) t:=by
 rw[stmt];show(if HB t "let"=FM then _ else if HB t "for"=FM then _ else if HB t "if"=FM then _ else _)=_
 rw[E5 (by rw[h1];exact EZ),E5 (by rw[h2];exact EZ),E7 h]
 rfl
def kH (m:Fd F7) (B:Blocks):Blocks:=match m with
 |some w=>w::B
 |none=>B
theorem ur (h1:HB t "let"=FS) (h2:HB t "for"=FS) (h3:HB t "if"=FS) (h:HB t "block"=FM):stmt (k+1) d K B t=(next>>=λ_=>maybeName B>>=λm=>side>>=λXm=>key "zone">>=λ_=>expr k DEEP K>>=λz=>
  key "price">>=λ_=>expr k DEEP K>>=λp=>key "amount">>=λ_=>newName K>>=λx=>sign ":">>=λ_=>expr k DEEP (K.with x)>>=λq=>behind "under" (knownBlock B)>>=λu=>behind "group" (expr k DEEP K)>>=λg=>sign ";">>=λ_=>
  pure (.block m Xm z p x q u g,K,kH m B):P (Stmt×Known×Blocks)) t:=by
 rw[stmt];show(if HB t "let"=FM then _ else if HB t "for"=FM then _ else if HB t "if"=FM then _ else if HB t "block"=FM then _ else _)=_
 rw[E5 (by rw[h1];exact EZ),E5 (by rw[h2];exact EZ),E5 (by rw[h3];exact EZ),E7 h]
 rfl
theorem ze (h1:HB t "let"=FS) (h2:HB t "for"=FS) (h3:HB t "if"=FS) (h4:HB t "block"=FS):stmt (k+1) d K B t=(side>>=λXm=>key "zone">>=λ_=>expr k DEEP K>>=λz=>
  key "quarter">>=λ_=>expr k DEEP K>>=λq=>key "price">>=λ_=>expr k DEEP K>>=λp=>behind "to" (expr k DEEP K)>>=λtop=>key "amount">>=λ_=>expr k DEEP K>>=λa=>sign ";">>=λ_=>
  pure (.step Xm z q p top a,K,B):P (Stmt×Known×Blocks)) t:=by
 rw[stmt];show(if HB t "let"=FM then _ else if HB t "for"=FM then _ else if HB t "if"=FM then _ else if HB t "block"=FM then _ else _)=_
 rw[E5 (by rw[h1];exact EZ),E5 (by rw[h2];exact EZ),E5 (by rw[h3];exact EZ),E5 (by rw[h4];exact EZ)]
theorem zg (h:LP t "}"=FM):stmts (k+1) d K B t= .ok ((.nil,B),t.drop 1):=by
 rw[stmts];show(if LP t "}"=FM then _ else _)=_
 rw[E7 h]
theorem A6 (h:LP t "}"=FS):stmts (k+1) d K B t=(stmt k d K B>>=λs=>stmts k d s.2.1 s.2.2>>=λl=>pure (.cons s.1 l.1,l.2):P (Stmts×Blocks)) t:=by
 rw[stmts];show(if LP t "}"=FM then _ else _)=_
 rw[E5 (by rw[h];exact EZ)]
end
section
variable {K:Known}
theorem xS (h:n≠0):params (k+1) n K t=(newName K>>=λx=>ifSign ",">>=λm=>(if m=FM then(params k (n-1) (K.with x)>>=λl=>pure (x::l)) else(sign ")">>=λ_=>pure [x])):P (EV F7)) t:=by
 rw[params];show(if n=0 then _ else _)=_
 rw[E5 h]
theorem uW (h:n=0):params (k+1) n K t=fail 7 t:=by
 rw[params];show(if n=0 then _ else _)=_
 rw[E7 h]
theorem Ct (h:peek t= .eof):tops (k+1) K n D t= .ok ([],t):=by
 rw[tops];show(if peek t= .eof then _ else _)=_
 rw[E7 h]
theorem vg (h0:peek t≠ .eof) (h:HB t "const"=FM):tops (k+1) K n D t=(next>>=λ_=>newName K>>=λx=>sign "=">>=λ_=>expr k DEEP K>>=λe=>sign ";">>=λ_=>tops k (K.with x) n D>>=λl=>pure (.const x e::l):P Sheet) t:=by
 rw[tops];show(if peek t= .eof then _ else if HB t "const"=FM then _ else _)=_
 rw[E5 h0,E7 h]
theorem BL (h0:peek t≠ .eof) (h1:HB t "const"=FS) (h:HB t "fun"=FM) (hn:n≠0):tops (k+1) K n D t=(next>>=λ_=>newName K>>=λx=>sign "(">>=λ_=>ifSign ")">>=λnone_=>
  (if none_=FM then give [] else params k PARAMS (K.with x))>>=λps=>sign "=">>=λ_=>expr k DEEP { K with values:=ps++K.values } >>=λe=>sign ";">>=λ_=>tops k { K with funs:=(x,ps.length)::K.funs } (n-1) D>>=λl=>pure (.func x ps e::l):P Sheet) t:=by
 rw[tops];show(if peek t= .eof then _ else if HB t "const"=FM then _ else if HB t "fun"=FM then(if n=0 then _ else _) else _)=_
 rw[E5 h0,E5 (by rw[h1];exact EZ),E7 h,E5 hn]
theorem yH (h0:peek t≠ .eof) (h1:HB t "const"=FS) (h:HB t "fun"=FM) (hn:n=0):tops (k+1) K n D t=fail 7 t:=by
 rw[tops];show(if peek t= .eof then _ else if HB t "const"=FM then _ else if HB t "fun"=FM then(if n=0 then _ else _) else _)=_
 rw[E5 h0,E5 (by rw[h1];exact EZ),E7 h,E7 hn]
def eM (D:EV F7):P F7:=λu=>match anyName u with
 | .error e=> .error e
 | .ok (w,r)=>if D.contains w=FM then fail 4 u else .ok (w,r)
theorem ye (h0:peek t≠ .eof) (h1:HB t "const"=FS) (h2:HB t "fun"=FS) (h:HB t "desk"=FM):tops (k+1) K n D t=(next>>=λ_=>eM D>>=λx=>sign "{">>=λ_=>stmts k NEST K []>>=λl=>tops k K n (x::D)>>=λr=>pure (.desk x l.1::r):P Sheet) t:=by
 rw[tops];show(if peek t= .eof then _ else if HB t "const"=FM then _ else if HB t "fun"=FM then _ else if HB t "desk"=FM then _ else _)=_
 rw[E5 h0,E5 (by rw[h1];exact EZ),E5 (by rw[h2];exact EZ),E7 h]
 rfl
theorem zn (h0:peek t≠ .eof) (h1:HB t "const"=FS) (h2:HB t "fun"=FS) (h:HB t "desk"=FS):tops (k+1) K n D t=fail 2 t:=by
 rw[tops];show(if peek t= .eof then _ else if HB t "const"=FM then _ else if HB t "fun"=FM then _ else if HB t "desk"=FM then _ else _)=_
 rw[E5 h0,E5 (by rw[h1];exact EZ),E5 (by rw[h2];exact EZ),E5 (by rw[h];exact EZ)]
theorem l0 (D:EV F7):aK (eM D):=λt e=>by unfold eM;rw[eE t e]
end
end OS
namespace OS
open Vbemac
def lO:Stmt->Fd F7
 | .bind x _=>Fa x
 |_=>FB
def D5 (K:Known) (s:Stmt) (K':Known):Prop:=match lO s with
 |some x=>K'=K.with x/\K.taken x=FS
 |none=>K'=K
def jC (ss:EV Stmt):EV F7:=ss.filterMap lO
def BN:EV Stmt->Stmts->Stmts
 |[],l=>l
 |s::r,l=> .cons s (BN r l)
theorem rR:BN (ss++[x]) l=BN ss (.cons x l):=by
 induction ss with
 |nil=>rfl
 |cons y r ih=>show Stmts.cons y (BN (r++[x]) l)=_;rw[ih];rfl
structure gU (K:Known) (ss:EV Stmt) (K':Known):Prop where
 funs:K'.funs=K.funs
 vals:K'.values=(jC ss).reverse++K.values
 nodup:(jC ss).Nodup
 free: ∀x∈jC ss,x∉K.values
theorem gU.nil {K:Known} :gU K [] K:=#[Gc,Gc,MK,λ_ z=>nomatch z]
theorem gU.snoc {K K1 K2:Known}(h:gU K ss K1) (h2:D5 K1 s K2):gU K (ss++[s]) K2:=by
 unfold D5 at h2;cases e:lO s with
 |none=>
  rw[e] at h2;have h2:K2=K1:=h2;have:jC (ss++[s])=jC ss:=by unfold jC;rw[Tg];simp [e]
  rw[h2];exact#[h.funs,by rw[this];exact h.vals,by rw[this];exact h.nodup,by rw[this];exact h.free]
 |some x=>
  rw[e] at h2;obtain⟨rfl,ht⟩:=h2;have:jC (ss++[s])=jC ss++[x]:=by unfold jC;rw[Tg];simp [e]
  unfold Known.taken at ht;rw[LZ] at ht;have nc:x∉K1.values:=λz=>by rw[F8.mpr z] at ht;cases ht.1
  rw[h.vals] at nc;refine#[h.funs,?_,?_,?_]
  ·rw[this]
   show x::K1.values=_
   rw[h.vals,UE]
   rfl
  ·rw[this,Ld]
   refine#[h.nodup,F6.mpr #[Hs,MK],λa ha b hb=>?_];rw[Fz.mp hb];intro z;exact nc (FK.mpr (.inl (JL.mpr (by rw[<-z];exact ha))))
  ·rw[this]
   intro y hy z;rcases FK.mp hy with hy|hy
   ·exact h.free y hy z
   ·rw[Fz.mp hy] at z
    exact nc (FK.mpr (.inr z))
end OS
namespace OS
open Vbemac
abbrev g9:=Top×Known×Fm×EV F7
def abj (k:Fm) (K:Known) (n:Fm) (D:EV F7):P g9:=newName K>>=λx=>sign "(">>=λ_=>ifSign ")">>=λnone_=>(if none_=FM then give [] else params k PARAMS (K.with x))>>=λps=>sign "=">>=λ_=>
 expr k DEEP { K with values:=ps++K.values } >>=λe=>sign ";">>=λ_=>pure (.func x ps e,{ K with funs:=(x,ps.length)::K.funs },n-1,D)
def vz (k:Fm) (K:Known) (n:Fm) (D:EV F7):P g9:=newName K>>=λx=>sign "=">>=λ_=>expr k DEEP K>>=λe=>sign ";">>=λ_=>pure (.const x e,K.with x,n,D)
def BX (k:Fm) (K:Known) (n:Fm) (D:EV F7):P g9:=eM D>>=λx=>sign "{">>=λ_=>stmts k NEST K []>>=λl=>pure (.desk x l.1,K,n,x::D)
def ik (k:Fm) (K:Known) (n:Fm) (D:EV F7):P g9:=λt=>
 if HB t "const"=FM then(next>>=λ_=>vz k K n D:P g9) t
 else if HB t "fun"=FM then(if n=0 then fail 7 t else(next>>=λ_=>abj k K n D:P g9) t)
 else if HB t "desk"=FM then(next>>=λ_=>BX k K n D:P g9) t
 else fail 2 t
theorem lN (k:Fm) (K:Known) (n:Fm) (D:EV F7):aK (ik k K n D):=λt e=>by
 unfold ik;rw[cq e,cq e,cq e,E5 EZ,E5 EZ,E5 EZ];exact aG 2 t e
end OS
namespace OS
open PySem PySem.Spec L2
open PyProof.Rows hiding St
variable {P:FW}{w:Gx}{K:E1}{mg:FD->Fd E3}{base:GI}{a:bf}
theorem aih:d7 "=" (EY "="):=[008]
theorem Az:d7 ";" (EY ";"):=[008]
theorem aii:d7 "{" (EY "{"):=[008]
theorem YH:d7 "}" (EY "}"):=[008]
theorem vX:cX "sell" (EY "sell"):=[007]
theorem AJ:cX "buy" (EY "buy"):=[007]
theorem pT:cX "amount" (EY "amount"):=[007]
def dO (f:Fm) (Kn:E6):Fe Fc:=FX "=">>=λ_=>FE f Hl Kn>>=λe=>FX ";">>=λ_=>pure e
def du (s:String) (f:Fm) (Kn:E6):Fe Fc:=Hc s>>=λ_=>FE f Hl Kn
def i5 (f:Fm) (Kn:E6):Fe (EW×Fc):=Hc "amount">>=λ_=>Gz Kn>>=λx=>FX ":">>=λ_=>FE f Hl (Kn.with x)>>=λe=>pure (x,e)
def Eg {α β:Type}(Z:Zf β) (g:α->Fe β):Prop:= ∀e r,Fp r= .bad->W (g e) r Z.Ro (QE Z.a Z.B Z.H0 Z.E)->QE Z.a Z.B Z.H0 Z.E 1 (HZ r)
theorem Do {α β:Type}{Z:Zf β}{g:α->Fe β}(h: ∀e,aK (g e)):Eg Z g:=λe _ nb w=>(h e).Lw nb w
theorem abk {α β:Type}{Z:Zf β}{p:Fe α}{g:α->Fe β}{t:E2}(h:Eg Z g) (hr:h8 p) (b:Fp t= .bad) (w:W (p>>=g) t Z.Ro (QE Z.a Z.B Z.H0 Z.E)):QE Z.a Z.B Z.H0 Z.E 1 (HZ t):=by
 rw[jE] at w;rcases hr t b with e|⟨x,e⟩
 ·rw[i9 e] at w;exact w
 ·rw[yI e] at w;exact h x t b w
inductive gv {α:Type}(a:bf) (args:EV V) (p:Fm->E6->Fe α) (c:Fm) (en bt:Gg) (mk:α->Fk) (vs:EV V) (H:Hp) (Q:VK) (E:XK):Prop
 |mk {β:Type}(B:Rb) (L:Fm) (H0:Hp) (Ro:β->E2->Prop) (F:EV (Fk×V)) (b:Gg) (t:E2) (Kn:E6) (f:Fm) (g:α->Fe β) (_:vs= .ref B.r::args) (_:16*t.length+c<=f) (_:en=FM->Eg ⟨a,E,B,L,H0,Ro⟩ g) (_:RS ⟨a,E,B,L,H0,Ro⟩ F b H t Kn (p f Kn>>=g))
  (_: ∀x v H' t',RS #[a,E,B,L,H0,Ro] ((mk x,v)::F) (b||bt) H' t' Kn (g x)->Q v H'):gv a args p c en bt mk vs H Q E
inductive Ea {α:Type}(a:bf) (pp:Rb->Fe α->Prop) (val:α->V) (vs:EV V) (H:Hp) (Q:VK) (E:XK):Prop
 |mk {β:Type}(B:Rb) (L:Fm) (H0:Hp) (Ro:β->E2->Prop) (F:EV (Fk×V)) (b:Gg) (t:E2) (Kn:E6) (p:Fe α) (g:α->Fe β) (_:vs=[.ref B.r]) (_:pp B p) (_:RS ⟨a,E,B,L,H0,Ro⟩ F b H t Kn (p>>=g))
  (_: ∀x H' t',RS #[a,E,B,L,H0,Ro] F FM H' t' Kn (g x)->Q (val x) H'):Ea a pp val vs H Q E
section
variable {β:Type}{Z:Zf β}{H:Hp}{p:Fe β}
theorem RS.room (R:RS Z F b H t Kn p):Kn.values.length+t.length<=4000:=by
 rw[00];exact S.kn.len
theorem RS.lL (R:RS Z F b H t Kn p):t.length<=Z.L:=FA (JN _ _) R.l
theorem RS.or {c:Gg}(R:RS Z F FM H t Kn p):RS Z F (c||true) H t Kn p:=by rw[P0];exact R
theorem RS.cut (n:Fm) (R:RS Z F b H t Kn p):RS Z (F.drop n) b H t Kn p:=#[R.S,R.k,λ{i x} e=>R.f (i:=n+i) (by rw[<-EV.getElem?_drop];exact e),R.l,R.w]
theorem RS.asf {α:Type}{q q':Fe α}{g:α->Fe β}(R:RS Z F b H t Kn (q>>=g)) (e:q t=q' t):RS Z F b H t Kn (q'>>=g):=R.as (aS e)
end
section
variable {k:Fm}{x GU:FD}{st:Stmt}{f:E4}{fd:Gb}{N ps:EV FD}{α:Type}{args:EV V}{p:Fm->E6->Fe α}{c:Fm}{en bt:Gg}{mk:α->Fk}{val:α->V}{pp:Rb->Fe α->Prop}
theorem DZ (T:aU K mg a) (XC:XT K a) (hk:8<=k) (F:oU K x GU st f fd) (S:az N ("reader"::ps) (af st)) (hl:args.length=ps.length)
  (Jv: ∀(GF:E3) (A:GG) (outer:EV Env) (s:E8) (H:Hp) {β:Type}(B:Rb) (L:Fm) (H0:Hp) (Ro:β->E2->Prop) (F:EV (Fk×V)) (b:Gg) (t:E2) (Kn:E6) (fu:Fm) (g:α->Fe β) (Q:VK) (E:XK),bX k (A.deeper (Jz GU (af st) s.heap.objs.size f GF))->16*t.length+c<=fu->
   let X:=e8 (fY P w) P w K mg base N GU (af st) f GF A outer s H E
   let D:d8:= { nx:=λ_ H'=>Q .Iw H',rt:=Q }
   let Z:Zf β:=#[a,E,B,L,H0,Ro]
   (en=FM->Eg Z g)->RX X a E->RS Z F b H t Kn (p fu Kn>>=g)->(∀x v H' t',RS Z ((mk x,v)::F) (b||bt) H' t' Kn (g x)->Q v H')->Bd X (be st) D (L2.start N (.ref B.r::args)) H):bU P w K mg base (fY P w) (k+1) f fd ("reader"::ps) (gv a args p c en bt mk):=by
 refine fQ F S (λvs H Q E h=>?_) [02]
 ·obtain⟨B,L,H0,Ro,F,b,t,Kn,fu,g,rfl,_⟩:=h
  exact Ga Rv hl
 ·obtain⟨B,L,H0,Ro,F,b,t,Kn,fu,g,rfl,h1,h2,R,q⟩:=h
  exact Jv GF A outer s H B L H0 Ro F b t Kn fu g Q E hr h1 h2 (jU T XC hk S hr) R q
theorem aij (T:aU K mg a) (XC:XT K a) (hk:8<=k) (F:oU K x GU st f fd) (S:az N ["reader"] (af st))
  (Jv: ∀(GF:E3) (A:GG) (outer:EV Env) (s:E8) (H:Hp) {β:Type}(B:Rb) (L:Fm) (H0:Hp) (Ro:β->E2->Prop) (F:EV (Fk×V)) (b:Gg) (t:E2) (Kn:E6) (p:Fe α) (g:α->Fe β) (Q:VK) (E:XK),bX k (A.deeper (Jz GU (af st) s.heap.objs.size f GF))->pp B p->
   let X:=e8 (fY P w) P w K mg base N GU (af st) f GF A outer s H E
   let D:d8:= { nx:=λ_ H'=>Q .Iw H',rt:=Q }
   let Z:Zf β:=#[a,E,B,L,H0,Ro]
   RX X a E->RS Z F b H t Kn (p>>=g)->(∀x H' t',RS Z F FM H' t' Kn (g x)->Q (val x) H')->Bd X (be st) D (L2.start N [.ref B.r]) H):bU P w K mg base (fY P w) (k+1) f fd ["reader"] (Ea a pp val):=by
 refine fQ F S [03] [02];obtain⟨B,L,H0,Ro,F,b,t,Kn,p,g,rfl,h1,R,q⟩:=h;exact Jv GF A outer s H B L H0 Ro F b t Kn p g Q E hr h1 (jU T XC hk S hr) R q
end
section
variable {β:Type}{Z:Zf β}{H:Hp}{E:XK}{Q:VK}{sp:Sp}{p:Fe β}
theorem e7 (Y:RX X a E) (c:CB X x ["reader"] sp) (q:sp [.ref B] H Q E) (hx:(x == [003])=FS:=by decide):Pe X (.Call (.Name x p1) [.Name "reader" p2] [] p4) (Fa (.ref B)::σ) H Q:=by
 obtain⟨G,hr,d,hg⟩:=c;exact#[_,aJ G hr hg d Y.up (aa Y.rd ag) hx,q]
theorem wL (Y:RX X a E) (c:CB X x ["reader","word"] sp) (q:sp [.ref B, .str v] H Q E) (hx:(x == [003])=FS:=by decide):Pe X (.Call (.Name x p1) [.Name "reader" p2, .Constant (.str v) j p3] [] p4) (Fa (.ref B)::σ) H Q:=by
 obtain⟨G,hr,d,hg⟩:=c;exact#[_,aJ G hr hg d Y.up (aa Y.rd (aa dJ ag)) hx,q]
end
abbrev oM (P:FW) (w:Gx) (K:E1) (mg:FD->Fd E3) (base:GI) (a:bf) (k:Fm):Prop:=bU P w K mg base (fY P w) k a.f_d a.ael ["reader","depth"] (aX a FM FE 12 (Lv 13))
theorem yK {Kn:E6}{t:E2} :Lv 13 0 Kn t:=by show 13<=0+13;decide
theorem aik (T:aU K mg a) (XC:XT K a) (hk:8<=k) (G:oM P w K mg base a k):
  T.XI.O P w base (k+1) (gv a [] dO 12 FS FM .e):=by
 refine DZ T XC hk T.XI.F alg rfl λGF A outer s H β B L H0 Ro F b t Kn fu g Q E hr hf=>?_;intro X D Z _ Y R q;have c:CB X "read_exp" ["reader","depth"] (aX a FM FE 12 (Lv 13)):=#[G,hr,T.Sn.c,Gc];have lL:=R.lL;have hF:16*(Z.at t.length).L+12<=fu+16:=FA hf (JN _ _);have R:RS (Z.at t.length) F FS H t Kn (FX "=">>=λ_=>FE fu Hl Kn>>=λe=>FX ";">>=λ_=>g e):=by
  have:=R.at;simp only[dO,bind_assoc,pure_bind] at this;exact this
 refine cE (Z:=Z.at t.length) Y aih R λH t R=>?_;refine eI (Z:=Z.at _) (d:=0) 1 Y c ak [05] R (oB λx=>(bi ";").bind) (FI _) yK hF λe v H t R=>?_;refine cE (Z:=Z.at _) Y Az R λH t R=>?_;exact aL (bC 1 (q e v H t (R.back lL).or))
theorem abl {v:FD}{s:String}(lit:cX v (EY s)) (T:aU K mg a) (XC:XT K a) (hk:8<=k) (G:oM P w K mg base a k):
  T.W5.O P w base (k+1) (gv a [.str v] (du s) 12 FM FM .e):=by
 refine DZ T XC hk T.W5.F ali rfl λGF A outer s0 H β B L H0 Ro F b t Kn fu g Q E hr hf=>?_;intro X D Z en Y R q;have lL:=R.lL;have R:RS (Z.at t.length) F FS H t Kn (Hc s>>=λ_=>FE fu Hl Kn>>=g):=by
  have:=R.at;simp only[du,bind_assoc] at this;exact this
 refine wd (Z:=Z.at t.length) Y R (pv 1) [05] (λr _ ok=>lit.p r ok) λH t1 R=>?_;have l1:t1.length+1<=t.length:=R.l;exact aL #[_,Y.call2 #[G,hr,T.Sn.c,Gc] ak [01] rfl,RS.call (Z:=Z.at _) (d:=0) R (en rfl) (FI _) yK (by lia) λe v H t _ R=>q e v H t (R.back lL).or]
theorem pJ {α:Type}{s:String}{p:Fe α}{t:E2}(h:Ff t s=FM):G9 s p t=(Hc s>>=λ_=>p>>=λx=>pure (Fa x):Fe (Fd α)) t:=by
 unfold G9;rw[E7 h];have e:(Hc s>>=λ_=>p>>=λx=>pure (Fa x):Fe (Fd α)) t=(p>>=λx=>pure (Fa x):Fe (Fd α)) (t.drop 1):=by
  show(FF (Hc s) _) t=_
  unfold FF Hc;rw[E7 h]
  rfl
 rw[e];show _=(FF p _) (t.drop 1);unfold FF;cases p (t.drop 1) with
 |error e=>rfl
 |ok z=>rfl
theorem m9 {α:Type}{s:String}{p:Fe α}{t:E2}(h:Ff t s=FS):G9 s p t= .ok (FB,t):=by
 unfold G9;rw[E5 (by rw[h];exact EZ)]
theorem ail {v:FD}{s:String}(lit:cX v (EY s)) (T:aU K mg a) (XC:XT K a) (hk:8<=k)
  (G:T.W5.O P w base k (gv a [.str v] (du s) 12 FM FM .e)):
  T.d_A.O P w base (k+1) (gv a [.str v] (λf Kn=>G9 s (FE f Hl Kn)) 12 FM FS .o):=by
 refine DZ T XC hk T.d_A.F alj rfl λGF A outer s0 H β B L H0 Ro F b t Kn fu g Q E hr hf=>?_;intro X D Z en Y R q;have en:=en rfl;refine bH (jk (dv (mn Y R (pv 1) [05] (λbd=>abk en (f9 s _) bd R.w) λnb=>#[_,Gc,?_])));rw[b4 R.tok lit];cases hk':(Fp t == Hj (EY s)) with
 |false=>
  refine cc (aL (mY (q FB .Iw H t (RS.and ?_ rfl))));rw[OX];exact R.as (bJ (m9 hk'))
 |true=>
  have R:RS Z F b H t Kn (du s fu Kn>>=λx=>g (Fa x)):=by
   have:=R.asf (pJ hk');simp only[du,bind_assoc,pure_bind] at this ⊢;exact this
  refine bN (aL #[_,aJ G hr (by rfl) T.W5.c Y.up (aa Y.rd (aa (pv 1) ag)),Z.B,Z.L,Z.H0,Z.Ro,F,b,t,Kn,fu,_,Gc,hf,λ_ x r b w=>en (Fa x) r b w,R,λx v H' t' R=>q (Fa x) v H' t' ?_]);obtain⟨S,k,f,l,w⟩:=R;refine#[S,k,λ{i y} e=>?_,FA (Mu (by cases b<;>decide) _) l,w];cases i with
  |zero=>cases e;exact f (i:=0) (x:=(.e x,v)) rfl
  |succ i=>exact f (i:=i+1) e
inductive xj (a:bf) (vs:EV V) (H:Hp) (Q:VK) (E:XK):Prop
 |mk (r q kd fn ds bl:E4) (n:Fm) (x:Gs×Gh) (t:E2) (d:Fm) (_:vs=[.ref r, .int d]) (_:nB a H r q kd fn ds bl n (x::t)) (_:(d=6->oF a.HA E H (if x.1= .bad then 1 else 6) x.2)) (_:(d≠6->Q (.int ((d+1:Fm):Int)) H)):xj a vs H Q E
def Bk (bl:Yv) (B:HJ):Prop:= ∀u,has bl.c u=B.contains u
theorem aim (T:aU K mg a) (XC:XT K a):T.ZT.O P w base 6 (xj a):=by
 have U1:=fJ (P:=P) (w:=w) (base:=base) T XC;refine fQ T.ZT.F ag8 [03] [02];obtain⟨r,q,kd,fn,ds,bl,n,x,t,d,rfl,R,hf,hg⟩:=h;obtain⟨dr,er⟩:=R.ins;refine#[_,(ax (cx (a9 b8 (pv 1) (aR (by rfl) T.Q5) (aM _)) (ai (bh (cy (pv 0) T.FV T.VS.c U1 (hr.mono (by lia)) aA (aa (aR (by rfl) T.QI) ag)))) br)
   (ai (aI (bW dP (pv 1) ak)))),?_]
 refine#[Gc,_,Gc,?_];rw[cj];refine aP (λe=>?_) λe=>?_
 ·have:=FN e
  exact#[r,dr,_,Gc,er,Gc,r,q,kd,fn,ds,bl,n,x,t,6,Gc,R,hf (by lia)]
 ·have:=FR e
  exact#[_,_,Gc,Gc,hg (by lia)]
section
variable {β:Type}{Z:Zf β}{H:Hp}
theorem sI (i:Fm) {g:Fm->Fe β}(Y:RX X Z.a Z.E) (hd:d<=6) (nb:Fp t≠ .bad) (R:RS Z F b H t Kn (Hh (6-d)>>=g)) (q:d<6->RS Z F b H t Kn (g (6-(d+1)))->Bd X ss D ((Fa (.ref Z.B.r)::Fa (.int d)::σ).set i (Fa (.int ((d+1:Fm):Int)))) H)
  (h:Sl X i y:=by exact#[Gc,GO rfl,Gc]) (h1:X.N[1]?=Fa ("depth":FD):=by rfl) (v1:oS X.env.scope "depth":=by exact GO rfl) (hg:Gl X "deeper_braces":=by rfl):
  Bd X (.Assign [.Name y p0] (.Call (.Name "deeper_braces" p1) [.Name "reader" p2, .Name "depth" p3] [] p4) p5::ss) D (Fa (.ref Z.B.r)::Fa (.int d)::σ) H:=by
 rw[00];obtain⟨⟨x,xp⟩,t',rfl,tok,QN,MJ,_⟩:=S.wh.first;have hW:=R.w;rw[jE] at hW;have nx:x≠ .bad:=nb;refine aN i Y.nd (h:=h) #[_,Y.call2 #[aim Y.T Y.C,Y.hr.mono [01],Y.T.ZT.c,hg] (dR h1 v1) [01] rfl,Z.B.r,Z.B.q,Z.B.kd,Z.B.fn,Z.B.ds,Z.B.bl,n,(x,xp),t',d,Gc,S.rd,λe=>?_,λe=>?_]
 ·rw[E5 nx]
  exact fF (p:=Hh (6-d)) (n:=6) (by unfold Hh;rw[E7 (by lia)]) nb hW H R.k
 ·have ed:Hh (6-d) ((x,xp)::t')= .ok (6-(d+1),(x,xp)::t'):=by unfold Hh;rw[E5 (by lia),show 6-d-1=6-(d+1) by lia]
  rw[yI ed] at hW;exact q (by lia) #[R.S,R.k,R.f,R.l,hW]
theorem abm {p:Fe β}{C:Gg->Hp->Prop}(Y:RX X Z.a Z.E) (R:RS Z F b H ((.word u,xp)::t) Kn p) (hB:Bk Z.B.bl Bs) (q:C (!Bs.contains u) H) (hp:ip p2 p4:=by rfl):
  Pt X (.Compare (.Attribute (.Call (.Attribute [005] "current" p2) [] [] p4) "value" p5) [.NotIn] [.Attribute (.Name "reader" p6) "blocks" p7] p3) (Fa (.ref Z.B.r)::σ) H C:=by
 rw[00];obtain⟨dr,er⟩:=S.rd.ins;refine#[_,fD (iV (dn Y.hr) dq (ah Y.rd rfl)),vr Y R (λb=>nomatch b) (λ_=>#[Z.B.r,_,dr,_,_,Gc,er,Y.T.FV,Y.T.JF,Gc,Z.B.bl.p,_,Gc,gy.k (k:=nk u) S.R8,_,Gc,?_]) hp]
 have:=hB u;unfold has at this;rw[this];exact q
end
theorem yE {t:E2}(h:(x.1 == .word (EY "sell"))=FM):IC (x::t)= .ok (FS,t):=by
 unfold IC;rw[E7 (show Ff (x::t) "sell"=FM from h)]
 rfl
theorem Bi {t:E2}(h0:(x.1 == .word (EY "sell"))=FS) (h:(x.1 == .word (EY "buy"))=FM):IC (x::t)= .ok (FM,t):=by
 unfold IC;rw[E5 (by rw[show Ff (x::t) "sell"=FS from h0];exact EZ),E7 (show Ff (x::t) "buy"=FM from h)]
 rfl
theorem ww {t:E2}(h0:(Fp t == .word (EY "sell"))=FS) (h:(Fp t == .word (EY "buy"))=FS):IC t=Fx 2 t:=by
 unfold IC;rw[E5 (by rw[show Ff t "sell"=FS from h0];exact EZ),E5 (by rw[show Ff t "buy"=FS from h];exact EZ)]
theorem ain (T:aU K mg a) (XC:XT K a):T.ZU.O P w base 9 (Ea a (λ_ p=>p=IC) ku):=by
 refine aij T XC (Fq _) T.ZU.F ahb λGF A outer s0 H β B L H0 Ro F b t Kn p g Q E hr hp=>?_;intro X D Z Y R q;subst hp;obtain⟨⟨x,xp⟩,r,rfl⟩:=R.cons;have v1:lZ "sell" (Fp ((x,xp)::r))=(x == .word (EY "sell")):=b4 R.tok vX;have v2:lZ "buy" (Fp ((x,xp)::r))=(x == .word (EY "buy")):=b4 R.tok AJ;refine bH (Ai (jk (dv (iT Y R lM.bind λnb=>#[_,Gc,?_]))));rw[v1];cases e1:(x == Hj (EY "sell")) with
 |true=>
  obtain rfl:=beq_iff_eq.mp e1;refine bN (bN (aL (iq Y (R.as (p':=Gq>>=λ_=>g FS) (bJ (yE e1))) YD λH R=>?_)));show Q (.str (sb (EY "sell"))) H;rw[<-vX.1];exact q FS H r R
 |false=>
  refine cc (jk (dv (iY Y R nb #[_,Gc,?_])));rw[v2];cases e2:(x == Hj (EY "buy")) with
  |true=>
   obtain rfl:=beq_iff_eq.mp e2;refine bN (aL (iq Y (R.as (p':=Gq>>=λ_=>g FM) (bJ (Bi e1 e2))) YD λH R=>?_));show Q (.str (sb (EY "buy"))) H;rw[<-AJ.1];exact q FM H r R
  |false=>exact cc (bE (qU Y (aR (by rfl) T.OK) R nb ((aS (ww (t:=(x,xp)::r) e1 e2)).trans rfl)))
theorem aio (T:aU K mg a) (XC:XT K a) (hk:8<=k) (G:oM P w K mg base a k):
  T.W6.O P w base (k+1) (gv a [] i5 12 FM FM .am):=by
 refine DZ T XC hk T.W6.F ahc rfl λGF A outer s0 H β B L H0 Ro F b t Kn fu g Q E hr hf=>?_;intro X D Z en Y R q;have lL:=R.lL;have hm:Kn.values.length+(Z.at t.length).L<=4000:=R.room;have R:RS (Z.at t.length) F FS H t Kn (Hc "amount">>=λ_=>Gz Kn>>=λx=>FX ":">>=λ_=>FE fu Hl (Kn.with x)>>=λe=>g (x,e)):=by
  have:=R.at;simp only[i5,bind_assoc,pure_bind] at this;exact this
 refine kN (Z:=Z.at t.length) Y pT R λH t1 R=>?_;refine i4 (Z:=Z.at t.length) 1 Y R λu H t2 ft R=>?_;refine cE (Z:=Z.at t.length) Y YC R λH t3 R=>?_;refine gH (Z:=Z.at t.length) Y (pv 1) [05] ft hm R λH R=>?_;refine eI (Z:=Z.at t.length) (d:=0) 2 Y #[G,hr,T.Sn.c,Gc] ak [05] R (λe r b w=>en rfl (u,e) r b w) (FI _) yK (by show 16*t.length+12<=fu+16;lia) λe v H t4 R=>?_;refine lA (Z:=Z.at t.length) Y (pv 1) [05] ft R λH R=>?_;refine gW (Z:=Z.at t.length) Y (uP T) (aa (pv 1) (aa (pv 2) ag)) [05] R rfl λw H i R=>?_;have R:=(RS.back (Z:=Z) lL R).or (c:=b);obtain⟨S,k,f,l,w'⟩:=R;have fe:=f (i:=0) rfl;refine q (u,e) w H t4 #[S,k,λ{j y} z=>?_,l,w'];cases j with
 |zero=>cases z;exact#[v,i,fe]
 |succ j=>exact f (i:=j+1) z
theorem lX {t:E2}(hk:Gp.contains u=FS):IZ B ((.word u,xp)::t)=if B.contains u=FM then .ok (u,t) else Fx 3 ((.word u,xp)::t):=by
 unfold IZ;rw[c9,E5 (by rw[hk];exact EZ)]
theorem mE {t:E2}(h:cP x.1=FS):Wl (x::t)=Fx 2 (x::t):=by
 obtain⟨x,xp⟩:=x;cases x with
 |word u=>
  have h:cP (.word u)=FS:=h;rw[dD] at h;rw[c9,E7 (by cases e:Gp.contains u;rw[e] at h;cases h;rfl)]
 |_=>rfl
theorem aip (T:aU K mg a) (XC:XT K a):T.ZV.O P w base 9 (Ea a (λB p=> ∃Bs,Bk B.bl Bs/\p=IZ Bs) λu=> .str (sb u)):=by
 refine aij T XC (Fq _) T.ZV.F ahd λGF A outer s0 H β B L H0 Ro F b t Kn p g Q E hr hp=>?_;intro X D Z Y R q;obtain⟨Bs,hB,rfl⟩:=hp;obtain⟨⟨x,xp⟩,r,rfl⟩:=R.cons;refine bE (p_g Y R (kj Bs).bind (λ_ e=>(aS (q:=Fx 2) ?_).trans rfl) λnb e=>?_)
 ·unfold IZ
  rw[mE e]
  rfl
 obtain⟨u,rfl,hu⟩:=gQ e;have ek:=lX (xp:=xp) (t:=r) (B:=Bs) hu;refine bH (abm Y R hB (aP (λh=>?_) λh=>?_))
 ·rw[Vy] at h
  rw[h,E5 EZ] at ek;exact bE (qU Y (aR (by rfl) T.Qg) R nb ((aS (q:=Fx 3) ek).trans rfl))
 ·rw[Pl] at h
  rw[h,E7 rfl] at ek;exact aL (iq Y (R.as (p':=Gq>>=λ_=>g u) (bJ ek)) YD λH R=>q u H r R)
theorem AH:cX "let" (EY "let"):=[007]
theorem wz:cX "zone" (EY "zone"):=[007]
theorem uS:cX "quarter" (EY "quarter"):=[007]
theorem sR:cX "price" (EY "price"):=[007]
theorem YI:cX "to" (EY "to"):=[007]
theorem rM:cX "block" (EY "block"):=[007]
theorem r6:cX "under" (EY "under"):=[007]
theorem rJ:cX "group" (EY "group"):=[007]
abbrev Yv.at_ (bl:Yv) (c:EV (a8×V)):Yv:=#[bl.p,c,bl.x]
abbrev Rb.bk (B:Rb) (c:EV (a8×V)):Rb:= { B with bl:=B.bl.at_ c }
abbrev An:=GR×E6×HJ
inductive nU (a:bf) (av:Fm->EV V) (ok:Fm->E2->Prop) (vs:EV V) (H:Hp) (Q:VK) (E:XK):Prop
 |mk {β:Type}(B:Rb) (L:Fm) (H0:Hp) (Ro:β->E2->Prop) (F:EV (Fk×V)) (b:Gg) (t:E2) (Kn:E6) (Bs:HJ) (d f:Fm) (g:An->Fe β) (_:vs= .ref B.r::av d) (_:d<=6) (_:ok d t) (_:16*t.length+14<=f) (_:Bk B.bl Bs) (_:B.bl.c.length+t.length<=4000) (_:Eg ⟨a,E,B,L,H0,Ro⟩ g) (_:RS ⟨a,E,B,L,H0,Ro⟩ F b H t Kn (KW f (6-d) Kn Bs>>=g))
  (_: ∀s v H' t' c',D5 Kn s.1 s.2.1->Bk (B.bl.at_ c') s.2.2->c'.length+t'.length<=4000->RS #[a,E,B.bk c',L,H0,Ro] ((.st s.1,v)::F) FM H' t' s.2.1 (g s)->Q v H'):nU a av ok vs H Q E
section
variable {k:Fm}{x GU:FD}{st:Stmt}{f:E4}{fd:Gb}{N ps:EV FD}{av:Fm->EV V}{ok:Fm->E2->Prop}
theorem xK (T:aU K mg a) (XC:XT K a) (hk:8<=k) (F:oU K x GU st f fd) (S:az N ("reader"::ps) (af st)) (hl: ∀d,(av d).length=ps.length)
  (Jv: ∀(GF:E3) (A:GG) (outer:EV Env) (s:E8) (H:Hp) {β:Type}(B:Rb) (L:Fm) (H0:Hp) (Ro:β->E2->Prop) (F:EV (Fk×V)) (b:Gg) (t:E2) (Kn:E6) (Bs:HJ) (d fu:Fm) (g:An->Fe β) (Q:VK) (E:XK),bX k (A.deeper (Jz GU (af st) s.heap.objs.size f GF))->d<=6->ok d t->16*t.length+14<=fu->Bk B.bl Bs->B.bl.c.length+t.length<=4000->
   let X:=e8 (fY P w) P w K mg base N GU (af st) f GF A outer s H E
   let D:d8:= { nx:=λ_ H'=>Q .Iw H',rt:=Q }
   let Z:Zf β:=#[a,E,B,L,H0,Ro]
   Eg Z g->RX X a E->RS Z F b H t Kn (KW fu (6-d) Kn Bs>>=g)->(∀s v H' t' c',D5 Kn s.1 s.2.1->Bk (B.bl.at_ c') s.2.2->c'.length+t'.length<=4000->RS #[a,E,B.bk c',L,H0,Ro] ((.st s.1,v)::F) FM H' t' s.2.1 (g s)->Q v H')->Bd X (be st) D (L2.start N (.ref B.r::av d)) H):bU P w K mg base (fY P w) (k+1) f fd ("reader"::ps) (nU a av ok):=by
 refine fQ F S (λvs H Q E h=>?_) [02]
 ·obtain⟨B,L,H0,Ro,F,b,t,Kn,Bs,d,fu,g,rfl,_⟩:=h
  exact Ga Rv (hl d)
 ·obtain⟨B,L,H0,Ro,F,b,t,Kn,Bs,d,fu,g,rfl,h1,h2,h3,h4,h5,h6,R,q⟩:=h
  exact Jv GF A outer s H B L H0 Ro F b t Kn Bs d fu g Q E hr h1 h2 h3 h4 h5 h6 (jU T XC hk S hr) R q
end
section
variable {β:Type}{Z:Zf β}{H:Hp}
theorem iX (i:Fm) {g:Fc->Fe β}(Y:RX X Z.a Z.E) (c:CB X "read_part" ["reader","word"] (gv Z.a [.str v] (du s) 12 FM FM .e)) (R:RS Z F FM H t Kn (du s f Kn>>=g)) (hf:16*Z.L+12<=f+16) (en: ∀e,aK (g e)) (q: ∀e v H' t',RS Z ((.e e,v)::F) FM H' t' Kn (g e)->Bd X ss D ((Fa (.ref Z.B.r)::σ).set i (Fa v)) H')
  (h:Sl X i y:=by exact#[Gc,GO rfl,Gc]):Bd X (.Assign [.Name y p0] (.Call (.Name "read_part" p1) [.Name "reader" p2, .Constant (.str v) j p3] [] p4) p5::ss) D (Fa (.ref Z.B.r)::σ) H:=by
 have l:t.length+1<=Z.L:=R.l;exact aN i Y.nd (wL Y c #[Z.B,Z.L,Z.H0,Z.Ro,F,FM,t,Kn,f,g,Gc,by lia,λ_=>Do en,R,q]) h
theorem pE (i:Fm) {g:Fd Fc->Fe β}(Y:RX X Z.a Z.E) (c:CB X "read_part_if_there" ["reader","word"] (gv Z.a [.str v] (λf Kn=>G9 s (FE f Hl Kn)) 12 FM FS .o)) (R:RS Z F FM H t Kn (G9 s (FE f Hl Kn)>>=g)) (hf:16*Z.L+12<=f+16) (en: ∀e,aK (g e)) (q: ∀e v H' t',RS Z ((.o e,v)::F) FM H' t' Kn (g e)->Bd X ss D ((Fa (.ref Z.B.r)::σ).set i (Fa v)) H')
  (h:Sl X i y:=by exact#[Gc,GO rfl,Gc]):Bd X (.Assign [.Name y p0] (.Call (.Name "read_part_if_there" p1) [.Name "reader" p2, .Constant (.str v) j p3] [] p4) p5::ss) D (Fa (.ref Z.B.r)::σ) H:=by
 have l:t.length+1<=Z.L:=R.l;exact aN i Y.nd (wL Y c #[Z.B,Z.L,Z.H0,Z.Ro,F,FM,t,Kn,f,g,Gc,by lia,λ_=>Do en,R,q]) h
theorem my (i:Fm) {g:Fc->Fe β}(Y:RX X Z.a Z.E) (c:CB X "read_given" ["reader"] (gv Z.a [] dO 12 FS FM .e)) (R:RS Z F FM H t Kn (dO f Kn>>=g)) (hf:16*Z.L+12<=f+16) (q: ∀e v H' t',RS Z ((.e e,v)::F) FM H' t' Kn (g e)->Bd X ss D ((Fa (.ref Z.B.r)::σ).set i (Fa v)) H')
  (h:Sl X i y:=by exact#[Gc,GO rfl,Gc]):Bd X (.Assign [.Name y p0] (.Call (.Name "read_given" p1) [.Name "reader" p2] [] p4) p5::ss) D (Fa (.ref Z.B.r)::σ) H:=by
 have l:t.length+1<=Z.L:=R.l;exact aN i Y.nd (e7 Y c #[Z.B,Z.L,Z.H0,Z.Ro,F,FM,t,Kn,f,g,Gc,by lia,(λz=>nomatch z),R,q]) h
theorem wI (i:Fm) {g:Gg->Fe β}(Y:RX X Z.a Z.E) (R:RS Z F b H t Kn (IC>>=g)) (hr:bX 9 X.A) (q: ∀e H' t',RS Z F FM H' t' Kn (g e)->Bd X ss D ((Fa (.ref Z.B.r)::σ).set i (Fa (ku e))) H')
  (h:Sl X i y:=by exact#[Gc,GO rfl,Gc]) (hg:Gl X "read_side":=by rfl):Bd X (.Assign [.Name y p0] (.Call (.Name "read_side" p1) [.Name "reader" p2] [] p4) p5::ss) D (Fa (.ref Z.B.r)::σ) H:=
 aN i Y.nd (e7 Y #[ain Y.T Y.C,hr,Y.T.ZU.c,hg] #[Z.B,Z.L,Z.H0,Z.Ro,F,b,t,Kn,_,g,Gc,Gc,R,q]) h
end
section
variable {K:E6}{β:Type}{g:An->Fe β}
theorem abn (h:Ff t "let"=FM):(KW (k+1) d K B>>=g) t=(Gq>>=λ_=>Gz K>>=λx=>dO k K>>=λe=>g (.bind x e,K.with x,B)) t:=by
 rw[aS (AC h)];simp only[dO,bind_assoc,pure_bind]
theorem Er (h1:Ff t "let"=FS) (h2:Ff t "for"=FS) (h3:Ff t "if"=FS) (h4:Ff t "block"=FS):(KW (k+1) d K B>>=g) t=(IC>>=λXm=>du "zone" k K>>=λz=>du "quarter" k K>>=λq=>du "price" k K>>=λp=>G9 "to" (FE k Hl K)>>=λtop=>du "amount" k K>>=λa=>FX ";">>=λ_=>g (.step Xm z q p top a,K,B)) t:=by
 rw[aS (ze h1 h2 h3 h4)];simp only[du,bind_assoc,pure_bind]
end
theorem al7 (T:aU K mg a) (XC:XT K a) (hk:8<=k) (G:T.XI.O P w base k (gv a [] dO 12 FS FM .e)):
  T.d_Z.O P w base (k+1) (nU a (λ_=>[]) λ_ t=>Ff t "let"=FM):=by
 refine xK T XC hk T.d_Z.F alh (λ_=>rfl) λGF A outer s H β B L H0 Ro F b t Kn Bs d fu g Q E hr hd ho hf hB hc=>?_;intro X D Z en Y R q;have lL:=R.lL;have hm:Kn.values.length+(Z.at t.length).L<=4000:=R.room;obtain⟨xp,r,rfl⟩:=eY R (beq_iff_eq.mp ho);obtain⟨f,rfl⟩: ∃f,fu=f+1:=#[fu-1,by lia];have hF:16*(Z.at (((Hj (EY "let"),xp)::r).length)).L+12<=f+16:=by show 16*((Hj (EY "let"),xp)::r).length+12<=f+16;lia
 refine ir (Z:=Z.at _) Y AH (R.at.as (abn ho)) λH t R=>?_;refine i4 (Z:=Z.at _) 1 Y R λu H t ft R=>?_;refine my (Z:=Z.at _) 2 Y #[G,hr,T.XI.c,Gc] R hF λe v H t R=>?_;refine gH (Z:=Z.at _) Y (pv 1) [05] ft hm R λH R=>?_;refine gW (Z:=Z.at _) Y (aaX T) (aa (pv 1) (aa (pv 2) ag)) [05] R rfl λw H i R=>?_;have l:t.length+1<=r.length+1:=R.l;have R:=RS.back (Z:=Z) lL R;refine q (.bind u e,Kn.with u,Bs) w H t B.bl.c ⟨rfl,ft⟩ hB (by rw[Fj] at hc;lia) ((R.cut 1).and ?_);show a7 a (eU B) H (.bind u e) w;unfold a7;exact#[v,i,R.f (i:=0) rfl]
theorem al8 (T:aU K mg a) (XC:XT K a) (hk:9<=k)
  (G1: ∀ {v:FD}{s:String},cX v (EY s)->T.W5.O P w base k (gv a [.str v] (du s) 12 FM FM .e))
  (G2:T.d_A.O P w base k (gv a [.str "to"] (λf Kn=>G9 "to" (FE f Hl Kn)) 12 FM FS .o)):
  T.d_1.O P w base (k+1) (nU a (λ_=>[]) λ_ t=>Ff t "let"=FS/\Ff t "for"=FS/\Ff t "if"=FS/\Ff t "block"=FS):=by
 refine xK T XC (by lia) T.d_1.F alk (λ_=>rfl) λGF A outer s H β B L H0 Ro F b t Kn Bs d fu g Q E hr hd ho hf hB hc=>?_;intro X D Z en Y R q;have lL:=R.lL;obtain⟨n1,n2,n3,n4⟩:=ho;obtain⟨f,rfl⟩: ∃f,fu=f+1:=#[fu-1,by lia];have hF:16*(Z.at t.length).L+12<=f+16:=by show 16*t.length+12<=f+16;lia
 have cp: ∀ {v:FD}{s:String},cX v (EY s)->CB X "read_part" ["reader","word"] (gv a [.str v] (du s) 12 FM FM .e):=λl=>#[G1 l,hr,T.W5.c,Gc]
 have ps: ∀ {γ:Type}{s:String}{f:Fm}{h:Fc->Fe γ},aK (du s f Kn>>=h):=(eT _).bind.bind;refine wI (Z:=Z.at t.length) 1 Y (R.at.as (Er n1 n2 n3 n4)) (hr.mono hk) λbu H t1 R=>?_
 refine iX (Z:=Z.at t.length) 2 Y (cp wz) R hF (λ_=>ps) λe1 v1 H t2 R=>?_;refine iX (Z:=Z.at t.length) 3 Y (cp uS) R hF (λ_=>ps) λe2 v2 H t3 R=>?_;refine iX (Z:=Z.at t.length) 4 Y (cp sR) R hF (λ_=>(f9 "to" _).strict λ_=>ps) λe3 v3 H t4 R=>?_;refine pE (Z:=Z.at t.length) 5 Y #[G2,hr,T.d_A.c,Gc] R hF (λ_=>ps) λe4 v4 H t5 R=>?_;refine iX (Z:=Z.at t.length) 6 Y (cp pT) R hF (λ_=>(bi ";").bind) λe5 v5 H t6 R=>?_;refine cE (Z:=Z.at t.length) Y Az R λH t7 R=>?_;refine gW (Z:=Z.at t.length) Y (Ez T) (aa (pv 1) (aa (pv 2) (aa (pv 3) (aa (pv 4) (aa (pv 5) (aa (pv 6) ag)))))) [05] R rfl λw H i R=>?_;have l:t7.length+1<=t.length:=R.l;have R:=RS.back (Z:=Z) lL R;refine q (.step bu e1 e2 e3 e4 e5,Kn,Bs) w H t7 B.bl.c rfl hB (by lia) ((R.cut 5).and ?_);show a7 a (eU B) H (.step bu e1 e2 e3 e4 e5) w;unfold a7;exact#[v1,v2,v3,v4,v5,i,R.f (i:=4) rfl,R.f (i:=3) rfl,R.f (i:=2) rfl,R.f (i:=1) rfl,R.f (i:=0) rfl]
theorem Bb {B:HJ}{t:E2}(RN:Gp.contains u=FS):JG B ((.word u,xp)::t)=if B.contains u=FM then Fx 4 ((.word u,xp)::t) else .ok (Fa u,t):=by
 have c: ¬(Ff ((.word u,xp)::t) "sell"=FM\/Ff ((.word u,xp)::t) "buy"=FM):=λz=>z.elim (λz=>by
  have:Hj u= .word (EY "sell"):=beq_iff_eq.mp z;cases this;exact Fv RN [00]) λz=>by
  have:Hj u= .word (EY "buy"):=beq_iff_eq.mp z;cases this;exact Fv RN [00]
 unfold JG;rw[E5 c];unfold Vd;rw[c9,E5 (by rw[RN];exact EZ)];dsimp only;by_cases h:B.contains u=FM
 ·rw[E7 h,E7 h]
  rfl
 ·rw[E5 h,E5 h]
theorem BQ {γ:Type}{B:HJ}{t:E2}(nb:x.1≠ .bad) (en:cP x.1=FS) {g:Fd EW->Gg->Fe γ} :(JG B>>=λm=>IC>>=λb=>g m b) (x::t)=(IC>>=λb=>g FB b) (x::t):=by
 by_cases c:Ff (x::t) "sell"=FM\/Ff (x::t) "buy"=FM
 ·exact bJ (by unfold JG;rw[E7 c])
 ·have e:JG B (x::t)= .error (2,HZ (x::t)):=by
   unfold JG Vd;rw[E5 c,mE en];unfold Fx;rw[E5 (show¬Fp (x::t)= .bad from nb)]
  have e2:IC (x::t)= .error (2,HZ (x::t)):=by
   rw[ww (t:=x::t) (by cases h:(Fp (x::t) == Hj (EY "sell"));rfl;exact Fv (.inl h) c) (by cases h:(Fp (x::t) == Hj (EY "buy"));rfl;exact Fv (.inr h) c)];unfold Fx;rw[E5 (show¬Fp (x::t)= .bad from nb)]
  show FF _ _ (x::t)=FF _ _ (x::t)
  unfold FF;rw[e,e2]
  rfl
theorem fo.abo {a:bf}{H:Hp}{B:Rb}{t:E2}{Kn:E6}(S:fo a B H n t Kn):fo a (B.bk c) (aF H B.bl.p (.dK c)) n t Kn:=by
 obtain⟨dr,er⟩:=S.rd.ins;obtain⟨as,all,h1,h2,h3⟩:=S.rd.toks;obtain⟨kk,k1,k2,k3⟩:=S.kn.vals;obtain⟨ff,f1,f2⟩:=S.kn.funs;have hy:=S.SI;have e:=S.R8;obtain⟨d1,d2,d3,d4,d5,d6⟩:=S.PL;have nr:B.r≠B.bl.p:=λw=>by rw[w,e] at er;cases er
 have nq:B.q≠B.bl.p:=λw=>by rw[w,e] at h1;cases h1
 refine#[#[#[dr,(by show aF H B.bl.p (.dK c) B.r=_;rw[ac nr];exact er)],as,all,(by show aF H B.bl.p (.dK c) B.q=_;rw[ac nq];exact h1),Paired.Np h2 λb x ⟨dx,ex⟩=>#[dx,?_],h3],S.wh,#[#[kk,(by show aF H B.bl.p (.dK c) B.kd=_;rw[ac d3];exact k1),k2,k3],#[ff,(by show aF H B.bl.p (.dK c) B.fn=_;rw[ac d5];exact f1),f2],S.kn.len,#[ff,(by show aF H B.bl.p (.dK c) B.fn=_;rw[ac d5];exact f1),S.kn.fl f1]],(by show aF H B.bl.p (.dK c) B.ds.p=_;rw[ac d6];exact hy),ae,S.PL,λb xs h=>?_]
 ·rw[ac λw=>by rw[w,e] at ex;cases ex]
  exact ex
 ·have e2:=S.fr b xs h
  rw[ac λw=>by rw[w,e] at e2;cases e2];exact e2
section
variable {β:Type}{Z:Zf β}{H:Hp}{Q:VK}{p:Fe β}
theorem vA (Y:RX X Z.a Z.E) (R:RS Z F b H t Kn p) (hb:Fp t= .bad->QE Z.a Z.B Z.H0 Z.E 1 (HZ t)) (no:Fp t≠ .bad->lZ v (Fp t)=FS->Q (.bl FS) H)
  (yes: ∀ {x:Gs×Gh}{r:E2},t=x::r->lZ v x.1=FM->x.1≠ .bad-> ¬jH x/\ ∃p',p (x::r)=(Gq>>=λ_=>p') (x::r)/\ ∀H',RS Z F FM H' r Kn p'->Q (.bl FM) H') (hp:ip p2 p4:=by rfl):
  Pe X (.Call (.Attribute [005] "skips" p2) [.Constant (.str v) j p3] [] p4) (Fa (.ref Z.B.r)::σ) H Q:=by
 rw[00];obtain⟨x,t',rfl,tok,QN,MJ,_⟩:=S.wh.first;refine Y.m1 Y.T.ZL.c (Cz Y.T Y.C) [01] Y.up S rfl (X9 #[Z.B.r,Z.B.q,Z.B.kd,Z.B.fn,Z.B.ds,Z.B.bl,n,x,t',v,Gc,S.rd,λb=>hb (QN.trans b) H R.k,no,λnb e H' hp=>?_]) hp rfl;obtain⟨nf,p',e',q⟩:=yes rfl e nb;exact q H' ((R.as e').past S nf hp (R.as e').w)
theorem wC (Y:RX X Z.a Z.E) (R:RS Z F b H t Kn p) (hf: ∀n,(rD Z.B.q Z.B.kd Z.B.fn Z.B.ds.p Z.B.bl.p n).lookup fld=Fa (.ref gd)) (na:ao X.K Z.a.Gm fld) (hg:H gd=Fa (.dK gg)) (st:aK p) (h2:Fp t≠ .bad->cP (Fp t)=FS->p t=Fx 2 t) (h4: ∀u,Fp t= .word u->Gp.contains u=FS->has gg u=FM->p t=Fx 4 t)
  (q: ∀u xp r,t=(.word u,xp)::r->Gp.contains u=FS->has gg u=FS-> ∃p',p ((.word u,xp)::r)=(Gq>>=λ_=>p') ((.word u,xp)::r)/\ ∀H',RS Z F FM H' r Kn p'->Q (.str (sb u)) H') (hp:ip p2 p4:=by rfl):
  Pe X (.Call (.Attribute [005] "take_name_not_in" p2) [.Attribute (.Name "reader" p3) fld p6] [] p4) (Fa (.ref Z.B.r)::σ) H Q:=by
 rw[00];obtain⟨dr,er⟩:=S.rd.ins;obtain⟨⟨x,xp⟩,t',rfl,tok,QN,MJ,_⟩:=S.wh.first;refine Y.m1 Y.T.ZN.c (jf Y.T Y.C) [01] Y.up S rfl #[_,ah Y.rd rfl,Z.B.r,_,dr,_,_,Gc,er,Y.T.FV,na,hf n,Z.B.r,Z.B.q,Z.B.kd,Z.B.fn,Z.B.ds,Z.B.bl,gd,n,(x,xp),t',gg,Gc,S.rd,hg,λb=>st.Lw (QN.trans b) R.w H R.k,λnb e=>fF (h2 nb e) nb R.w H R.k,λu ex e hu=>?_,λu ex e hu H' hp=>?_] hp rfl
 ·obtain⟨u',e1,e2⟩:=gQ e
  obtain rfl:u=u':=by have:=ex.symm.trans e1;cases this;rfl
  exact fF (h4 u ex e2 hu) (by rw[show Fp ((x,xp)::t')= .word u from ex];intro z;cases z) R.w H R.k
 ·obtain⟨u',e1,e2⟩:=gQ e
  obtain rfl:u=u':=by have:=ex.symm.trans e1;cases this;rfl
  obtain rfl:x= .word u:=ex;obtain⟨p',e',q⟩:=q u xp t' rfl e2 hu;exact q H' ((R.as e').past S YD hp (R.as e').w)
theorem RS.abo {a:bf}{E:XK}{B:Rb}{H0:Hp}{Ro:β->E2->Prop}(R:RS #[a,E,B,L,H0,Ro] F b H t Kn p):RS #[a,E,B.bk c,L,H0,Ro] F b (aF H B.bl.p (.dK c)) t Kn p:=by
 rw[00];have k:db (eU B) H (aF H B.bl.p (.dK c)):=eX (.inr (.inr (.inr (.inr (.inl rfl)))));exact#[#[n,S.abo],R.k.trans k,λe=>jh.HH k.two (R.f e),R.l,R.w]
end
section
variable {K:E6}{β:Type}{g:An->Fe β}
theorem Cw (h1:Ff t "let"=FS) (h2:Ff t "for"=FS) (h3:Ff t "if"=FS) (h:Ff t "block"=FM):(KW (k+1) d K B>>=g) t=(Gq>>=λ_=>JG B>>=λm=>IC>>=λXm=>du "zone" k K>>=λz=>du "price" k K>>=λp=>i5 k K>>=λx=>
  G9 "under" (IZ B)>>=λu=>G9 "group" (FE k Hl K)>>=λgr=>FX ";">>=λ_=>g (.block m Xm z p x.1 x.2 u gr,K,kH m B)) t:=by
 rw[aS (ur h1 h2 h3 h)];simp only[du,i5,bind_assoc,pure_bind]
end
theorem al9 (T:aU K mg a) (XC:XT K a) (hk:9<=k)
  (G1: ∀ {v:FD}{s:String},cX v (EY s)->T.W5.O P w base k (gv a [.str v] (du s) 12 FM FM .e))
  (G2:T.d_A.O P w base k (gv a [.str "group"] (λf Kn=>G9 "group" (FE f Hl Kn)) 12 FM FS .o))
  (G3:T.W6.O P w base k (gv a [] i5 12 FM FM .am)):
  T.d_2.O P w base (k+1) (nU a (λ_=>[]) λ_ t=>Ff t "let"=FS/\Ff t "for"=FS/\Ff t "if"=FS/\Ff t "block"=FM):=by
 refine xK T XC (by lia) T.d_2.F alm (λ_=>rfl) λGF A outer s H β B L H0 Ro F b t Kn Bs d fu g Q E hr hd ho hf hB hc=>?_;intro X D Z en Y R q;have lL:=R.lL;have hm:Kn.values.length+(Z.at t.length).L<=4000:=R.room;obtain⟨n1,n2,n3,n4⟩:=ho;obtain⟨f,rfl⟩: ∃f,fu=f+1:=#[fu-1,by lia];have hF:16*(Z.at t.length).L+12<=f+16:=by show 16*t.length+12<=f+16;lia
 have cp: ∀ {v:FD}{s:String},cX v (EY s)->CB X "read_part" ["reader","word"] (gv a [.str v] (du s) 12 FM FM .e):=λl=>#[G1 l,hr,T.W5.c,Gc]
 have ps: ∀ {γ:Type}{s:String}{f:Fm}{h:Fc->Fe γ},aK (du s f Kn>>=h):=(eT _).bind.bind;obtain⟨xp,r,e⟩:=eY R (beq_iff_eq.mp n4)
 have R:=R.at.as (Cw n1 n2 n3 n4);generalize hl:t.length=l at R lL hF hm hc hf;subst e;refine ir (Z:=Z.at l) Y rM R λH t R=>?_
 refine aN 1 Y.nd (mY ?_);refine gc (λσ' H'=> ∃(m:Fd EW) (t:E2),σ'=[Fa (.ref B.r),Fa (ig m),FB,FB,FB,FB,FB,FB]/\RS (Z.at l) F FM H' t Kn (IC>>=λXm=>du "zone" f Kn>>=λz=>du "price" f Kn>>=λp=>i5 f Kn>>=λx=>
  G9 "under" (IZ Bs)>>=λu=>G9 "group" (FE f Hl Kn)>>=λgr=>FX ";">>=λ_=>g (.block m Xm z p x.1 x.2 u gr,Kn,kH m Bs))) ?_ ?_
 ·rintro σ H ⟨m,t,rfl,R⟩
  refine wI (Z:=Z.at l) 2 Y R (hr.mono hk) λbu H t R=>?_;refine iX (Z:=Z.at l) 3 Y (cp wz) R hF (λ_=>ps) λe1 v1 H t R=>?_;refine iX (Z:=Z.at l) 4 Y (cp sR) R hF (λ_=>(eT _).bind.bind) λe2 v2 H t R=>?_;have l5:t.length+1<=l:=R.l;have en6: ∀x:EW×Fc,aK (G9 "under" (IZ Bs)>>=λu=>G9 "group" (FE f Hl Kn)>>=λgr=>FX ";">>=λ_=>g (.block m bu e1 e2 x.1 x.2 u gr,Kn,kH m Bs)):=λ_=>(f9 "under" _).strict λ_=>(f9 "group" _).strict λ_=>(bi ";").bind;refine aN 5 Y.nd (e7 Y #[G3,hr,T.W6.c,Gc] #[B,l,H0,Ro,_,FM,t,Kn,f,_,Gc,(by have:16*l+12<=f+16:=hF;lia),λ_=>Do en6,R,λe3 v3 H t R=>?_]);have R:RS (Z.at l) _ FM H t Kn _:=R;refine aN 6 Y.nd (mY ?_);refine gc (λσ' H'=> ∃(un:Fd EW) (t:E2),σ'=[Fa (.ref B.r),Fa (ig m),Fa (ku bu),Fa v1,Fa v2,Fa v3,Fa (ig un),FB]/\RS (Z.at l) ((.am e3,v3)::(.e e2,v2)::(.e e1,v1)::F) FM H' t Kn (G9 "group" (FE f Hl Kn)>>=λgr=>FX ";">>=λ_=>g (.block m bu e1 e2 e3.1 e3.2 un gr,Kn,kH m Bs))) ?_ ?_
  ·rintro σ H ⟨un,t,rfl,R⟩
   refine pE (Z:=Z.at l) 7 Y #[G2,hr,T.d_A.c,Gc] R hF (λ_=>(bi ";").bind) λe4 v4 H t R=>?_;refine cE (Z:=Z.at l) Y Az R λH t R=>?_;have l9:t.length+1<=l:=R.l;have R:=RS.back (Z:=Z) lL R;refine gc (λσ' H'=> ∃c',σ'=[Fa (.ref B.r),Fa (ig m),Fa (ku bu),Fa v1,Fa v2,Fa v3,Fa (ig un),Fa v4]/\Bk (B.bl.at_ c') (kH m Bs)/\c'.length+t.length<=4000/\RS #[a,E,B.bk c',L,H0,Ro] ((.o e4,v4)::(.am e3,v3)::(.e e2,v2)::(.e e1,v1)::F) FM H' t Kn (g (.block m bu e1 e2 e3.1 e3.2 un e4,Kn,kH m Bs))) ?_ ?_
   ·rintro σ H ⟨c',rfl,hB',Wt,R⟩
    refine gW (Z:=#[a,E,B.bk c',L,H0,Ro]) Y (zR T) (aa (pv 1) (aa (pv 2) (aa (pv 3) (aa (pv 4) (aa (pv 5) (aa (pv 6) (aa (pv 7) ag))))))) [05] R rfl λw H i R=>?_;refine q (.block m bu e1 e2 e3.1 e3.2 un e4,Kn,kH m Bs) w H t c' rfl hB' Wt ((R.cut 4).and ?_);show a7 a (eU B) H (.block m bu e1 e2 e3.1 e3.2 un e4) w;unfold a7;exact#[v1,v2,v3,v4,i,R.f (i:=3) rfl,R.f (i:=2) rfl,R.f (i:=1) rfl,R.f (i:=0) rfl]
   ·refine#[_,fD (EG (pv 1)),_,Gc,?_]
    cases m with
    |none=>exact bN #[B.bl.c,Gc,hB,by lia,R]
    |some u=>
     rw[00];obtain⟨dr,er⟩:=S.rd.ins;refine cc (aQ (hZ (dn hr) [08] (pv 1) tG rfl) #[B.r,_,dr,_,_,Gc,er,T.FV,T.JF,Gc,B.bl.p,_,Gc, .inl #[B.bl.c,nk u,S.R8,Gc,F9 (show B.bl.c.length<=4000 by lia) [01],Gc],cf #[dy B.bl.c (nk u) (.bl FM),Gc,λv=>?_,?_,R.abo]])
     ·show has (dy B.bl.c (nk u) (.bl FM)) v=(u::Bs).contains v
      rw[qO,Gn,hB v]
      congr 1
      rw[GZ,F5,beq_iff_eq]
     ·have:=cD B.bl.c (nk u) (.bl FM)
      lia
  ·refine dv (vA (Z:=Z.at l) Y R (λb=>(en6 e3).Lw b R.w) (λnb e=>#[_,Gc,bN #[FB,t,Gc,R.as (bJ (m9 ((b4 R.tok r6).symm.trans e)))]]) λ{x r} et e nb=>?_)
   subst et;have e:=(b4 R.tok r6).symm.trans e;obtain⟨x,xp⟩:=x;obtain rfl:x=_:=beq_iff_eq.mp e;refine#[YD,IZ Bs>>=λu=>G9 "group" (FE f Hl Kn)>>=λgr=>FX ";">>=λ_=>g (.block m bu e1 e2 e3.1 e3.2 (Fa u) gr,Kn,kH m Bs),?_,λH R=>#[_,Gc,cc (aN 6 Y.nd (e7 Y #[aip T XC,hr.mono hk,T.ZV.c,Gc] #[B,l,H0,Ro,_,FM,r,Kn,_,_,Gc,#[Bs,hB,Gc],R,λu H t R=>cf #[Fa u,t,Gc,R]]))]];rw[aS (pJ e),bind_assoc];simp only[bind_assoc,pure_bind];exact bJ (by unfold Hc;rw[E7 (show Ff ((.word (EY "under"),xp)::r) "under"=FM from e)])
 ·obtain⟨⟨x,xp⟩,r,rfl⟩:=R.cons
  refine dv (Yz (Z:=Z.at l) Y T.d_X.c (nD T XC) [01] (λ_=>rfl) R (gF Bs).bind λnb=>#[_,Gc,aP (λe=>?_) λe=>?_])
  ·obtain⟨u,rfl,hu⟩:=gQ e
   have em:=Bb (B:=Bs) (xp:=xp) (t:=r) hu;rw[00];refine aN 1 Y.nd (wC (Z:=Z.at l) Y R (λ_=>rfl) T.JF S.R8 (gF Bs).bind (λ_ z=>Fv e (by rw[z];exact EZ)) (λu' e1 _ hu'=>?_) λu' xp' r' e1 _ hu'=>?_)
   ·cases e1
    rw[E7 ((hB u).symm.trans hu')] at em;exact(aS (q:=Fx 4) em).trans rfl
   ·cases e1
    have hx:Bs.contains u=FS:=(hB u).symm.trans hu';rw[hx,E5 EZ] at em;exact#[_,(bJ em).trans rfl,λH R=>cf #[Fa u,r,Gc,R]]
  ·exact#[FB,_,Gc,R.as (BQ nb e)]
structure pH (K:E1) (a:bf):Prop where
 t1:yo K a.LD
 t2:yo K a.Nc
 t3:yo K a.Qm
 t4:yo K a.KL
 t5:yo K a.Ju
 k1:Hy K (.ref a.LD) (.ref a.LD)=Fa FM
 k2:Hy K (.ref a.Nc) (.ref a.LD)=Fa FS
 k3:Hy K (.ref a.Qm) (.ref a.LD)=Fa FS
 k4:Hy K (.ref a.KL) (.ref a.LD)=Fa FS
 k5:Hy K (.ref a.Ju) (.ref a.LD)=Fa FS
theorem pH.of {K:E1}{a:bf}{M:E4->Prop}{H:Hp}(I:pH K a) (h:a7 a M H s v): ∃C,jL K H v (.ref C)/\Hy K (.ref C) (.ref a.LD)=Fa (lO s).isSome:=by
 cases s with
 |bind x e=>
  unfold a7 at h;obtain⟨u,⟨p,dx,rfl,m,z⟩,_⟩:=h;exact#[_,I.t1.of z,I.k1]
 |loop x lo hi l=>
  unfold a7 at h;obtain⟨u1,u2,q,us,⟨p,dx,rfl,m,z⟩,_⟩:=h;exact#[_,I.t2.of z,I.k2]
 |cond c x y=>
  unfold a7 at h;obtain⟨u,q,us,g,ws,⟨p,dx,rfl,m,z⟩,_⟩:=h;exact#[_,I.t3.of z,I.k3]
 |step b z qu p top am=>
  unfold a7 at h;obtain⟨u1,u2,u3,u4,u5,⟨p,dx,rfl,m,z⟩,_⟩:=h;exact#[_,I.t4.of z,I.k4]
 |block nm b z p x am un g=>
  unfold a7 at h;obtain⟨u1,u2,u3,u4,⟨p,dx,rfl,m,z⟩,_⟩:=h;exact#[_,I.t5.of z,I.k5]
theorem fo.Xn {a:bf}{H:Hp}{t:E2}{K1 K2:E6}(S:fo a B H n t K1) (hc:K1.values.contains u=FM) (hf:K2.funs=K1.funs) (hl:K2.values.length+1=K1.values.length)
  (hv: ∀v,K2.values.contains v=(!decide (v=u)&&K1.values.contains v)) {kk:EV (a8×V)}(e:H B.kd=Fa (.dK kk)):has kk u=FM/\fo a B (aF H B.kd (.dK (fE kk (nk u)))) n t K2:=by
 obtain⟨dr,er⟩:=S.rd.ins;obtain⟨as,all,h1,h2,h3⟩:=S.rd.toks;obtain⟨kk',k1,k2,k3⟩:=S.kn.vals;obtain⟨ff,f1,f2⟩:=S.kn.funs;have hy:=S.SI;have hz:=S.R8;obtain rfl:kk'=kk:=by rw[e] at k1;cases k1;rfl
 obtain⟨d1,d2,d3,d4,d5,d6⟩:=S.PL;have nr:B.r≠B.kd:=λw=>by rw[w,e] at er;cases er
 have nq:B.q≠B.kd:=λw=>by rw[w,e] at h1;cases h1
 have hu:has kk' u=FM:=by rw[k3];exact hc
 have len:=S.kn.len;refine#[hu,#[#[dr,by rw[ac nr];exact er],as,all,by rw[ac nq];exact h1,Paired.Np h2 λb x ⟨dx,ex⟩=>#[dx,?_],h3],S.wh,#[#[_,ae,?_,λv=>?_],#[ff,by rw[ac d1.symm];exact f1,by rw[hf];exact f2],by lia,#[ff,by rw[ac d1.symm];exact f1,(by rw[hf];exact S.kn.fl f1)]],(by rw[ac d2.symm];exact hy),(by rw[ac d3.symm];exact hz),S.PL,λb xs h=>?_]
 ·rw[ac λw=>by rw[w,e] at ex;cases ex]
  exact ex
 ·have:(fE kk' (nk u)).length<kk'.length:=by
   unfold fE;refine Vr (Od _ _) λw=>?_;rw[PN] at w;unfold has bO at hu;rw[HR,Na] at hu;obtain⟨p,hp,e1⟩:=hu;have:=w p hp;simp only[NT] at this e1;exact this e1
  lia
 ·rw[rP,k3,hv]
 ·have e2:=S.fr b xs h
  rw[ac λw=>by rw[w,e] at e2;cases e2];exact e2
def zr (Kn:E6) (ss:EV GR):E6:=#[(jC ss).reverse++Kn.values,Kn.funs]
theorem tQ {x:EW}{rest V:EV EW}(h1:x∉rest) (h2:x∉V) (v:EW):(rest.reverse++V).contains v=(!decide (v=x)&&((x::rest).reverse++V).contains v):=by
 by_cases e:v=x
 ·subst e
  rw[Gy rfl];show _=FS;rw[Vz];intro z;rcases FK.mp (F8.mp z) with z|z
  ·exact h1 (JL.mp z)
  ·exact h2 z
 ·rw[FU e]
  show _=((x::rest).reverse++V).contains v
  rw[GZ,F8,F8,FK,FK,JL,JL,Fi];constructor
  ·rintro(z|z)
   ·exact .inl (.inr z)
   ·exact .inr z
  ·rintro((z|z)|z)
   ·exact Fv z e
   ·exact .inl z
   ·exact .inr z
inductive j9 (a:bf) (m:Fm) (vs:EV V) (H:Hp) (Q:VK) (E:XK):Prop
 |mk {β:Type}(B:Rb) (L:Fm) (H0:Hp) (Ro:β->E2->Prop) (F:EV (Fk×V)) (b:Gg) (t:E2) (Kn:E6) (Bs:HJ) (d f:Fm) (g:IQ×HJ->Fe β) (_:vs=[.ref B.r, .int d]) (_:d<=6) (_:7<=d+m) (_:16*t.length<=f) (_:Bk B.bl Bs) (_:B.bl.c.length+t.length<=4000) (_:RS ⟨a,E,B,L,H0,Ro⟩ F b H t Kn (FX "{">>=λ_=>JT f (6-d) Kn Bs>>=g))
  (_: ∀l v H' t' c',Bk (B.bl.at_ c') l.2->c'.length+t'.length<=4000->RS #[a,E,B.bk c',L,H0,Ro] ((.sts l.1,v)::F) FM H' t' Kn (g l)->Q v H'):j9 a m vs H Q E
abbrev pQ (a:bf) (m:Fm) (ok:E2->Prop):Sp:=nU a (λd=>[.int d]) λd t=>7<=d+m/\ok t
section
variable {k m:Fm}{x GU:FD}{st:Stmt}{f:E4}{fd:Gb}{N:EV FD}
theorem ama (T:aU K mg a) (XC:XT K a) (hk:8<=k) (F:oU K x GU st f fd) (S:az N ["reader","depth"] (af st))
  (Jv: ∀(GF:E3) (A:GG) (outer:EV Env) (s:E8) (H:Hp) {β:Type}(B:Rb) (L:Fm) (H0:Hp) (Ro:β->E2->Prop) (F:EV (Fk×V)) (b:Gg) (t:E2) (Kn:E6) (Bs:HJ) (d fu:Fm) (g:IQ×HJ->Fe β) (Q:VK) (E:XK),bX k (A.deeper (Jz GU (af st) s.heap.objs.size f GF))->d<=6->7<=d+m->16*t.length<=fu->Bk B.bl Bs->B.bl.c.length+t.length<=4000->
   let X:=e8 (fY P w) P w K mg base N GU (af st) f GF A outer s H E
   let D:d8:= { nx:=λ_ H'=>Q .Iw H',rt:=Q }
   let Z:Zf β:=#[a,E,B,L,H0,Ro]
   RX X a E->RS Z F b H t Kn (FX "{">>=λ_=>JT fu (6-d) Kn Bs>>=g)->(∀l v H' t' c',Bk (B.bl.at_ c') l.2->c'.length+t'.length<=4000->RS #[a,E,B.bk c',L,H0,Ro] ((.sts l.1,v)::F) FM H' t' Kn (g l)->Q v H')->Bd X (be st) D (L2.start N [.ref B.r, .int d]) H):bU P w K mg base (fY P w) (k+1) f fd ["reader","depth"] (j9 a m):=by
 refine fQ F S [03] [02];obtain⟨B,L,H0,Ro,F,b,t,Kn,Bs,d,fu,g,rfl,h1,h2,h3,h4,h5,R,q⟩:=h;exact Jv GF A outer s H B L H0 Ro F b t Kn Bs d fu g Q E hr h1 h2 h3 h4 h5 (jU T XC hk S hr) R q
end
abbrev fkS (ps:EV (GR×V)) (F:EV (Fk×V)):EV (Fk×V):=(ps.map λx=>(Fk.st x.1,x.2))++F
theorem rN {a:bf}{M:E4->Prop}{H:Hp}{F:EV (Fk×V)}{l:IQ}{ws:EV V}(hl:bF a M H l ws): ∀ {ps:EV (GR×V)},(∀ {i:Fm}{x:Fk×V},(fkS ps F)[i]?=Fa x->jh a M H x)->bF a M H (BN (ps.map (·.1)).reverse l) ((ps.map (·.2)).reverse++ws)
 |[],_=>hl
 | (e,v)::ps,h=>by
  rw[FC,FC,GA,GA,rR,Gr];refine rN (l:= .cons e l) ?_ λ{i x} q=>h (i:=i+1) q;unfold bF;exact#[v,ws,Gc,h (i:=0) rfl,hl]
theorem abp {F:EV (Fk×V)}{ps:EV (GR×V)}{i:Fm}{y:V}(h:((ps.map λx:GR×V=>x.2).reverse)[i]?=Fa y): ∃(s:GR) (j:Fm),((ps.map λx:GR×V=>x.1).reverse)[i]?=Fa s/\(fkS ps F)[j]?=Fa (Fk.st s,y):=by
 have hi:i<ps.length:=by
  obtain⟨h,_⟩:=FZ.mp h;rw[Gv,Fh] at h;exact h
 rw[Th (by rw[Fh];exact hi),Fh,Gf] at h;obtain⟨⟨s,v⟩,e,rfl⟩:=F4.mp h;refine#[s,ps.length-1-i,?_,?_]
 ·rw[Th (by rw[Fh];exact hi),Fh,Gf,e]
  rfl
 ·rw[Rk (by rw[Fh];lia),Gf,e]
  rfl
theorem gU.drop {Kn K1:E6}{ss:EV GR}{x:EW}(lo:gU Kn ss K1) (h:ss[i]?=Fa (.bind x e)):(zr Kn (ss.drop i)).values.contains x=FM/\(zr Kn (ss.drop (i+1))).values.length+1=(zr Kn (ss.drop i)).values.length/\ ∀v,(zr Kn (ss.drop (i+1))).values.contains v=(!decide (v=x)&&(zr Kn (ss.drop i)).values.contains v):=by
 have ed:ss.drop i= .bind x e::ss.drop (i+1):=by
  obtain⟨h,e⟩:=FZ.mp h;rw[<-e];exact Hd h
 have el:jC (GR.bind x e::ss.drop (i+1))=x::jC (ss.drop (i+1)):=rfl
 have sub:(x::jC (ss.drop (i+1))).Sublist (jC ss):=by
  rw[<-el,<-ed];exact(VA i ss).filterMap lO
 have nin:=(F6.mp (sub.nodup lo.nodup)).1
 have nV:=lo.free x (sub.subset (Fb ..));unfold zr;rw[ed,el];refine#[F8.mpr (FK.mpr (.inl (JL.mpr (Fb ..)))),?_,tQ nin nV];simp only[Ft,Gv,Fj];lia
theorem AF {Kn:E6}{ss:EV GR}(h:ss[i]?=Fa s) (hl:lO s=FB):zr Kn (ss.drop i)=zr Kn (ss.drop (i+1)):=by
 have ed:ss.drop i=s::ss.drop (i+1):=by
  obtain⟨h,e⟩:=FZ.mp h;rw[<-e];exact Hd h
 rw[ed];unfold zr jC;rw[Kz,hl]
theorem z6 {x:EW}(hl:lO s=Fa x): ∃e1,s= .bind x e1:=by
 cases s with
 |bind y e1=>cases hl;exact#[e1,Gc]
 |loop _ _ _ _=>cases hl
 |cond _ _ _=>cases hl
 |step _ _ _ _ _ _=>cases hl
 |block _ _ _ _ _ _ _ _=>cases hl
inductive BrI {β:Type}(Z:Zf β) (Ls:E4) (F:EV (Fk×V)) (Kn:E6) (d l:Fm) (g:IQ×HJ->Fe β) (σ0:L2.St) (m:Fm) (σ:L2.St) (H:Hp):Prop
 |mk (ps:EV (GR×V)) (K1:E6) (B1:HJ) (c:EV (a8×V)) (t:E2) (f:Fm) (_:m=t.length) (_:σ=σ0) (_:ps.length+t.length<l) (_:Bk (Z.B.bl.at_ c) B1) (_:c.length+t.length<=4000) (_:16*t.length+15<=f) (_:gU Kn (ps.map (·.1)).reverse K1)
  (_:RS (Zf.mo { Z with B:=Z.B.bk c } Ls (ps.map (·.2)).reverse) (fkS ps F) FM H t K1 (JT f d K1 B1>>=λx=>g (BN (ps.map (·.1)).reverse x.1,x.2))):BrI Z Ls F Kn d l g σ0 m σ H
section
variable {β:Type}{Z:Zf β}{H:Hp}{p:Fe β}
theorem on {e f:Hv}{te:TE}(hL:H L=Fa (.lst us)) (he:PE X e te) (hv: ∀R:VK,R (.ref L) H->te σ H R) (q:Pe X f σ H λv H1=> ∃(Z:Zf β) (F':EV (Fk×V)) (b':Gg) (t':E2) (Xl:E6) (p':Fe β),vJ Z L/\us.length<FP/\RS (Z.mo L us) F' b' H1 t' Xl p'/\(∀H2,RS (Z.mo L (us++[v])) F' b' H2 t' Xl p'->Bd X ss D σ H2))
  (hb:Im e "append" X.env (eval e X.env)=eval e X.env:=by rfl) (Kd:Fy [f] X.env=[(FS,eval f X.env)]:=by rfl) (hp:ip p2 p4:=by rfl):
  Bd X (.Expr (.Call (.Attribute e "append" p2) [f] [] p4) p5::ss) D σ H:=by
 refine iJ he hv hL (q.mono λv H1 z=>?_) hb Kd hp;obtain⟨Z,F',b',t',Xl,p',N,h1,R',h2⟩:=z;exact#[us,R'.Qv,h1,h2 _ (R'.push N)]
theorem mQ {te:TE}(Y:RX X Z.a Z.E) (he:PE X e te) (hv: ∀Q:VK,Q (.str (sb u)) H->te (Fa (.ref Z.B.r)::σ) H Q) (R:RS Z F b H t K1 p) (hc:K1.values.contains u=FM) (hf:K2.funs=K1.funs) (hl:K2.values.length+1=K1.values.length) (hk: ∀v,K2.values.contains v=(!decide (v=u)&&K1.values.contains v))
  (q: ∀H',RS Z F b H' t K2 p->Bd X ss D (Fa (.ref Z.B.r)::σ) H') (hp:ip p2 p4:=by rfl) (Kd:Fy [e] X.env=[[001]]:=by rfl):
  Bd X (.Expr (.Call (.Attribute [005] "forget" p2) [e] [] p4) p5::ss) D (Fa (.ref Z.B.r)::σ) H:=by
 rw[00];obtain⟨dr,er⟩:=S.rd.ins;obtain⟨kk,k1,k2,k3⟩:=S.kn.vals;obtain⟨hu,S'⟩:=S.Xn hc hf hl hk k1;refine bE (Y.m1 Y.T.WO.c (pU Y.T) [01] aV S rfl #[_,he,hv _ #[Z.B.r,dr,Z.B.q,Z.B.kd,Z.B.fn,Z.B.ds,Z.B.bl,n,u,kk,Gc,er,k1,hu,?_]] hp Kd);exact q _ (R.go S' (eX (.inr (.inl rfl))) R.l R.w)
end
theorem amb (T:aU K mg a) (XC:XT K a) (IL:pH K a) (hk:8<=k)
  (G:T.W0.O P w base k (pQ a m λ_=>True)):
  T.Ws.O P w base (k+1) (j9 a m):=by
 refine ama T XC hk T.Ws.F ag6 λGF A outer s H β B L H0 Ro F b t Kn Bs d fu g Q E hr hd hm hf hB hc=>?_;intro X D Z Y R q;have lL:=R.lL;have room:=R.room;refine cE (Z:=Z.at t.length) Y aii R.at λH t1 R=>?_;have l1:t1.length+1<=t.length:=R.l;have R:=RS.back (Z:=Z) lL R;refine mj 2 Y R λLs H N R=>?_;refine fW Y.lv (BrI Z Ls F Kn (6-d) t.length g [Fa (.ref B.r),Fa (.int d),Fa (.ref Ls),FB]) _ #[[],Kn,Bs,B.bl.c,t1,fu,Gc,Gc,by show 0+t1.length<_;lia,hB,by lia,by lia,gU.nil,R] ?_;rintro mm σ H ⟨ps,K1,B1,c,t2,f,rfl,rfl,ul,hB1,hc1,hf1,lo,R⟩;obtain⟨f,rfl⟩: ∃f',f=f'+1:=#[f-1,by lia];have N': ∀ {c:EV (a8×V)},vJ { Z with B:=Z.B.bk c } Ls:=#[N.n0,N.nm,N.nx,N.nq];have len:((ps.map (·.2)).reverse:EV V).length=ps.length:=by rw[Gv,Fh]
 refine jk (dv (iT (Z:=Zf.mo { Z with B:=Z.B.bk c } Ls (ps.map (·.2)).reverse) Y R (kq _ _ _ _).bind λnb=>#[_,Gc,?_]));rw[cQ R.tok YH];cases hs:(Fp t2 == IU (EY "}")) with
 |false=>
  have R1:RS (Zf.mo { Z with B:=Z.B.bk c } Ls (ps.map (·.2)).reverse) (fkS ps F) FM H t2 K1 (KW f (6-d) K1 B1>>=λs=>JT f (6-d) s.2.1 s.2.2>>=λx=>g (BN (ps.map (·.1)).reverse (.cons s.1 x.1),x.2)):=by
   have:=R.asf (A6 hs);simp only[bind_assoc,pure_bind] at this;exact this
  refine cc (on (β:=β) R.Qv (pv 2) [05] #[_,Y.call2 #[G,hr,T.W0.c,Gc] (pv 1) [01] rfl,(B.bk c).more Ls (ps.map (·.2)).reverse,t2.length,H0,Ro,fkS ps F,FS,t2,K1,B1,d,f,_,Gc,hd,#[hm,G7],by lia,hB1,hc1,Do λs=>(kq f (6-d) s.2.1 s.2.2).bind,R1.at,λs v H' t' c' kn hB' Wt R2=>?_]);have l2:t'.length+1<=t2.length:=R2.l;have R2:=RS.back (Z:=Zf.mo { Z with B:=Z.B.bk c' } Ls (ps.map λx:GR×V=>x.2).reverse) (l:=t2.length) (by show t2.length<=L;have:t.length<=L:=lL;lia) R2;refine#[{ Z with B:=Z.B.bk c' },_,_,_,_,_,N',by rw[len];exact F9 (show ps.length<=4000 by lia) [01],R2,λH3 R3=>?_];refine ga #[_,l2,(s.1,v)::ps,s.2.1,s.2.2,c',t',f,Gc,Gc,(by rw[Fj];lia),hB',Wt,(by lia),?_,?_]
  ·rw[FC,GA]
   exact lo.snoc kn
  ·rw[FC,FC,GA,GA]
   simp only[rR];exact R3
 |true=>
  obtain⟨xp,r,rfl⟩:=wj R (beq_iff_eq.mp hs);refine bN (Bo (Z:=Zf.at (Zf.mo { Z with B:=Z.B.bk c } Ls (ps.map (·.2)).reverse) ((IU (EY "}"),xp)::r).length) Y YH (R.at.as (p':=Gq>>=λ_=>g (BN (ps.map (·.1)).reverse .nil,B1)) (bJ (zg hs))) λH t5 R=>?_);have l5:t5.length+1<=((IU (EY "}"),xp)::r).length:=R.l;have R:=RS.back (Z:=Zf.mo { Z with B:=Z.B.bk c } Ls (ps.map λx:GR×V=>x.2).reverse) (by show((IU (EY "}"),xp)::r).length<=L;have:t.length<=L:=lL;lia) R;have eK:K1=zr Kn (ps.map (·.1)).reverse:=by
   obtain⟨v1,f1⟩:=K1;unfold zr;rw[<-lo.vals,<-lo.funs]
  rw[eK] at R;generalize hss:(ps.map (·.1)).reverse=ss at R lo;generalize hus:(ps.map (·.2)).reverse=us at R len;refine jW 3 Y.lv Y.nd (pv 2) [05] (λi σ H=> ∃v:Fd V,σ=[Fa (.ref B.r),Fa (.int d),Fa (.ref Ls),v]/\RS (Zf.mo { Z with B:=Z.B.bk c } Ls us) (fkS ps F) FM H t5 (zr Kn (ss.drop i)) (g (BN ss .nil,B1))) #[FB,Gc,R] (λ_ _ _ _ ⟨_,_,R⟩=>R.Qv) ?_ ?_
  ·rintro i y σ H hi ⟨v,rfl,R⟩
   rw[<-hus] at hi;obtain⟨s,j,hs,hj⟩:=abp (F:=F) hi;rw[hss] at hs;have sa:a7 a (eU (Zf.mo { Z with B:=Z.B.bk c } Ls us).B) H s y:=R.f hj;obtain⟨C,ty,kit⟩:=IL.of sa;refine bH #[_,cZ (bv lD (by rfl) T.K7 Sa (aa (pv 3) (aa (ic (by rfl) T.Tu) ag))),_,_,_,_,Gc,ty,kit,_,Gc,?_];cases hl:lO s with
   |none=>
    rw[AF hs hl] at R;exact bN (cf #[_,Gc,R])
   |some x=>
    obtain⟨e1,rfl⟩:=z6 hl;obtain⟨h1,h2,h3⟩:=lo.drop hs;unfold a7 at sa;obtain⟨ue,⟨p,dx,rfl,mp,zp⟩,_⟩:=sa;exact cc (mQ (Z:=Zf.mo { Z with B:=Z.B.bk c } Ls us) Y (ah (pv 3) rfl) (λQ q=>#[p,_,dx,_,_,Gc,zp,T.Ry,T.N4,Gc,q]) (K2:=zr Kn (ss.drop (i+1))) R h1 rfl h2 h3 λH R=>cf (cf #[_,Gc,R]))
  ·rintro σ H ⟨v,rfl,R⟩
   have eL:us.length=ss.length:=by rw[len,<-hss,Gv,Fh]
   rw[eL,Qs] at R;have R1:=R.less N';refine aL #[_,pv 2,q (BN ss .nil,B1) (.ref Ls) H t5 c hB1 (by lia) ?_];have R2:RS { Z with B:=Z.B.bk c } F FM H t5 Kn (g (BN ss .nil,B1)):=by
    have:=R1.cut ps.length;rw[show(fkS ps F).drop ps.length=F from EV.drop_left' (by rw[Fh])] at this;exact this
   refine R2.and #[us,#[Ls,Gc,N.nm,R.Qv],?_];rw[<-hss,<-hus,<-GL (EV.reverse (ps.map (·.2)))];exact rN (F:=F) (by unfold bF;rfl) λe=>R1.f e
theorem Bj:cX "for" (EY "for"):=[007]
section
variable {K:E6}{β:Type}{g:An->Fe β}{a:IQ×HJ}
theorem abq (h1:Ff t "let"=FS) (h:Ff t "for"=FM):(KW (k+1) d K B>>=g) t=(Hh d>>=λn=>Gq>>=λ_=>Gz K>>=λx=>Hc "in">>=λ_=>FE k Hl K>>=λlo=>FX "..">>=λ_=>FE k Hl K>>=λhi=>
  FX "{">>=λ_=>JT k n (K.with x) B>>=λl=>g (.loop x lo hi l.1,K,l.2)) t:=by
 rw[aS (BZ h1 h)];simp only[bind_assoc,pure_bind]
theorem aiq (h1:Ff t "let"=FS) (h2:Ff t "for"=FS) (h:Ff t "if"=FM):(KW (k+1) d K B>>=g) t=(Hh d>>=λn=>Gq>>=λ_=>FE k Hl K>>=λc=>FX "{">>=λ_=>JT k n K B>>=λa=>kZ k n K c a>>=g) t:=by
 rw[aS (Eo h1 h2 h)];simp only[bind_assoc]
theorem xh (h:Ff t "else"=FS):(kZ k n K c a>>=g) t=g (.cond c a.1 .nil,K,a.2) t:=by
 unfold kZ;rw[bind_assoc];exact(bJ (x:=FS) (r:=t) (by unfold Xw;rw[E5 (by rw[h];exact EZ)])).trans rfl
theorem AI (h:Ff (x::r) "else"=FM):(kZ k n K c a>>=g) (x::r)=(Gq>>=λ_=>FX "{">>=λ_=>JT k n K a.2>>=λb=>g (.cond c a.1 b.1,K,b.2)) (x::r):=by
 unfold kZ;rw[bind_assoc];refine(bJ (x:=FM) (r:=r) (by unfold Xw;rw[E7 h];rfl)).trans ?_;rw[E7 rfl];simp only[bind_assoc,pure_bind]
 rfl
end
theorem air (T:aU K mg a) (XC:XT K a) (hk:8<=k) (G:oM P w K mg base a k)
  (G2:T.Ws.O P w base k (j9 a m)):
  T.W3.O P w base (k+1) (pQ a (m+1) λt=>Ff t "let"=FS/\Ff t "for"=FM):=by
 refine xK T XC hk T.W3.F ag9 (λ_=>rfl) λGF A outer s H β B L H0 Ro F b t Kn Bs d fu g Q E hr hd ho hf hB hc=>?_;intro X D Z en Y R q;have lL:=R.lL;have hm:Kn.values.length+(Z.at t.length).L<=4000:=R.room;obtain⟨dm,n1,n2⟩:=ho;obtain⟨xp,r,e⟩:=eY R (beq_iff_eq.mp n2);obtain⟨f,rfl⟩: ∃f,fu=f+1:=#[fu-1,by lia];have c:CB X "read_exp" ["reader","depth"] (aX a FM FE 12 (Lv 13)):=#[G,hr,T.Sn.c,Gc];have hF:16*(Z.at t.length).L+12<=f+16:=by show 16*t.length+12<=f+16;lia
 have R:=R.at.as (abq n1 n2);generalize hl:t.length=l at R lL hF hm hc hf
 have nb:Fp t≠ .bad:=by rw[e];intro z;cases z
 subst e;refine sI (Z:=Z.at l) 2 Y hd nb R λlt R=>?_;refine ir (Z:=Z.at l) Y Bj R λH t R=>?_;refine i4 (Z:=Z.at l) 3 Y R λu H t ft R=>?_;refine kN (Z:=Z.at l) Y YA R λH t R=>?_;refine eI (Z:=Z.at l) (d:=0) 4 Y c ak [05] R (oB λ_=>(bi "..").bind) (FI _) yK hF λe1 v1 H t R=>?_;refine cE (Z:=Z.at l) Y YB R λH t R=>?_;refine eI (Z:=Z.at l) (d:=0) 5 Y c ak [05] R (oB λ_=>(bi "{").bind) (FI _) yK hF λe2 v2 H t R=>?_;refine gH (Z:=Z.at l) Y (pv 3) [05] ft hm R λH R=>?_;have l7:t.length+1<=l:=R.l;refine aN 6 Y.nd #[_,Y.call2 #[G2,hr,T.Ws.c,Gc] (pv 2) [01] rfl,B,l,H0,Ro,_,_,t,Kn.with u,Bs,d+1,f,_,Gc,lt,by lia,by lia,hB,by lia,R,λx v3 H t c' hB' Wt R=>?_];refine lA (Z:=#[a,E,B.bk c',l,H0,Ro]) Y (pv 3) [05] ft R λH R=>?_;refine gW (Z:=#[a,E,B.bk c',l,H0,Ro]) Y (aaY T) (aa (pv 3) (aa (pv 4) (aa (pv 5) (aa (pv 6) ag)))) [05] R rfl λw H i R=>?_;have R:=RS.back (Z:=#[a,E,B.bk c',L,H0,Ro]) lL R;refine q (.loop u e1 e2 x.1,Kn,x.2) w H t c' rfl hB' Wt ((R.cut 3).and ?_);obtain⟨us,la,sa⟩:ot a (eU B) H x.1 v3:=R.f (i:=0) rfl;show a7 a (eU B) H (.loop u e1 e2 x.1) w;unfold a7;exact#[v1,v2,v3,us,i,R.f (i:=2) rfl,R.f (i:=1) rfl,la,sa]
theorem ais (T:aU K mg a) (XC:XT K a) (hk:8<=k) (G:oM P w K mg base a k)
  (G2:T.Ws.O P w base k (j9 a m)):
  T.W4.O P w base (k+1) (pQ a (m+1) λt=>Ff t "let"=FS/\Ff t "for"=FS/\Ff t "if"=FM):=by
 refine xK T XC hk T.W4.F aha (λ_=>rfl) λGF A outer s H β B L H0 Ro F b t Kn Bs d fu g Q E hr hd ho hf hB hc=>?_;intro X D Z en Y R q;have lL:=R.lL;obtain⟨dm,n1,n2,n3⟩:=ho;obtain⟨xp,r,e⟩:=eY R (beq_iff_eq.mp n3);obtain⟨f,rfl⟩: ∃f,fu=f+1:=#[fu-1,by lia];have c:CB X "read_exp" ["reader","depth"] (aX a FM FE 12 (Lv 13)):=#[G,hr,T.Sn.c,Gc];have hF:16*(Z.at t.length).L+12<=f+16:=by show 16*t.length+12<=f+16;lia
 have R:=R.at.as (aiq n1 n2 n3);generalize hl:t.length=l at R lL hF hc hf
 have nb:Fp t≠ .bad:=by rw[e];intro z;cases z
 subst e;refine sI (Z:=Z.at l) 2 Y hd nb R λlt R=>?_;refine ir (Z:=Z.at l) Y xG R λH t R=>?_;refine eI (Z:=Z.at l) (d:=0) 3 Y c ak [05] R (oB λ_=>(bi "{").bind) (FI _) yK hF λe1 v1 H t R=>?_;have l4:t.length+1<=l:=R.l;have cb:CB X "read_braces" ["reader","depth"] (j9 a m):=#[G2,hr,T.Ws.c,Gc];refine aN 4 Y.nd #[_,Y.call2 cb (pv 2) [01] rfl,B,l,H0,Ro,_,_,t,Kn,Bs,d+1,f,_,Gc,lt,by lia,by lia,hB,by lia,R,λx v3 H t c3 hB3 hc3 R=>?_];refine mj (Z:=#[a,E,B.bk c3,l,H0,Ro]) 5 Y R λLs H N R=>?_;have R:=(R.less N).and (e:=(.sts .nil, .ref Ls)) #[[],#[Ls,Gc,N.nm,R.Qv],by unfold bF;rfl];have l5:t.length+1<=l:=R.l;refine gc (λσ' H'=> ∃(y:IQ) (B5:HJ) (v5:V) (c5:EV (a8×V)) (t5:E2),σ'=[Fa (.ref B.r),Fa (.int d),Fa (.int ((d+1:Fm):Int)),Fa v1,Fa v3,Fa v5]/\Bk (B.bl.at_ c5) B5/\c5.length+t5.length<=4000/\RS #[a,E,B.bk c5,l,H0,Ro] ((.sts y,v5)::(.sts x.1,v3)::(.e e1,v1)::F) FM H' t5 Kn (g (.cond e1 x.1 y,Kn,B5))) ?_ ?_
 ·rintro σ H ⟨y,B5,v5,c5,t5,rfl,hB5,hc5,R⟩
  refine gW (Z:=#[a,E,B.bk c5,l,H0,Ro]) Y (ahn T) (aa (pv 3) (aa (pv 4) (aa (pv 5) ag))) [05] R rfl λw H i R=>?_;have R:=RS.back (Z:=#[a,E,B.bk c5,L,H0,Ro]) lL R;refine q (.cond e1 x.1 y,Kn,B5) w H t5 c5 rfl hB5 hc5 ((R.cut 3).and ?_);obtain⟨us,la,sa⟩:ot a (eU B) H x.1 v3:=R.f (i:=1) rfl;obtain⟨us5,la5,sa5⟩:ot a (eU B) H y v5:=R.f (i:=0) rfl;show a7 a (eU B) H (.cond e1 x.1 y) w;unfold a7;exact#[v1,v3,us,v5,us5,i,R.f (i:=2) rfl,la,sa,la5,sa5]
 ·refine dv (vA (Z:=#[a,E,B.bk c3,l,H0,Ro]) Y R (λb=>en _ t b (R.as (xh (cq b "else"))).w) (λnb e=>#[_,Gc,bN #[.nil,x.2, .ref Ls,c3,t,Gc,hB3,hc3,R.as (xh ((b4 R.tok qz).symm.trans e))]]) λ{y r} et e nb=>?_)
  subst et;have e:=(b4 R.tok qz).symm.trans e;obtain⟨y,yp⟩:=y;obtain rfl:y=_:=beq_iff_eq.mp e;refine#[YD,_,AI e,λH R=>#[_,Gc,cc (aN 5 Y.nd #[_,Y.call2 cb (pv 2) [01] rfl,B.bk c3,l,H0,Ro,_,_,r,Kn,x.2,d+1,f,_,Gc,lt,by lia,by rw[Fj] at l5;lia,hB3,by rw[Fj] at hc3;show c3.length+_<=_;lia,R.cut 1,λy v5 H t c5 hB5 hc5 R=>cf #[y.1,y.2,v5,c5,t,Gc,hB5,hc5,R]])]]
abbrev abr (P:FW) (w:Gx) (K:E1) (mg:FD->Fd E3) (base:GI) (a:bf) (k:Fm) (f:E4) (fd:Gb) (ok:E2->Prop):Prop:=bU P w K mg base (fY P w) k f fd ["reader"] (nU a (λ_=>[]) λ_ t=>ok t)
theorem ait (T:aU K mg a) (XC:XT K a) (hk:8<=k)
  (G1:abr P w K mg base a k a.f_Z a.aey λt=>Ff t "let"=FM)
  (G2:T.W3.O P w base k (pQ a m λt=>Ff t "let"=FS/\Ff t "for"=FM))
  (G3:T.W4.O P w base k (pQ a m λt=>Ff t "let"=FS/\Ff t "for"=FS/\Ff t "if"=FM))
  (G4:abr P w K mg base a k a.f_2 a.aeE λt=>Ff t "let"=FS/\Ff t "for"=FS/\Ff t "if"=FS/\Ff t "block"=FM)
  (G5:abr P w K mg base a k a.f_1 a.aeD λt=>Ff t "let"=FS/\Ff t "for"=FS/\Ff t "if"=FS/\Ff t "block"=FS):
  T.W0.O P w base (k+1) (pQ a m λ_=>True):=by
 refine xK T XC hk T.W0.F ag7 (λ_=>rfl) λGF A outer s H β B L H0 Ro F b t Kn Bs d fu g Q E hr hd ho hf hB hc=>?_;intro X D Z en Y R q;have see: ∀ {ss:EV Stmt}{A:EV Stmt}{s:String}{v:FD}{j:Fm}{p1 p2 p3 p4 p5:Pos}(lit:cX v (EY s)) (hp:ip p2 p4),(Ff t s=FM->Bd X A (D.to X ss) [Fa (.ref B.r),Fa (.int d)] H)->(Ff t s=FS->Bd X ss D [Fa (.ref B.r),Fa (.int d)] H)->Bd X (.If (.Call (.Attribute [005] "sees" p2) [.Constant (.str v) j p3] [] p4) A [] p5::ss) D [Fa (.ref B.r),Fa (.int d)] H:=λlit hp yes no=>
  bH (dv (iT (Z:=Z) Y R (lS _ _ _ _).bind (λnb=>#[_,Gc,by rw[b4 R.tok lit];exact aP yes no]) hp))
 refine see AH rfl (λe1=>aL (e7 Y #[G1,hr,T.d_Z.c,Gc] #[B,L,H0,Ro,F,b,t,Kn,Bs,d,fu,g,Gc,hd,e1,hf,hB,hc,en,R,q])) λe1=>?_;refine see Bj rfl (λe2=>aL #[_,Y.call2 #[G2,hr,T.W3.c,Gc] (pv 1) [01] rfl,B,L,H0,Ro,F,b,t,Kn,Bs,d,fu,g,Gc,hd,#[ho.1,e1,e2],hf,hB,hc,en,R,q]) λe2=>?_;refine see xG rfl (λe3=>aL #[_,Y.call2 #[G3,hr,T.W4.c,Gc] (pv 1) [01] rfl,B,L,H0,Ro,F,b,t,Kn,Bs,d,fu,g,Gc,hd,#[ho.1,e1,e2,e3],hf,hB,hc,en,R,q]) λe3=>?_;refine see rM rfl (λe4=>aL (e7 Y #[G4,hr,T.d_2.c,Gc] #[B,L,H0,Ro,F,b,t,Kn,Bs,d,fu,g,Gc,hd,#[e1,e2,e3,e4],hf,hB,hc,en,R,q])) λe4=>?_;exact aL (e7 Y #[G5,hr,T.d_1.c,Gc] #[B,L,H0,Ro,F,b,t,Kn,Bs,d,fu,g,Gc,hd,#[e1,e2,e3,e4],hf,hB,hc,en,R,q])
theorem tH {H:Hp}{Q:VK}{E:XK}(h:j9 a 0 vs H Q E):False:=by
 obtain⟨B,L,H0,Ro,F,b,t,Kn,Bs,d,f,g,e,hd,hm,_⟩:=h;lia
theorem yA (T:aU K mg a) (XC:XT K a) (IL:pH K a) (hk:8<=k) (G:oM P w K mg base a k): ∀m:Fm,
  T.Ws.O P w base (k+3+3*m) (j9 a m):=by
 intro m
 induction m with
 |zero=>exact fQ T.Ws.F ag6 (λ_ _ _ _ h=>(tH h).elim) (λ_ _ _ _ _ _ _ _ _ h=>(tH h).elim)
 |succ m ih=>
  have Pa: ∀ {v:FD}{s:String},cX v (EY s)->T.W5.O P w base (k+2) (gv a [.str v] (du s) 12 FM FM .e):=λl=>(abl l T XC hk G).mono (by lia)
  have Am:=aio T XC hk G
  have Le:=al7 T XC (by lia) (aik T XC hk G)
  have St:=al8 T XC (by lia) Pa (ail YI T XC (by lia) (abl YI T XC hk G))
  have Bl:=al9 T XC (by lia) Pa (ail rJ T XC (by lia) (abl rJ T XC hk G)) (Am.mono (by lia))
  have Fo:=air T XC (by lia) (G.mono (by lia:k<=k+3+3*m)) ih
  have If_:=ais T XC (by lia) (G.mono (by lia:k<=k+3+3*m)) ih
  have Sm:=ait T XC (by lia) (Le.mono (by lia)) Fo If_ (Bl.mono (by lia)) (St.mono (by lia))
  have:=amb T XC IL (by lia) Sm;exact this.mono (by lia)
theorem sV:cX "const" (EY "const"):=[007]
abbrev Rb.tp (B:Rb) (dc:EV (a8×V)) (bp:E4) (bc:EV (a8×V)):Rb:= { B with ds:=#[B.ds.p,dc,B.ds.x],bl:=#[bp,bc,B.bl.x] }
def Dl (B:Rb) (H:Hp):Prop:= ∀b,eU B b->H b=FB
inductive pj (a:bf) (ok:E2->Prop) (vs:EV V) (H:Hp) (Q:VK) (E:XK):Prop
 |mk {β:Type}(B:Rb) (L:Fm) (H0:Hp) (Ro:β->E2->Prop) (F:EV (Fk×V)) (b:Gg) (t:E2) (Kn:E6) (nf:Fm) (Ds:EV EW) (f:Fm) (g:g9->Fe β) (_:vs=[.ref B.r]) (_:ok t) (_:16*t.length<=f) (_:Bk B.ds Ds) (_:B.ds.c.length+t.length<=4000) (_:Kn.funs.length+nf=9) (_:Dl B H0) (_:RS ⟨a,E,B,L,H0,Ro⟩ F b H t Kn (ik f Kn nf Ds>>=g))
  (_: ∀x v H' t' dc bp bc,(∀u,has dc u=x.2.2.2.contains u)->dc.length+t'.length<=4000->x.2.1.funs.length+x.2.2.1=9->Dl (B.tp dc bp bc) H0->RS #[a,E,B.tp dc bp bc,L,H0,Ro] ((.top x.1,v)::F) FM H' t' x.2.1 (g x)->Q v H'):pj a ok vs H Q E
inductive EF (a:bf) (vs:EV V) (H:Hp) (Q:VK) (E:XK):Prop
 |mk {β:Type}(B:Rb) (L:Fm) (H0:Hp) (Ro:β->E2->Prop) (F:EV (Fk×V)) (b:Gg) (t:E2) (Kn Kf:E6) (Ih:EW) (g:EW->Fe β) (_:vs=[.ref B.r, .str (sb Ih)]) (_:cX (sb Ih) Ih) (_:Gp.contains Ih=FS) (_: ∀u,Kf.taken u=(decide (u=Ih)||Kn.taken u)) (_:RS ⟨a,E,B,L,H0,Ro⟩ F b H t Kn (Gz Kf>>=g))
  (_: ∀u H' t',Kn.values.contains u=FS->RS #[a,E,B,L,H0,Ro] F FM H' t' (Kn.with u) (g u)->Q (.str (sb u)) H'):EF a vs H Q E
section
variable {k m:Fm}{x GU:FD}{st:Stmt}{f:E4}{fd:Gb}{N:EV FD}{ok:E2->Prop}
theorem DK (T:aU K mg a) (XC:XT K a) (hk:8<=k) (F:oU K x GU st f fd) (S:az N ["reader"] (af st))
  (Jv: ∀(GF:E3) (A:GG) (outer:EV Env) (s:E8) (H:Hp) {β:Type}(B:Rb) (L:Fm) (H0:Hp) (Ro:β->E2->Prop) (F:EV (Fk×V)) (b:Gg) (t:E2) (Kn:E6) (nf:Fm) (Ds:EV EW) (fu:Fm) (g:g9->Fe β) (Q:VK) (E:XK),bX k (A.deeper (Jz GU (af st) s.heap.objs.size f GF))->ok t->16*t.length<=fu->Bk B.ds Ds->B.ds.c.length+t.length<=4000->Kn.funs.length+nf=9->Dl B H0->
   let X:=e8 (fY P w) P w K mg base N GU (af st) f GF A outer s H E
   let D:d8:= { nx:=λ_ H'=>Q .Iw H',rt:=Q }
   let Z:Zf β:=#[a,E,B,L,H0,Ro]
   RX X a E->RS Z F b H t Kn (ik fu Kn nf Ds>>=g)->(∀x v H' t' dc bp bc,(∀u,has dc u=x.2.2.2.contains u)->dc.length+t'.length<=4000->x.2.1.funs.length+x.2.2.1=9->Dl (B.tp dc bp bc) H0->RS #[a,E,B.tp dc bp bc,L,H0,Ro] ((.top x.1,v)::F) FM H' t' x.2.1 (g x)->Q v H')->Bd X (be st) D (L2.start N [.ref B.r]) H):bU P w K mg base (fY P w) (k+1) f fd ["reader"] (pj a ok):=by
 refine fQ F S [03] [02];obtain⟨B,L,H0,Ro,F,b,t,Kn,nf,Ds,fu,g,rfl,h1,h2,h3,h4,h5,h6,R,q⟩:=h;exact Jv GF A outer s H B L H0 Ro F b t Kn nf Ds fu g Q E hr h1 h2 h3 h4 h5 h6 (jU T XC hk S hr) R q
theorem amc (T:aU K mg a) (XC:XT K a) (hk:8<=k) (F:oU K x GU st f fd) (S:az N ["reader","function"] (af st))
  (Jv: ∀(GF:E3) (A:GG) (outer:EV Env) (s:E8) (H:Hp) {β:Type}(B:Rb) (L:Fm) (H0:Hp) (Ro:β->E2->Prop) (F:EV (Fk×V)) (b:Gg) (t:E2) (Kn Kf:E6) (Ih:EW) (g:EW->Fe β) (Q:VK) (E:XK),bX k (A.deeper (Jz GU (af st) s.heap.objs.size f GF))->cX (sb Ih) Ih->Gp.contains Ih=FS->(∀u,Kf.taken u=(decide (u=Ih)||Kn.taken u))->
   let X:=e8 (fY P w) P w K mg base N GU (af st) f GF A outer s H E
   let D:d8:= { nx:=λ_ H'=>Q .Iw H',rt:=Q }
   let Z:Zf β:=#[a,E,B,L,H0,Ro]
   RX X a E->RS Z F b H t Kn (Gz Kf>>=g)->(∀u H' t',Kn.values.contains u=FS->RS #[a,E,B,L,H0,Ro] F FM H' t' (Kn.with u) (g u)->Q (.str (sb u)) H')->Bd X (be st) D (L2.start N [.ref B.r, .str (sb Ih)]) H):bU P w K mg base (fY P w) (k+1) f fd ["reader","function"] (EF a):=by
 refine fQ F S [03] [02];obtain⟨B,L,H0,Ro,F,b,t,Kn,Kf,Ih,g,rfl,h1,h2,h3,R,q⟩:=h;exact Jv GF A outer s H B L H0 Ro F b t Kn Kf Ih g Q E hr h1 h2 h3 (jU T XC hk S hr) R q
end
section
variable {K:E6}{β:Type}{g:g9->Fe β}
theorem tq (h:Ff t "const"=FM):(ik k K n D>>=g) t=(Gq>>=λ_=>Gz K>>=λx=>dO k K>>=λe=>g (.const x e,K.with x,n,D)) t:=by
 rw[aS (show ik k K n D t=(Gq>>=λ_=>vz k K n D:Fe g9) t by unfold ik;rw[E7 h])];simp only[vz,dO,bind_assoc,pure_bind]
end
theorem aiu (T:aU K mg a) (XC:XT K a) (hk:8<=k) (G:T.XI.O P w base k (gv a [] dO 12 FS FM .e)):
  T.WX.O P w base (k+1) (pj a λt=>Ff t "const"=FM):=by
 refine DK T XC hk T.WX.F ag1 λGF A outer s H β B L H0 Ro F b t Kn nf Ds fu g Q E hr ho hf hB hc hn hN=>?_;intro X D Z Y R q;have lL:=R.lL;have hm:Kn.values.length+(Z.at t.length).L<=4000:=R.room;obtain⟨xp,r,rfl⟩:=eY R (beq_iff_eq.mp ho);have hF:16*(Z.at (((Hj (EY "const"),xp)::r).length)).L+12<=fu+16:=by show 16*((Hj (EY "const"),xp)::r).length+12<=fu+16;lia
 refine ir (Z:=Z.at _) Y sV (R.at.as (tq ho)) λH t R=>?_;refine i4 (Z:=Z.at _) 1 Y R λu H t ft R=>?_;refine my (Z:=Z.at _) 2 Y #[G,hr,T.XI.c,Gc] R hF λe v H t R=>?_;refine gH (Z:=Z.at _) Y (pv 1) [05] ft hm R λH R=>?_;refine gW (Z:=Z.at _) Y (Ck T) (aa (pv 1) (aa (pv 2) ag)) [05] R rfl λw H i R=>?_;have l:t.length+1<=r.length+1:=R.l;have R:=RS.back (Z:=Z) lL R;refine q (.const u e,Kn.with u,nf,Ds) w H t B.ds.c B.bl.p B.bl.c hB (by rw[Fj] at hc;lia) hn hN ((R.cut 1).and ?_);exact#[v,i,R.f (i:=0) rfl]
theorem aiv (T:aU K mg a) (XC:XT K a):T.ZR.O P w base 9 (EF a):=by
 refine amc T XC (k:=8) [01] T.ZR.F ag4 λGF A outer s H β B L H0 Ro F b t Kn Kf Ih g Q E hr lit U3 hK=>?_;intro X D Z Y R q;have lL:=R.lL;have hm:Kn.values.length+(Z.at t.length).L<=4000:=R.room;refine bH (dv (mn (Z:=Z) Y R (pv 1) [05] (λbd=>(fP Kf).bind.Lw bd R.w) λnb=>#[_,Gc,?_]));rw[b4 R.tok lit];refine aP (λe=>?_) λe=>?_
 ·obtain⟨xp,r,rfl⟩:=eY R (beq_iff_eq.mp e)
  refine bE (qU (Z:=Z) (i:=4) Y (aR (by rfl) T.OL) R nb ?_);rw[aS (q:=(Fx 4:Fe EW)) (by rw[eD U3,E7 (by rw[hK,Gy rfl];rfl)])]
  rfl
 ·have en:Gz Kf t=Gz Kn t:=by
   obtain⟨⟨x,xp⟩,r,rfl⟩:=R.cons;cases x with
   |word u=>
    cases RN:Gp.contains u with
    |true=>rw[iM RN,iM RN]
    |false=>
     have nf:decide (u=Ih)=FS:=FU λz=>by
      have e:(Hj u == Hj Ih)=FS:=e;rw[z,GN] at e;cases e
     rw[eD RN,eD RN,hK,nf];rfl
   |num m=>rfl
   |sign s=>rfl
   |eof=>rfl
   |bad=>rfl
  refine i4 (Z:=Z.at t.length) 2 Y (R.at.asf en) λu H t ft R=>?_;refine gH (Z:=Z.at _) Y (pv 2) [05] ft hm R λH R=>?_;exact aL (bC 2 (q u H t (jt ft) (RS.back (Z:=Z) lL R)))
def fH (f n:Fm) (K:E6):Fe (EV EW):=KC ",">>=λm=>(if m=FM then J4 f n K else(FX ")">>=λ_=>pure []))
section
variable {K:E6}{β:Type}{g:EV EW->Fe β}
theorem qf (hn:n≠0):(J4 (f+1) n K>>=g) t=(Gz K>>=λx=>fH f (n-1) (K.with x)>>=λl=>g (x::l)) t:=by
 rw[aS (xS hn),bind_assoc];have e: ∀x,((KC ",">>=λm=>(if m=FM then(J4 f (n-1) (K.with x)>>=λl=>pure (x::l)) else(FX ")">>=λ_=>pure [x])):Fe (EV EW))>>=g)=(fH f (n-1) (K.with x)>>=λl=>g (x::l)):=λx=>by
  unfold fH;rw[bind_assoc,bind_assoc]
  congr 1
  funext m
  cases m with
  |true=>rw[E7 rfl,E7 rfl,bind_assoc];simp only[pure_bind]
  |false=>rw[E5 EZ,E5 EZ,bind_assoc,bind_assoc];simp only[pure_bind]
 simp only[e]
theorem uw (no:FY t ","=FS):(fH f n K>>=g) t=(FX ")">>=λ_=>g []) t:=by
 unfold fH;rw[bind_assoc];refine(bJ (x:=FS) (r:=t) (by unfold KC;rw[E5 (by rw[no];exact EZ)])).trans ?_;rw[E5 EZ,bind_assoc];simp only[pure_bind]
theorem sW {x:Gs×Gh}(yes:FY (x::r) ","=FM):(fH f n K>>=g) (x::r)=(Gq>>=λ_=>J4 f n K>>=g) (x::r):=by
 unfold fH;rw[bind_assoc];refine(bJ (x:=FM) (r:=r) (by unfold KC;rw[E7 yes];rfl)).trans ?_;rw[E7 rfl]
 rfl
theorem n9 (f n:Fm) (K:E6):aK (fH f n K):=(lU ",").strict λm=>by
 cases m with
 |true=>
  rw[E7 rfl];exact ji f n K
 |false=>
  rw[E5 EZ];exact(bi ")").bind
end
theorem m7 {K:E6}{f u:EW} :(#[vs++f::K.values,K.funs]:E6).taken u=(decide (u=f)||(⟨vs++K.values,K.funs⟩:E6).taken u):=by
 unfold NU;rw[<-Gg.or_assoc]
 congr 1
 rw[GZ,Mh,F5,F8,F8,FK,FK,Fi];constructor
 ·rintro(h|h|h)
  ·exact .inr (.inl h)
  ·exact .inl h
  ·exact .inr (.inr h)
 ·rintro(h|h|h)
  ·exact .inr (.inl h)
  ·exact .inl h
  ·exact .inr (.inr h)
theorem eR {α β:Type}{g:α->Fe β}(t:E2):((Fx i:Fe α)>>=g) t=Fx i t:=rfl
section
variable {β:Type}{Z:Zf β}{H:Hp}{Q:VK}{p:Fe β}
theorem xc {e:Hv}{i:Fm}(Y:RX X Z.a Z.E) (he:PE X e (tC (.int i))) (R:RS Z F b H t Kn p) (h:p t=Fx i t) (hp:ip p2 p4:=by rfl) (Kd:Fy [e] X.env=[[001]]:=by rfl):
  Pe X (.Call (.Attribute [005] "fail" p2) [e] [] p4) (Fa (.ref Z.B.r)::σ) H Q:=by
 rw[00];obtain⟨⟨x,xp⟩,t',rfl,tok,QN,MJ,_⟩:=S.wh.first;refine Y.m1 Y.T.VS.c (fJ Y.T Y.C) [01] Y.up S rfl #[_,he,Z.B.r,Z.B.q,Z.B.kd,Z.B.fn,Z.B.ds,Z.B.bl,n,(x,xp),t',i,Gc,S.rd,?_] hp Kd;have w:=R.w;have w:=ahX (p':=Fx i) h w;rw[aba] at w;exact w H R.k
end
inductive abt (a:bf) (vs:EV V) (H:Hp) (Q:VK) (E:XK):Prop
 |mk {β:Type}(B:Rb) (L:Fm) (H0:Hp) (Ro:β->E2->Prop) (F:EV (Fk×V)) (b:Gg) (t:E2) (Kn:E6) (Ih:EW) (f:Fm) (g:EV EW->Fe β) (_:vs=[.ref B.r, .str (sb Ih)]) (_:cX (sb Ih) Ih) (_:Gp.contains Ih=FS) (_:t.length<f) (_:RS ⟨a,E,B,L,H0,Ro⟩ F b H t Kn (J4 f 6 (Kn.with Ih)>>=g))
  (_: ∀ps v H' t',ps.length<=6->ps.Nodup->(∀x∈ps,x∉Kn.values)->RS #[a,E,B,L,H0,Ro] ((.ps ps,v)::F) FM H' t' #[ps.reverse++Kn.values,Kn.funs] (FX ")">>=λ_=>g ps)->Q v H'):abt a vs H Q E
inductive PsI {β:Type}(Z:Zf β) (Ls:E4) (F:EV (Fk×V)) (Kn:E6) (Ih:EW) (g:EV EW->Fe β) (σ0:L2.St) (m:Fm) (σ:L2.St) (H:Hp):Prop
 |mk (ps:EV EW) (t:E2) (f:Fm) (_:m=t.length) (_:σ=σ0) (_:ps≠[]) (_:ps.length<=6) (_:ps.Nodup) (_: ∀x∈ps,x∉Kn.values) (_:t.length<f)
  (_:RS (Z.mo Ls (gL ps)) F FM H t #[ps.reverse++Kn.values,Kn.funs] (fH f (6-ps.length) #[ps.reverse++Ih::Kn.values,Kn.funs]>>=λl=>g (ps++l))):PsI Z Ls F Kn Ih g σ0 m σ H
section
variable {k m:Fm}{x GU:FD}{st:Stmt}{f:E4}{fd:Gb}{N:EV FD}
theorem amd (T:aU K mg a) (XC:XT K a) (hk:8<=k) (F:oU K x GU st f fd) (S:az N ["reader","function"] (af st))
  (Jv: ∀(GF:E3) (A:GG) (outer:EV Env) (s:E8) (H:Hp) {β:Type}(B:Rb) (L:Fm) (H0:Hp) (Ro:β->E2->Prop) (F:EV (Fk×V)) (b:Gg) (t:E2) (Kn:E6) (Ih:EW) (fu:Fm) (g:EV EW->Fe β) (Q:VK) (E:XK),bX k (A.deeper (Jz GU (af st) s.heap.objs.size f GF))->cX (sb Ih) Ih->Gp.contains Ih=FS->t.length<fu->
   let X:=e8 (fY P w) P w K mg base N GU (af st) f GF A outer s H E
   let D:d8:= { nx:=λ_ H'=>Q .Iw H',rt:=Q }
   let Z:Zf β:=#[a,E,B,L,H0,Ro]
   RX X a E->RS Z F b H t Kn (J4 fu 6 (Kn.with Ih)>>=g)->(∀ps v H' t',ps.length<=6->ps.Nodup->(∀x∈ps,x∉Kn.values)->RS ⟨a,E,B,L,H0,Ro⟩ ((.ps ps,v)::F) FM H' t' ⟨ps.reverse++Kn.values,Kn.funs⟩ (FX ")">>=λ_=>g ps)->Q v H')->Bd X (be st) D (L2.start N [.ref B.r, .str (sb Ih)]) H):bU P w K mg base (fY P w) (k+1) f fd ["reader","function"] (abt a):=by
 refine fQ F S [03] [02];obtain⟨B,L,H0,Ro,F,b,t,Kn,Ih,fu,g,rfl,h1,h2,h3,R,q⟩:=h;exact Jv GF A outer s H B L H0 Ro F b t Kn Ih fu g Q E hr h1 h2 h3 (jU T XC hk S hr) R q
theorem aiw (T:aU K mg a) (XC:XT K a):T.ZQ.O P w base 10 (abt a):=by
 refine amd T XC (k:=9) [01] T.ZQ.F ag3 λGF A outer s H β B L H0 Ro F b t Kn Ih fu g Q E hr lit U3 hf=>?_;intro X D Z Y R q;have lL:=R.lL;have one: ∀ {σ:L2.St}{H:Hp}{Q:VK}{p1 p2 p3 p4:Pos},EF a [.ref B.r, .str (sb Ih)] H Q E->Pe X (.Call (.Name "read_parameter" p1) [.Name "reader" p2, .Name "function" p3] [] p4) (Fa (.ref B.r)::Fa (.str (sb Ih))::σ) H Q:=λh=>#[_,aJ (aiv T XC) hr (by rfl) T.ZR.c Y.up (aa Y.rd (aa (pv 1) ag)),h]
 obtain⟨f,rfl⟩: ∃f,fu=f+1:=#[fu-1,by lia];refine aN 2 Y.nd (uC (aO (one #[B,t.length,H0,Ro,F,FS,t,Kn,Kn.with Ih,Ih,_,Gc,lit,U3,λu=>m7 (vs:=[]),R.at.as (qf [01]),λu H t1 fv R=>cH #[by show 1<=FP;decide,λLs hL=>?_]])));have l1:t1.length+1<=t.length:=R.l;have R:=RS.back (Z:=Z) lL R;have N:=R.nwl hL;have fr: ∀ {vs:EV EW}{u:EW},vs.contains u=FS->u∉vs:=λh z=>by rw[F8.mpr z] at h;cases h
 refine fW Y.lv (PsI Z Ls F Kn Ih g [Fa (.ref B.r),Fa (.str (sb Ih)),Fa (.ref Ls)]) _ #[[u],t1,f,Gc,Gc,EV.cons_ne_nil _ _,(by show 1<=6;decide),F6.mpr #[Hs,MK],λx hx=>by rw[Fz.mp hx];exact fr fv,by lia,R.more hL] ?_;rintro mm σ H ⟨ps,t,f,rfl,rfl,pne,p6,pnd,pfr,hf1,R⟩;have lL:=R.lL;have sl:(gL ps).length=ps.length:=Fh ..;refine dv (vA (Z:=(Zf.mo Z Ls (gL ps)).at t.length) Y R.at (λb=>(n9 _ _ _).bind.Lw b R.w) (λnb e=>#[_,Gc,bN ?_]) λ{x r} et e nb=>?_)
 ·have R:=R.as (uw ((cQ R.tok xg).symm.trans e))
  rw[GL] at R;exact aL (bC 2 (q ps (.ref Ls) H t p6 pnd pfr ((R.less N).and #[Ls,Gc,N.nm,R.Qv])))
 ·subst et
  have e:=(cQ R.tok xg).symm.trans e;obtain⟨x,xp⟩:=x;obtain rfl:x=_:=beq_iff_eq.mp e;refine#[nfS,_,sW e,λH R=>#[_,Gc,cc ?_]]
  have l5:r.length+1<=_:=R.l;obtain⟨f,rfl⟩: ∃f',f=f'+1:=#[f-1,by lia]
  have hLs:H Ls=Fa (.lst (gL ps)):=RS.Qv (Z:=Z.at ((IU (EY ","),xp)::r).length) (L:=Ls) (us:=gL ps) R;refine bH (cR b8 (iA T.JW hLs (pv 2) [05] #[_,aR (by rfl) T.Pf,Gc,_,Gc,?_]));rw[cj,sl];refine aP (λe=>?_) λe=>?_
  ·have p6':ps.length=6:=by have:=FN e;lia
   exact bE (xc (Z:=(Zf.mo Z Ls (gL ps)).at _) (i:=7) Y (aR (by rfl) T.QJ) R ((aS (q:=(Fx 7:Fe (EV EW))) (uW (by lia))).trans (eR _)))
  ·have p5:ps.length<6:=by have:=FR e;lia
   refine on (β:=β) hLs (pv 2) [05] (one #[B.more Ls (gL ps),_,H0,Ro,F,FM,r,_,_,Ih,_,Gc,lit,U3,λu=>m7,R.as (qf (by lia)),λu H t5 fv R=>?_]);have l6:t5.length+1<=_:=R.l;have R:=RS.back (Z:=Zf.mo Z Ls (gL ps)) lL R;refine#[Z,_,_,_,_,_,N,F9 (show(gL ps).length<=6 by rw[sl];exact p6) [01],R,λH R=>?_];have ns:gL ps++[V.str (sb u)]=gL (ps++[u]):=by unfold gL;rw[GS];rfl
   rw[ns] at R;have nu:=fr fv;have er: ∀(V:EV EW),(ps++[u]).reverse++V=u::(ps.reverse++V):=λV=>by rw[UE];rfl
   refine ga #[_,l6,ps++[u],t5,f,Gc,Gc,(λz=>by rw[SK] at z;exact nomatch z.2),by rw[Ft,Jm];lia,?_,λx hx z=>?_,by lia,?_]
   ·rw[Ld]
    refine#[pnd,F6.mpr #[Hs,MK],λx hx y hy z=>?_];rw[Fz.mp hy] at z;exact nu (FK.mpr (.inl (JL.mpr (by rw[<-z];exact hx))))
   ·rcases FK.mp hx with hx|hx
    ·exact pfr x hx z
    ·rw[Fz.mp hx] at z
     exact nu (FK.mpr (.inr z))
   ·rw[er,er,Ft,Jm]
    have e2: ∀l,g (ps++[u]++l)=g (ps++u::l):=λl=>by rw[Gr];rfl
    simp only[e2];exact R
end
theorem AQ:cX "fun" (EY "fun"):=[007]
theorem fo.TY {a:bf}{H:Hp}{n:Fm}{t:E2}{K1 K2:E6}(S:fo a B H n t K1) (hc: ∀u,K2.values.contains u=K1.values.contains u) (hl:K2.values.length=K1.values.length) (hf:K2.funs=K1.funs):fo a B H n t K2:=by
 obtain⟨kk,k1,k2,k3⟩:=S.kn.vals;obtain⟨ff,f1,f2⟩:=S.kn.funs;refine#[S.rd,S.wh,#[#[kk,k1,by rw[hl];exact k2,λu=>by rw[hc];exact k3 u],#[ff,f1,by rw[hf];exact f2],by rw[hl];exact S.kn.len,#[ff,f1,by rw[hf];exact S.kn.fl f1]],S.SI,S.R8,S.PL,S.fr]
theorem Ap {aD:EV (a8×V)}{j:a8}{v:V}(h:bO aD j=FB):(dy aD j v).length=aD.length+1:=by
 unfold dy;rw[E5,Ft]
 ·rfl
 ·intro z
  rw[LL] at z;obtain⟨p,hp,e⟩:=z;have:(bO aD j).isSome=FM:=by
   unfold bO;rw[HR,Na];exact#[p,hp,e]
  rw[h] at this;cases this
theorem fo.HN {a:bf}{H:Hp}{B:Rb}{n:Fm}{t:E2}{Kn:E6}{x:EW}{c:Fm}{ff:EV (a8×V)}(S:fo a B H n t Kn) (hx:Kn.taken x=FS) (e:H B.fn=Fa (.dK ff)):
  fo a B (aF H B.fn (.dK (dy ff (nk x) (.int (c:Fm))))) n t { Kn with funs:=(x,c)::Kn.funs } :=by
 obtain⟨dr,er⟩:=S.rd.ins;obtain⟨as,all,h1,h2,h3⟩:=S.rd.toks;obtain⟨kk,k1,k2,k3⟩:=S.kn.vals;obtain⟨ff',f1,f2⟩:=S.kn.funs;have hy:=S.SI;have hz:=S.R8;have fl:=S.kn.fl e;obtain rfl:ff'=ff:=by rw[e] at f1;cases f1;rfl
 obtain⟨d1,d2,d3,d4,d5,d6⟩:=S.PL;have nr:B.r≠B.fn:=λw=>by rw[w,e] at er;cases er
 have nq:B.q≠B.fn:=λw=>by rw[w,e] at h1;cases h1
 unfold NU at hx;rw[LZ] at hx;have none_:bO ff' (nk x)=FB:=by
  rw[f2];have:Kn.funs.find? (λf=>f.1 == x)=FB:=by
   rw[Pk];intro y hy z;have:=hx.2;rw[Vt] at this;exact this y hy z
  rw[this]
  rfl
 refine#[#[#[dr,by rw[ac nr];exact er],as,all,by rw[ac nq];exact h1,Paired.Np h2 λb x ⟨dx,ex⟩=>#[dx,?_],h3],S.wh,#[#[kk,by rw[ac d1];exact k1,k2,k3],#[_,ae,λu=>?_],S.kn.len,#[_,ae,?_]],(by rw[ac d4.symm];exact hy),(by rw[ac d5.symm];exact hz),S.PL,λb xs h=>?_]
 ·rw[ac λw=>by rw[w,e] at ex;cases ex]
  exact ex
 ·rw[gE,G6]
  by_cases w:u=x
  ·rw[E7 (by rw[w]),w,show((x,c).1 == x)=FM from GN x]
   rfl
  ·rw[E5 λz=>w (ee (Jt z)),show((x,c).1 == u)=FS from beq_eq_false_iff_ne.mpr (Iu w)]
   exact f2 u
 ·rw[Ap none_,fl]
  rfl
 ·have e2:=S.fr b xs h
  rw[ac λw=>by rw[w,e] at e2;cases e2];exact e2
theorem uF:gG X (.builtin "len") (λxs H Q=> ∃a aD,xs=[V.ref a]/\Di X.prog X.w X.K a aD/\Q (.int aD.length) H):=by
 intro pins s σ H xs us Q I r h;obtain⟨a,aD,rfl,kd,q⟩:=h;obtain⟨u,rfl,ru⟩:=mM r;cases ru;obtain⟨vs,dd,rel⟩:=kd.at_;have z:=kd.len;refine call_len_dict kd.no (dd _ I.Nq) (by rw[<-rel.length];rw[HP] at z;lia) ?_;rw[<-rel.length];exact#[.int aD.length,H,I.tok _,#[_,Gc],q]
theorem b5.is {M:E4->Prop}{H:Hp}(h:b5 M H us (.ref L)):H L=Fa (.lst us):=by
 obtain⟨p,e,_,h⟩:=h;cases e;exact h
section
variable {β:Type}{Z:Zf β}{H:Hp}{p:Fe β}
theorem RS.TY (R:RS Z F b H t Kn p) (hc: ∀u,K2.values.contains u=Kn.values.contains u) (hl:K2.values.length=Kn.values.length) (hf:K2.funs=Kn.funs):RS Z F b H t K2 p:=by
 rw[00];exact R.go (S.TY hc hl hf) db.refl R.l R.w
theorem RS.HN (R:RS Z F b H t Kn p) (hx:Kn.taken x=FS) (e:H Z.B.fn=Fa (.dK ff)):RS Z F b (aF H Z.B.fn (.dK (dy ff (nk x) (.int (c:Fm))))) t { Kn with funs:=(x,c)::Kn.funs } p:=by
 rw[00];exact R.go (S.HN hx e) (eX (.inr (.inr (.inl rfl)))) R.l R.w
end
section
variable {K:E6}{β:Type}{g:g9->Fe β}
def ke (k n:Fm) (K:E6) (D:EV EW) (g:g9->Fe β) (x:EW) (ps:EV EW):Fe β:=dO k { K with values:=ps++K.values } >>=λe=>g (.func x ps e,{ K with funs:=(x,ps.length)::K.funs },n-1,D)
def lG (k n:Fm) (K:E6) (D:EV EW) (g:g9->Fe β) (x:EW):Fe β:=KC ")">>=λm=>(if m=FM then Vbemac.give [] else J4 k 6 (K.with x))>>=λps=>ke k n K D g x ps
theorem CT (h1:Ff t "const"=FS) (h2:Ff t "fun"=FM) (hn:n≠0):(ik k K n D>>=g) t=(Gq>>=λ_=>Gz K>>=λx=>FX "(">>=λ_=>lG k n K D g x) t:=by
 rw[aS (show ik k K n D t=(Gq>>=λ_=>abj k K n D:Fe g9) t by unfold ik;rw[E5 (by rw[h1];exact EZ),E7 h2,E5 hn])];unfold abj lG;simp only[ke,dO,bind_assoc,pure_bind]
 rfl
theorem wb (h1:Ff t "const"=FS) (h2:Ff t "fun"=FM) (hn:n=0):(ik k K n D>>=g) t=Fx 7 t:=
 (aS (q:=(Fx 7:Fe g9)) (by unfold ik;rw[E5 (by rw[h1];exact EZ),E7 h2,E7 hn])).trans (eR t)
theorem qy:aK (ke k n K D g x ps):=(bi "=").bind.bind
theorem qZ:aK (lG k n K D g x):=(lU ")").strict λm=>by
 cases m with
 |true=>rw[E7 rfl];exact qy
 |false=>rw[E5 EZ];exact(ji _ _ _).bind
theorem Ah (h:FY t ")"=FM):lG k n K D g x t=(FX ")">>=λ_=>ke k n K D g x []) t:=by
 unfold lG;refine(bJ (x:=FM) (r:=t.drop 1) (by unfold KC;rw[E7 h])).trans ?_;rw[E7 rfl];refine Eq.trans (b:=ke k n K D g x [] (t.drop 1)) rfl ?_;exact(bJ (p:=FX ")") (g:=λ_=>ke k n K D g x []) (x:=()) (r:=t.drop 1) (by unfold FX;rw[E7 h])).symm
theorem yU (h:FY t ")"=FS):lG k n K D g x t=(J4 k 6 (K.with x)>>=ke k n K D g x) t:=by
 unfold lG;refine(bJ (x:=FS) (r:=t) (by unfold KC;rw[E5 (by rw[h];exact EZ)])).trans ?_;rw[E5 EZ]
end
theorem vb {ps V:EV EW}{i:Fm}{x:EW}(h:ps[i]?=Fa x) (nd:ps.Nodup) (fr: ∀x∈ps,x∉V):(ps.drop i++V).contains x=FM/\(ps.drop (i+1)++V).length+1=(ps.drop i++V).length/\ ∀v,(ps.drop (i+1)++V).contains v=(!decide (v=x)&&(ps.drop i++V).contains v):=by
 have ed:ps.drop i=x::ps.drop (i+1):=by
  obtain⟨h,e⟩:=FZ.mp h;rw[<-e];exact Hd h
 have sub:(x::ps.drop (i+1)).Sublist ps:=by
  rw[<-ed];exact VA i ps
 have nin:=(F6.mp (sub.nodup nd)).1
 have nV:=fr x (sub.subset (Fb ..));rw[ed];refine#[F8.mpr (Fb ..),Gc,λz=>?_]
 rw[Wc,Gn];by_cases e:z=x
 ·subst e
  rw[Gy rfl];show _=FS;rw[Vz];intro w;rcases FK.mp (F8.mp w) with w|w
  ·exact nin w
  ·exact nV w
 ·rw[FU e,show(z == x)=FS from beq_eq_false_iff_ne.mpr e]
  rfl
theorem aix (T:aU K mg a) (XC:XT K a) (kF:Di P w K a.GY dj) (hk:10<=k) (G:T.XI.O P w base k (gv a [] dO 12 FS FM .e)):
  T.WY.O P w base (k+1) (pj a λt=>Ff t "const"=FS/\Ff t "fun"=FM):=by
 refine DK T XC (by lia) T.WY.F ag2 λGF A outer s H β B L H0 Ro F b t Kn nf Ds fu g Q E hr ho hf hB hc hn hN=>?_;intro X D Z Y R q;have lL:=R.lL;obtain⟨n1,n2⟩:=ho;obtain⟨xp,r,ex⟩:=eY R (beq_iff_eq.mp n2);have hF:16*(Z.at t.length).L+12<=fu+16:=by show 16*t.length+12<=fu+16;lia
 rw[00];obtain⟨dr,er⟩:=S.rd.ins;obtain⟨ff,f1,_⟩:=S.kn.funs;have fl:=S.kn.fl f1;refine bH #[_,a9 b8 (bv zD (by rfl) T.JW Hr (aa [08] ag)) (bW dP (bv uF (by rfl) T.JW Hr (aa (ic (by rfl) T.MT) ag)) (aR (by rfl) T.PK)) (aM _),B.r,_,dr,_,_,Gc,er,T.FV,T.Iy,Gc,B.fn,ff,Gc,f1,a.GY,dj,Gc,kF,_,_,Gc,Gc,Gc,_,Gc,?_];rw[cj];refine aP (λe=>?_) λe=>?_
 ·have e:(ff.length:Int)=3+6:=FN e
  exact bE (xc (Z:=Z) (i:=7) Y (aR (by rfl) T.QJ) R (wb n1 n2 (by lia)))
 have n0:nf≠0:=λz=>FR e (by show(ff.length:Int)=3+6;lia)
 have R:=R.at.as (CT n1 n2 n0);generalize hl:t.length=l at R lL hF hc hf;subst ex;refine ir (Z:=Z.at l) Y AQ R λH t R=>?_
 refine sx (Z:=Z.at l) 1 Y R λu H t lit U3 ft R=>?_;refine cE (Z:=Z.at l) Y yc R λH t R=>?_;refine mj (Z:=Z.at l) 2 Y R λLs H N R=>?_;have R:=(R.less N).and (e:=(.ps [], .ref Ls)) #[Ls,Gc,N.nm,R.Qv];have l5:t.length+1<=l:=R.l;refine gc (λσ' H'=> ∃(ps:EV EW) (v:V) (t:E2),σ'=[Fa (.ref B.r),Fa (.str (sb u)),Fa v,FB,FB]/\ps.length<=6/\ps.Nodup/\(∀x∈ps,x∉Kn.values)/\RS (Z.at l) ((.ps ps,v)::F) FM H' t #[ps.reverse++Kn.values,Kn.funs] (FX ")">>=λ_=>ke fu nf Kn Ds g u ps)) ?_ ?_
 ·rintro σ H ⟨ps,v,t,rfl,p6,pnd,pfr,R⟩
  refine cE (Z:=Z.at l) Y vM R λH t R=>?_;have R:=R.TY (K2:= { Kn with values:=ps++Kn.values }) (λv=>by
   rw[GZ,F8,F8,FK,FK,JL]) (by
   show(ps++Kn.values).length=(ps.reverse++Kn.values).length
   rw[Ft,Ft,Gv]) rfl
  refine my (Z:=Z.at l) 3 Y #[G,hr,T.XI.c,Gc] R hF λe v3 H t R=>?_;obtain⟨Lp,rfl,nLp,hLp⟩:b5 (eU B) H (gL ps) v:=R.f (i:=1) rfl;refine jW 4 Y.lv Y.nd (pv 2) [05] (λi σ H=> ∃y:Fd V,σ=[Fa (.ref B.r),Fa (.str (sb u)),Fa (.ref Lp),Fa v3,y]/\RS (Z.at l) ((.e e,v3)::(.ps ps, .ref Lp)::F) FM H t { Kn with values:=ps.drop i++Kn.values } (g (.func u ps e,{ Kn with funs:=(u,ps.length)::Kn.funs },nf-1,Ds))) #[FB,Gc,R] (λ_ _ _ _ ⟨_,_,R⟩=>b5.is (R.f (i:=1) rfl)) ?_ ?_
  ·rintro i y σ H hi ⟨y0,rfl,R⟩
   unfold gL at hi;rw[Gf] at hi;obtain⟨x,hx,rfl⟩:=F4.mp hi;obtain⟨h1,h2,h3⟩:=vb hx pnd pfr;exact mQ (Z:=Z.at l) (K2:= { Kn with values:=ps.drop (i+1)++Kn.values }) Y (pv 4) [05] R h1 rfl h2 h3 λH R=>cf #[_,Gc,R]
  ·rintro σ H ⟨y0,rfl,R⟩
   have sl:(gL ps).length=ps.length:=Fh ..;rw[sl,Qs] at R
   have R:RS (Z.at l) _ FM H t Kn _:=R;rw[00];obtain⟨dr,er⟩:=S.rd.ins;obtain⟨gg,g1,_⟩:=S.kn.funs
   have gl:=S.kn.fl g1;refine aQ (hZ (dn hr) [08] (pv 1) (bv bB (by rfl) T.JW Hr (aa (pv 2) ag)) rfl) #[_,_,Gc, .inl (cC.of (b5.is (R.f (i:=1) rfl))),B.r,_,dr,_,_,Gc,er,T.FV,T.Iy,Gc,B.fn,_,Gc, .inl #[gg,nk u,g1,Gc,F9 (show gg.length<=9 by lia) [01],Gc],?_]
   have R:=R.HN (x:=u) (c:=(gL ps).length) ft g1;rw[sl] at R ⊢;refine gW (Z:=Z.at l) Y (aaZ T) (aa (pv 1) (aa (pv 2) (aa (pv 3) ag))) [05] R rfl λw H i R=>?_
   have l9:t.length+1<=l:=R.l
   have R:=RS.back (Z:=Z) lL R;refine q (.func u ps e,{ Kn with funs:=(u,ps.length)::Kn.funs },nf-1,Ds) w H t B.ds.c B.bl.p B.bl.c hB (by lia) (by show Kn.funs.length+1+(nf-1)=9;lia) hN ((R.cut 2).and ?_);exact#[.ref Lp,v3,i,R.f (i:=1) rfl,R.f (i:=0) rfl]
 ·refine jk (dv (iT (Z:=Z.at l) Y R qZ λnb=>#[_,Gc,?_]))
  rw[cQ R.tok vM];cases hs:(Fp t == IU (EY ")")) with
  |true=>exact bN #[[], .ref Ls,t,Gc,FI _,MK,(λ_ z=>nomatch z),R.as (Ah hs)]
  |false=>exact cc (aN 2 Y.nd #[_,aJ (aiw T XC) (hr.mono hk) (by rfl) T.ZQ.c Y.up (aa Y.rd (aa (pv 1) ag)),B,l,H0,Ro,F,FM,t,Kn,u,fu,_,Gc,lit,U3,by lia,(R.as (yU hs)).cut 1,λps v H t p6 pnd pfr R=>cf #[ps,v,t,Gc,p6,pnd,pfr,R]])
theorem DH:cX "desk" (EY "desk"):=[007]
theorem gR {α:Type}{o:Fd α}{x:α}(h1:o=FB) (h2:o=Fa x):False:=nomatch h1.symm.trans h2
theorem YJ {b:Gg}(h:b=FS): ¬b=FM:=λz=>EZ (h.symm.trans z)
abbrev Rb.nb (B:Rb) (nb:E4):Rb:= { B with bl:=#[nb,[],B.bl.x] }
abbrev Rb.dk (B:Rb) (c:EV (a8×V)):Rb:= { B with ds:=#[B.ds.p,c,B.ds.x] }
theorem fo.abu {a:bf}{H:Hp}{B:Rb}{n:Fm}{t:E2}{Kn:E6}{nb:E4}(S:fo a B H n t Kn) (U4:H nb=FB) {dr:E4}(er:H B.r=Fa (.ins a.Gm dr (rD B.q B.kd B.fn B.ds.p B.bl.p n))):
  fo a (B.nb nb) (aF (aF H nb (.dK [])) B.r (.ins a.Gm dr (rD B.q B.kd B.fn B.ds.p nb n))) n t Kn/\db (eU B) H (aF (aF H nb (.dK [])) B.r (.ins a.Gm dr (rD B.q B.kd B.fn B.ds.p nb n))):=by
 obtain⟨as,all,h1,h2,h3⟩:=S.rd.toks;obtain⟨kk,k1,k2,k3⟩:=S.kn.vals;obtain⟨ff,f1,f2⟩:=S.kn.funs;have hy:=S.SI;obtain⟨d1,d2,d3,d4,d5,d6⟩:=S.PL;have old: ∀ {b:E4}{o:HO},H b=Fa o->b≠B.r->aF (aF H nb (.dK [])) B.r (.ins a.Gm dr (rD B.q B.kd B.fn B.ds.p nb n)) b=Fa o:=λe w=>by
  rw[ac w,ac (aj e U4)];exact e
 have nir: ∀ {b:E4}{o:HO},H b=Fa o->(∀C dx fs,o≠ .ins C dx fs)->b≠B.r:=λe no w=>by
  rw[w,er] at e;exact no _ _ _ (Fs e).symm
 have nbr:nb≠B.r:=(aj er U4).symm
 have ame: ∀ {b:E4}{x:Gs×Gh},fV a.IY H b x->b≠B.r:=λ{b x} ⟨dx,ex⟩ w=>by
  rw[w,er] at ex;have:=Ga (λo:HO=>match o with| .ins _ _ fs=>fs.length|_=>0) (Fs ex)
  exact Fv this (by show¬(6=4);decide)
 refine#[#[#[#[dr,ae],as,all,old h1 (nir h1 λ_ _ _ z=>nomatch z),Paired.Np h2 λb x h=>?_,h3],S.wh,#[#[kk,old k1 (nir k1 λ_ _ _ z=>nomatch z),k2,k3],#[ff,old f1 (nir f1 λ_ _ _ z=>nomatch z),f2],S.kn.len,#[ff,old f1 (nir f1 λ_ _ _ z=>nomatch z),S.kn.fl f1]],old hy (nir hy λ_ _ _ z=>nomatch z),by show aF (aF H nb (.dK [])) B.r _ nb=Fa (.dK []);rw[ac nbr];exact ae,#[d1,d2,aj k1 U4,d4,aj f1 U4,aj hy U4],λb xs h=>?_],λb o e m=>old e λz=>m (.inl z)]
 ·have w:=ame h
  obtain⟨dx,ex⟩:=h;exact#[dx,old ex w]
 ·have e2:=S.fr b xs h
  exact old e2 (nir e2 λ_ _ _ z=>nomatch z)
theorem sO {q kd fn ds bl nb:E4}{n:Fm} :HN "blocks" (.ref nb) (rD q kd fn ds bl n)=rD q kd fn ds nb n:=by
 unfold rD;simp only[HN]
 rfl
theorem fo.putD {a:bf}{H:Hp}{B:Rb}{n:Fm}{t:E2}{Kn:E6}(S:fo a B H n t Kn):fo a (B.dk c) (aF H B.ds.p (.dK c)) n t Kn:=by
 obtain⟨dr,er⟩:=S.rd.ins;obtain⟨as,all,h1,h2,h3⟩:=S.rd.toks;obtain⟨kk,k1,k2,k3⟩:=S.kn.vals;obtain⟨ff,f1,f2⟩:=S.kn.funs;have hy:=S.R8;have e:=S.SI;obtain⟨d1,d2,d3,d4,d5,d6⟩:=S.PL;have nr:B.r≠B.ds.p:=λw=>by rw[w,e] at er;cases er
 have nq:B.q≠B.ds.p:=λw=>by rw[w,e] at h1;cases h1
 refine#[#[#[dr,(by show aF H B.ds.p (.dK c) B.r=_;rw[ac nr];exact er)],as,all,(by show aF H B.ds.p (.dK c) B.q=_;rw[ac nq];exact h1),Paired.Np h2 λb x ⟨dx,ex⟩=>#[dx,?_],h3],S.wh,#[#[kk,(by show aF H B.ds.p (.dK c) B.kd=_;rw[ac d2];exact k1),k2,k3],#[ff,(by show aF H B.ds.p (.dK c) B.fn=_;rw[ac d4];exact f1),f2],S.kn.len,#[ff,(by show aF H B.ds.p (.dK c) B.fn=_;rw[ac d4];exact f1),S.kn.fl f1]],ae,(by show aF H B.ds.p (.dK c) B.bl.p=_;rw[ac d6.symm];exact hy),S.PL,λb xs h=>?_]
 ·rw[ac λw=>by rw[w,e] at ex;cases ex]
  exact ex
 ·have e2:=S.fr b xs h
  rw[ac λw=>by rw[w,e] at e2;cases e2];exact e2
section
variable {β:Type}{H H0:Hp}{p:Fe β}{E:XK}{Ro:β->E2->Prop}
theorem RS.putD (R:RS #[a,E,B,L,H0,Ro] F b H t Kn p):RS #[a,E,B.dk c,L,H0,Ro] F b (aF H B.ds.p (.dK c)) t Kn p:=by
 rw[00];have k:db (eU B) H (aF H B.ds.p (.dK c)):=eX (.inr (.inr (.inr (.inl rfl))));exact#[#[n,S.putD],R.k.trans k,λe=>jh.HH k.two (R.f e),R.l,R.w]
theorem RS.abu {n:Fm}{nb dr:E4}(R:RS #[a,E,B,L,H0,Ro] F b H t Kn p) (hN:Dl B H0) (S:fo a B H n t Kn) (U4:H nb=FB) (er:H B.r=Fa (.ins a.Gm dr (rD B.q B.kd B.fn B.ds.p B.bl.p n))):
  Dl (B.nb nb) H0/\RS #[a,E,B.nb nb,L,H0,Ro] F b (aF (aF H nb (.dK [])) B.r (.ins a.Gm dr (rD B.q B.kd B.fn B.ds.p nb n))) t Kn p:=by
 obtain⟨S',k⟩:=S.abu U4 er;have m: ∀ {b},eU (B.nb nb) b->eU B b\/b=nb:=λ{b} z=>by
  rcases z with z|z|z|z|z|z
  ·exact .inl (.inl z)
  ·exact .inl (.inr (.inl z))
  ·exact .inl (.inr (.inr (.inl z)))
  ·exact .inl (.inr (.inr (.inr (.inl z))))
  ·exact .inr z
  ·exact .inl (.inr (.inr (.inr (.inr (.inr z)))))
 have h0:H0 nb=FB:=by
  cases e:H0 nb with
  |none=>rfl
  |some o=>
   have:=R.k nb o e λz=>by rw[hN nb z] at e;cases e
   rw[U4] at this;cases this
 have N':Dl (B.nb nb) H0:=λb z=>(m z).elim (hN b) λz=>by rw[z];exact h0
 refine#[N',#[n,S'],λb o e _=>?_,λe=>jh.HH (λb o e w=>#[λz=>(m z).elim w (λz=>gR (by rw[z];exact U4) e),k b o e w]) (R.f e),R.l,R.w.mono (λ_ _ z=>z) λ_ _ z H' k'=>z H' λb o e _=>k' b o e λz=>gR (N' b z) e];have w: ¬eU B b:=λz=>gR (hN b z) e
 exact k b o (R.k b o e w) w
end
section
variable {K:E6}{β:Type}{g:g9->Fe β}
theorem wK (h1:Ff t "const"=FS) (h2:Ff t "fun"=FS):(ik k K n D>>=g) t=(Hc "desk">>=λ_=>eM D>>=λx=>FX "{">>=λ_=>JT k 6 K []>>=λl=>g (.desk x l.1,K,n,x::D)) t:=by
 have c1: ¬Ff t "const"=FM:=by rw[h1];exact EZ
 have c2: ¬Ff t "fun"=FM:=by rw[h2];exact EZ
 cases hd:Ff t "desk" with
 |true=>
  rw[aS (show ik k K n D t=(Gq>>=λ_=>BX k K n D:Fe g9) t by unfold ik;rw[E5 c1,E5 c2,E7 hd])];refine Eq.trans ?_ (bJ (p:=Hc "desk") (x:=()) (r:=t.drop 1) (by unfold Hc;rw[E7 hd])).symm;unfold BX;simp only[bind_assoc,pure_bind]
  rfl
 |false=>
  have c3: ¬Ff t "desk"=FM:=by rw[hd];exact EZ
  refine(aS (q:=(Fx 2:Fe g9)) (by unfold ik;rw[E5 c1,E5 c2,E5 c3])).trans ?_;exact((eR t).trans (eR t).symm).trans (aS (p:=Hc "desk") (q:=(Fx 2:Fe MZ)) (by unfold Hc;rw[E5 c3])).symm
theorem rQ (nb:x≠ .bad) (en:cP x=FS):eM D ((x,xp)::t)=Fx 2 ((x,xp)::t):=by
 cases x with
 |word u=>
  rw[dD] at en;have RN:Gp.contains u=FM:=by cases h:Gp.contains u;rw[h] at en;cases en;rfl
  unfold eM;rw[c9,E7 RN]
  rfl
 |num m=>rfl
 |sign s=>rfl
 |eof=>rfl
 |bad=>exact Fv rfl nb
theorem lQ (RN:Gp.contains u=FS):eM D ((.word u,xp)::t)=if D.contains u=FM then Fx 4 ((.word u,xp)::t) else .ok (u,t):=by
 unfold eM;rw[c9,E5 (by rw[RN];exact EZ)]
end
theorem aiy (T:aU K mg a) (XC:XT K a) (hk:8<=k)
  (G:T.Ws.O P w base k (j9 a 7)):
  T.WZ.O P w base (k+1) (pj a λt=>Ff t "const"=FS/\Ff t "fun"=FS):=by
 refine DK T XC hk T.WZ.F ag5 λGF A outer s H β B L H0 Ro F b t Kn nf Ds fu g Q E hr ho hf hB hc hn hN=>?_;intro X D Z Y R q;have lL:=R.lL;have hm:Kn.values.length+t.length<=4000:=R.room;have R:=R.at.as (wK ho.1 ho.2);generalize hl:t.length=l at R lL hc hf hm;refine kN (Z:=Z.at l) Y DH R λH t R=>?_;have l1:t.length+1<=l:=R.l;rw[00];refine aN 1 Y.nd (wC (Z:=Z.at l) Y R (λ_=>rfl) T.LU S.SI (l0 Ds).bind (λnb en=>?_) (λu e1 hk hu=>?_) λu xp r e1 hk hu=>#[FX "{">>=λ_=>JT fu 6 Kn []>>=λl=>g (.desk u l.1,Kn,nf,u::Ds),(bJ (x:=u) (r:=r) ((lQ hk).trans (E5 (YJ ((hB u).symm.trans hu))))).trans rfl,λH R=>?_])
 ·obtain⟨⟨x,xp⟩,r,rfl⟩:=R.cons
  exact(aS (q:=Fx 2) (rQ nb en)).trans (eR _)
 ·obtain⟨⟨x,xp⟩,r,rfl⟩:=R.cons
  obtain rfl:x= .word u:=e1;exact(aS (q:=Fx 4) ((lQ hk).trans (E7 ((hB u).symm.trans hu)))).trans (eR _)
 rw[e1,Fj] at l1;rw[00];obtain⟨dr,er⟩:=S.rd.ins;refine aQ (hZ (dn hr) [08] (pv 1) tG rfl) #[B.r,_,dr,_,_,Gc,er,T.FV,T.LU,Gc,B.ds.p,_,Gc, .inl #[B.ds.c,nk u,S.SI,Gc,F9 (show B.ds.c.length<=4000 by lia) [01],Gc],?_];have hD: ∀v,has (dy B.ds.c (nk u) (.bl FM)) v=(u::Ds).contains v:=λv=>by
  rw[qO,Gn,hB v]
  congr 1
  rw[GZ,F5,beq_iff_eq]
 have hDl:=cD B.ds.c (nk u) (.bl FM)
 have R:=R.putD (c:=dy B.ds.c (nk u) (.bl FM));generalize dy B.ds.c (nk u) (.bl FM)=c3 at R hD hDl ⊢;generalize aF H B.ds.p (.dK c3)=H at R ⊢;rw[00];obtain⟨dr,er⟩:=S.rd.ins;refine aQ (b3 (pv 0) fm rfl) λnb U4=>#[B.r,_,dr,_,Gc,(by rw[ac λz=>by rw[<-z,er] at U4;cases U4];exact er),T.FV,T.JF,(by show 6<1000;decide),?_]
 rw[sO];obtain⟨hN,R⟩:=R.abu hN S U4 er;refine aL (jy Y (Ej T) (aO (bC 1 (aO #[_,Y.call2 #[G,hr,T.Ws.c,Gc] ak [01] rfl,(B.dk c3).nb nb,l,H0,Ro,F,_,r,Kn,[],0,fu,_,Gc,FI _,by decide,by lia,(λv=>rfl),(by show 0+r.length<=4000;lia),R,λx v H t c' hB' Wt R=>cH (R.new rfl λw H i R=>?_)]))));have l9:t.length+1<=l:=R.l;have R:=RS.back (Z:=#[a,E,B.tp c3 nb c',L,H0,Ro]) lL R;obtain⟨us,la,sa⟩:ot a (eU (B.tp c3 nb c')) H x.1 v:=R.f (i:=0) rfl;exact q (.desk u x.1,Kn,nf,u::Ds) w H t c3 nb c' hD (by lia) hn hN ((R.cut 1).and #[v,us,i,la,sa])
theorem aiz (T:aU K mg a) (XC:XT K a) (hk:8<=k)
  (G1:T.WX.O P w base k (pj a λt=>Ff t "const"=FM))
  (G2:T.WY.O P w base k (pj a λt=>Ff t "const"=FS/\Ff t "fun"=FM))
  (G3:T.WZ.O P w base k (pj a λt=>Ff t "const"=FS/\Ff t "fun"=FS)):
  T.WW.O P w base (k+1) (pj a λ_=>True):=by
 refine DK T XC hk T.WW.F ag0 λGF A outer s H β B L H0 Ro F b t Kn nf Ds fu g Q E hr ho hf hB hc hn hN=>?_;intro X D Z Y R q;refine bH (dv (iT (Z:=Z) Y R (lN _ _ _ _).bind λnb=>#[_,Gc,?_]));rw[b4 R.tok sV];refine aP (λe1=>aL (e7 Y #[G1,hr,T.WX.c,Gc] #[B,L,H0,Ro,F,b,t,Kn,nf,Ds,fu,g,Gc,e1,hf,hB,hc,hn,hN,R,q])) λe1=>?_;refine bH (dv (iT (Z:=Z) Y R (lN _ _ _ _).bind λnb=>#[_,Gc,?_]));rw[b4 R.tok AQ];refine aP (λe2=>aL (e7 Y #[G2,hr,T.WY.c,Gc] #[B,L,H0,Ro,F,b,t,Kn,nf,Ds,fu,g,Gc,#[e1,e2],hf,hB,hc,hn,hN,R,q])) λe2=>?_;exact aL (e7 Y #[G3,hr,T.WZ.c,Gc] #[B,L,H0,Ro,F,b,t,Kn,nf,Ds,fu,g,Gc,#[e1,e2],hf,hB,hc,hn,hN,R,q])
section
open Vbemac (tokens)
theorem uT (u:EW):bO dj (nk u)=(IM.funs.find? λf=>f.1 == u).map λf=>V.int (f.2:Fm):=by
 have h1:(HQ "min":a8)=nk (EY "min"):=by show(HQ "min":a8)=HQ (sb (EY "min"));congr 1
 have h2:(HQ "max":a8)=nk (EY "max"):=by show(HQ "max":a8)=HQ (sb (EY "max"));congr 1
 have h3:(HQ "abs":a8)=nk (EY "abs"):=by show(HQ "abs":a8)=HQ (sb (EY "abs"));congr 1
 unfold dj IM K9;rw[h1,h2,h3];have ne: ∀ {v:EW},¬v=u-> ¬nk v=nk u:=λh z=>h (ee (Jt z))
 have st: ∀(v:EW) (x:V) (r:EV (a8×V)),bO ((nk v,x)::r) (nk u)=if v=u then Fa x else bO r (nk u):=λv x r=>by
  by_cases e:v=u
  ·rw[E7 e];exact cg (by rw[e])
  ·rw[E5 e];exact b7 (ne e)
 rw[st,st,st,G6,G6,G6];dsimp only;by_cases e1:EY "min"=u
 ·rw[E7 e1,show(EY "min" == u)=FM from beq_iff_eq.mpr e1];rfl
 ·rw[E5 e1,show(EY "min" == u)=FS from beq_eq_false_iff_ne.mpr e1]
  dsimp only;by_cases e2:EY "max"=u
  ·rw[E7 e2,show(EY "max" == u)=FM from beq_iff_eq.mpr e2];rfl
  ·rw[E5 e2,show(EY "max" == u)=FS from beq_eq_false_iff_ne.mpr e2]
   dsimp only;by_cases e3:EY "abs"=u
   ·rw[E7 e3,show(EY "abs" == u)=FM from beq_iff_eq.mpr e3];rfl
   ·rw[E5 e3,show(EY "abs" == u)=FS from beq_eq_false_iff_ne.mpr e3];rfl
abbrev F0:E4->EV V->Prop:=λ_ _=>False
theorem aaV.st {a:bf}{H H':Hp}(N:aaV a H H' r dr q kd fn ds bl) (hq:H q=Fa (.lst (as.map V.ref))) (nq:q≠r) (tk:Paired (fV a.IY H) as (tokens bs)) (nt: ∀b∈as,b≠r) (hl:bs.length<=3000):
  fo a #[r,q,kd,fn,#[ds,[],F0],#[bl,[],F0]] H' 0 (tokens bs) IM:=by
 have len:(tokens bs).length<=4000:=by
  have:=dQ (bs.length+1) (1,1) bs;unfold tokens;lia
 refine#[#[#[dr,N.ins],as,tokens bs,N.kept _ _ hq nq,?_,Gc],fK _ _ _,#[#[[],N.kd1,Fq _,λu=>rfl],#[dj,N.fn1,uT],by show 0+(tokens bs).length<=4000;lia,#[dj,N.fn1,Gc]],N.ds1,N.bl1,#[N.PL.1,N.PL.2.1,N.PL.2.2.1,N.PL.2.2.2.1,N.PL.2.2.2.2.1,N.PL.2.2.2.2.2],λ_ _ z=>z.elim];clear len hq;revert nt;generalize tokens bs=ts at tk ⊢
 induction tk with
 |nil=>exact λ_=> .nil
 |cons h t ih=>exact λnt=> .cons (by obtain⟨dx,e⟩:=h;exact#[dx,N.kept _ _ e (nt _ (Fb ..))]) (ih λb hb=>nt b (E9 _ hb))
end
abbrev D6 (a:bf) (M:E4->Prop) (H:Hp) (ss:EV Ha) (us:EV V):Prop:=Paired (λs v=>fh a M H s v) ss us
inductive kh (K:E1) (a:bf) (vs:EV V) (H:Hp) (Q:VK) (E:XK):Prop
 |mk (l:E4) (bs:EW) (_:vs=[.ref l]) (_:cC K H l (jM bs)) (_:bs.length<=3000) (_:W (JQ (LN (GJ bs)) IM M0 []) (GJ bs) (λss _=> ∀H' (L:E4) (us:EV V) (M:E4->Prop),aW H H'->H L=FB-> ¬M L->H' L=Fa (.lst us)->D6 a M H' ss us->Q (.ref L) H') (λk x=> ∀H',aW H H'->oF a.HA E H' k x)):kh K a vs H Q E
theorem Ei {k n:Fm}{K:E6}{β:Type}{g:Je->Fe β}(h0:Fp t≠ .eof):(JQ (k+1) K n D>>=g) t=(ik k K n D>>=λx=>JQ k x.2.1 x.2.2.1 x.2.2.2>>=λl=>g (x.1::l)) t:=by
 have e:JQ (k+1) K n D t=(ik k K n D>>=λx=>JQ k x.2.1 x.2.2.1 x.2.2.2>>=λl=>pure (x.1::l):Fe Je) t:=by
  cases h1:Ff t "const" with
  |true=>
   rw[vg h0 h1,tq h1];simp only[dO,bind_assoc,pure_bind]
  |false=>
   cases h2:Ff t "fun" with
   |true=>
    by_cases hn:n=0
    ·rw[yH h0 h1 h2 hn,wb h1 h2 hn]
    ·rw[BL h0 h1 h2 hn,CT h1 h2 hn]
     unfold lG;simp only[ke,dO,bind_assoc,pure_bind]
     rfl
   |false=>
    rw[wK h1 h2];cases h3:Ff t "desk" with
    |true=>
     rw[ye h0 h1 h2 h3];refine Eq.trans ?_ (bJ (p:=Hc "desk") (x:=()) (r:=t.drop 1) (by unfold Hc;rw[E7 h3])).symm
     rfl
    |false=>
     rw[zn h0 h1 h2 h3];exact((aS (p:=Hc "desk") (q:=(Fx 2:Fe MZ)) (by unfold Hc;rw[E5 (YJ h3)])).trans (eR t)).symm
 rw[aS e];simp only[bind_assoc,pure_bind]
abbrev fkT (ps:EV (Ha×V)):EV (Fk×V):=ps.map λx=>(Fk.top x.1,x.2)
theorem xz {a:bf}{M:E4->Prop}{H:Hp}{l:EV Ha}{ws:EV V}(hl:D6 a M H l ws): ∀ {ps:EV (Ha×V)},(∀ {i:Fm}{x:Fk×V},(fkT ps)[i]?=Fa x->jh a M H x)->D6 a M H ((ps.map λx:Ha×V=>x.1).reverse++l) ((ps.map λx:Ha×V=>x.2).reverse++ws)
 |[],_=>hl
 | (e,v)::ps,h=>by
  rw[FC,FC,GA,GA,Gr,Gr];exact xz (.cons (h (i:=0) rfl) hl) λ{i x} q=>h (i:=i+1) q
inductive ShI (a:bf) (E:XK) (B:Rb) (H0:Hp) (Ro:Je->E2->Prop) (Ls:E4) (l:Fm) (σ0:L2.St) (m:Fm) (σ:L2.St) (H:Hp):Prop
 |mk (ps:EV (Ha×V)) (K1:E6) (nf:Fm) (D:EV EW) (dc:EV (a8×V)) (bp:E4) (bc:EV (a8×V)) (t:E2) (f:Fm) (_:m=t.length) (_:σ=σ0) (_:ps.length+t.length<=l) (_: ∀u,has dc u=D.contains u) (_:dc.length+t.length<=4000) (_:K1.funs.length+nf=9) (_:16*t.length+1<=f) (_:Dl (B.tp dc bp bc) H0)
  (_:vJ #[a,E,B.tp dc bp bc,l,H0,Ro] Ls) (_:RS (Zf.mo #[a,E,B.tp dc bp bc,l,H0,Ro] Ls (ps.map λx:Ha×V=>x.2).reverse) (fkT ps) FS H t K1 (JQ f K1 nf D>>=λx=>pure ((ps.map λx:Ha×V=>x.1).reverse++x))):ShI a E B H0 Ro Ls l σ0 m σ H
theorem amf (T:aU K mg a) (XC:XT K a) (kS:zH P w K a.JR dW) (kF:Di P w K a.GY dj) (hk:8<=k)
  (G:T.WW.O P w base k (pj a λ_=>True)):
  T.d_j.O P w base (k+1) (kh K a):=by
 have G1:=oC (P:=P) (w:=w) (base:=base) T kF
 have G2:=aly (P:=P) (w:=w) (base:=base) T kS
 have G3:=zj (P:=P) (w:=w) (base:=base) T XC;refine fQ T.d_j.F aaJ (λvs H Q E h=>?_) [02]
 ·obtain⟨l,bs,rfl,_⟩:=h
  rfl
 obtain⟨l,bs,rfl,hS,hl,hW⟩:=h;refine aN 1 aaJ.nd #[_,gT T.UX G1 (hr.mono (by lia)) (by rfl) T.UR T.ZG.c.b .nil aV (aa (aJ G2 (hr.mono (by lia)) (by rfl) T.d_i.c aV (aa (pv 0) ag)) ag),l,bs,Gc,hS,hl,λH1 q as s1 hq0 hq1 tk=>?_];intro r dr hr0 hdr ne;refine#[r,dr,q,Gc,ae,λH2 kd fn ds bl N=>#[Gc,?_]];have qr:q≠r:=(aj hq1 hr0);have up1: ∀ {b:E4}{o:HO},H1 b=Fa o->aF (aF H1 dr (.own r)) r (.ins a.Gm dr []) b=Fa o:=λe=>by
  rw[ac (aj e hr0),ac (aj e hdr)];exact e
 have aiA: ∀ {as:EV E4}{ts:E2},Paired (fV a.IY H1) as ts-> ∀b∈as,b≠r:=λtk=>by
  induction tk with
  |nil=>exact λb hb=>nomatch hb
  |cons h t ih=>
   intro b hb;rcases Fi.mp hb with hb|hb
   ·obtain⟨dx,e⟩:=h
    rw[hb];exact aj e hr0
   ·exact ih b hb
 have S2:=N.st (up1 hq1) qr (Paired.Np tk λb x ⟨dx,e⟩=>#[dx,up1 e]) (aiA tk) hl
 have s02:aW H H2:=λb o e=>N.kept b o (up1 (s1 b o e)) (aj (s1 b o e) hr0)
 have upn: ∀ {b:E4},aF (aF H1 dr (.own r)) r (.ins a.Gm dr []) b=FB->H b=FB:=λ{b} e=>by
  cases z:H b with
  |none=>rfl
  |some o=>rw[up1 (s1 b o z)] at e;cases e
 have hN:Dl ⟨r,q,kd,fn,⟨ds,[],F0⟩,⟨bl,[],F0⟩⟩ H:=λb z=>by
  rcases z with z|z|z|z|z|⟨_,z⟩
  ·rw[z]
   cases e:H r with
   |none=>rfl
   |some o=>exact(gR hr0 (s1 r o e)).elim
  ·rw[z];exact upn N.kd0
  ·rw[z];exact upn N.fn0
  ·rw[z];exact upn N.ds0
  ·rw[z];exact upn N.bl0
  ·exact z.elim
 clear N aiA up1 upn;have tl:(GJ bs).length<=3002:=by
  have:=dQ (bs.length+1) (1,1) bs;unfold GJ;lia
 generalize hRo:(λ(ss:Je) (_:E2)=> ∀H' (L:E4) (us:EV V) (M:E4->Prop),aW H H'->H L=FB-> ¬M L->H' L=Fa (.lst us)->D6 a M H' ss us->Q (.ref L) H')=Ro at hW;generalize hB:(#[r,q,kd,fn,#[ds,[],F0],#[bl,[],F0]]:Rb)=B at S2 hN;have Br:B.r=r:=by rw[<-hB]
 have same: ∀ {dc bp bc} {H':Hp},Dl (B.tp dc bp bc) H->db (eU (B.tp dc bp bc)) H H'->aW H H':=λn k b o e=>k b o e λz=>gR (n b z) e
 have R:RS ⟨a,E,B,(GJ bs).length,H,Ro⟩ (fkT []) FS H2 (GJ bs) IM (JQ (LN (GJ bs)) IM M0 []>>=λx=>pure ([]++x)):=#[#[_,S2],λb o e _=>s02 b o e,(λe=>nomatch e),Fq _,by
  rw[jE];exact hW.mono (λ_ _ z=>z) λ_ _ z H' k'=>z H' λb o e=>k' b o e λz=>gR (hN b z) e]
 rw[<-Br];refine aN 2 aaJ.nd (mr λLs hL=>?_);have hx: ∀b zs,¬B.bl.x b zs:=λb zs=>by rw[<-hB];exact λz=>z
 have hdc:B.ds.c=[]:=by rw[<-hB]
 refine fW IS (ShI a E B H Ro Ls (GJ bs).length [Fa (.ref l),Fa (.ref B.r),Fa (.ref Ls)]) _ #[[],IM,M0,[],B.ds.c,B.bl.p,B.bl.c,GJ bs,LN (GJ bs),Gc,Gc,by show 0+_<=_;lia,(λ_=>by rw[hdc];rfl),by rw[hdc];show 0+_<=_;lia,Gc,by unfold LN;lia,hN,R.nwl hL,R.more hL] ?_;rintro mm σ H4 ⟨ps,K1,nf,D,dc,bp,bc,t,f,rfl,rfl,ul,hD,hDl,hn,hf,hN',N,R⟩;obtain⟨f,rfl⟩: ∃f',f=f'+1:=#[f-1,by lia];obtain⟨n4,S⟩:=R.S;obtain⟨⟨x,xp⟩,t5,rfl,tok,QN,MJ,_⟩:=S.wh.first;obtain⟨dr4,er4⟩:=S.rd.ins;refine#[_,lf (cZ (bS (pv 1) T.FV T.ZH.c G3 (hr.mono (by lia)) aA)),B.r,dr4,_,Gc,er4,Gc,B.r,B.q,B.kd,B.fn,B.ds.p,bp,n4,(x,xp),t5,Gc,S.rd,(λb=>(rO _ _ _ _).bind.Lw (QN.trans b) R.w H4 R.k),λnb=>#[_,Gc,?_]];have len:((ps.map λx:Ha×V=>x.2).reverse:EV V).length=ps.length:=by rw[Gv,Fh]
 cases he:Ci x with
 |true=>
  have ex:x= .eof:=by cases x<;>first|rfl|cases he
  subst ex;refine bN (aL (bC 2 ?_));have w:=(R.as (p':=pure ((ps.map λx:Ha×V=>x.1).reverse++[])) ((bJ (Ct rfl)).trans rfl)).w
  have w:Ro ((ps.map λx:Ha×V=>x.1).reverse++[]) ((.eof,xp)::t5):=w
  rw[<-hRo] at w;refine w H4 Ls _ (eU (B.tp dc bp bc)) (same hN' (R.less N).k) N.n0 N.nm R.Qv ?_;rw[<-GL (ps.map λx:Ha×V=>x.2).reverse];exact xz .nil λe=>(R.less N).f e
 |false=>
  have ne:Fp ((x,xp)::t5)≠ .eof:=λz=>by
   have z:x= .eof:=z;rw[z] at he;cases he
  refine cc (on (β:=Je) R.Qv (pv 2) [05] #[_,aJ G hr (by rfl) T.WW.c aA (aa (pv 1) ag),(B.tp dc bp bc).more Ls (ps.map λx:Ha×V=>x.2).reverse,((x,xp)::t5).length,H,Ro,fkT ps,FS,(x,xp)::t5,K1,nf,D,f,_,Gc,G7,by lia,hD,hDl,hn,λb z=>(de z).elim (λz=>by rw[z];exact N.n0) (hN' b),R.at.as (Ei ne),λy v H' t' dc' bp' bc' SH amg XY hN2 R2=>?_]);have l2:t'.length+1<=((x,xp)::t5).length:=R2.l;have R2:=RS.back (Z:=Zf.mo #[a,E,B.tp dc' bp' bc',(GJ bs).length,H,Ro] Ls (ps.map λx:Ha×V=>x.2).reverse) (by show((x,xp)::t5).length<=(GJ bs).length;lia) R2;have N2:vJ ⟨a,E,B.tp dc' bp' bc',(GJ bs).length,H,Ro⟩ Ls:=by
   refine#[N.n0,λz=>?_,N.nx,N.nq];rcases z with z|z|z|z|z|⟨zs,z⟩
   ·exact N.nm (.inl z)
   ·exact N.nm (.inr (.inl z))
   ·exact N.nm (.inr (.inr (.inl z)))
   ·exact N.nm (.inr (.inr (.inr (.inl z))))
   ·obtain⟨n5,S5⟩:=R2.S
    have h1:=R2.Qv
    have h2:=S5.R8
    have z:Ls=bp':=z;rw[z] at h1;cases h1.symm.trans h2
   ·exact hx _ _ z
  refine#[_,_,_,_,_,_,N2,by rw[len];exact F9 (show ps.length<=4000 by lia) [01],R2,λH3 R3=>?_];refine ga #[_,l2,(y.1,v)::ps,y.2.1,y.2.2.1,y.2.2.2,dc',bp',bc',t',f,Gc,Gc,(by rw[Fj];lia),SH,amg,XY,(by lia),λb z=>hN2 b (cv z),N2,?_];rw[FC,FC,GA,GA];simp only[Gr];exact#[R3.S,R3.k,R3.f,FA (JN _ _) R3.l,R3.w]
theorem zO {P:FW}{w:Gx}{K:E1}{mg:FD->Fd E3}{base:GI}{a:bf}(T:aU K mg a) (XC:XT K a) (IL:pH K a) (KT:zK K a.HV di) (kS:zH P w K a.JR dW) (kF:Di P w K a.GY dj):
  T.d_j.O P w base 178 (kh K a):=by
 have E:oM P w K mg base a 151:=(al6 T XC KT 13).1
 have Br:=yA T XC IL [01] E 7
 have Gi:=aik T XC [01] E
 have Co:=aiu T XC [01] Gi
 have Fu:=aix T XC kF [01] Gi
 have De:=aiy T XC [01] Br
 have To:=aiz T XC [01] (Co.mono (by decide:153<=176)) (Fu.mono [01]) De;exact amf T XC kS kF [01] To
def iu (z:Int):Gg:=decide (0<=z)&&decide (z<=255)
def jz (zs:EV Int):Gg:=decide (zs.length<=3000)&&zs.all iu
inductive sK (K:E1) (vs:EV V) (H:Hp) (Q:VK) (_E:XK):Prop
 |mk (l:E4) (zs:EV Int) (_:vs=[.ref l]) (_:cC K H l (fi zs)) (_:zs.length<=4000) (_: ∀H',aW H H'->Q (.bl (jz zs)) H'):sK K vs H Q _E
theorem tW (h:jz zs=FS):Kb zs=FB:=by
 unfold Kb;rw[E5];intro z;have:jz zs=FM:=z;rw[h] at this;cases this
theorem vP (h:jz zs=FM): ∃bs:EW,Kb zs=Fa bs/\jM bs=fi zs/\bs.length<=3000:=by
 have h0:=h;unfold jz at h;rw[GC,F5] at h;refine#[zs.map λc=>Om c.toNat,?_,?_,by rw[Fh];exact h.1]
 ·unfold Kb
  exact E7 h0
 ·unfold jM fi
  rw[JA];refine EV.map_congr_left λz hz=>?_;have b:=LJ.mp h.2 z hz;unfold iu at b;rw[GC,F5,F5] at b;show V.int (nb (Om z.toNat))=V.int z;unfold nb
  congr 1
  rw[IP.toNat_ofNat'];lia
theorem amh (T:aU K mg a):T.d_K.U P w base 1 (sK K):=by
 refine T.d_K.F.ok aaK [03] [02];obtain⟨l,zs,rfl,hS,hl,hQ⟩:=h;refine#[_,(ai (aI (oG (ca eP (bv bB (by rfl) T.JW Hr (aa (pv 0) ag)) (aR (by rfl) T.QK) (aM _)) (jx (bv (aas rfl) (by rfl) T.ae7 boot_all (aa (CG rfl aaK.nd (iU (pv 0)) (own:=[("byte",1)]) (nh (by show Cv ["text","byte"] (af s_K) _ [("byte",1)]=FM;decide+kernel)) (λ_ _ _ _ _=>gZ (i:=1) aaK.nd rfl (GO rfl)) (λ_ _ _ _ _=>qB) (λ_ _ _ _ _=>(iC eP eP ak (pv 1) ak))) ag)))))),?_];have il:(fi zs).length=zs.length:=Fh ..;refine#[_,_,Gc, .inl hS,_,_,Gc,Gc,_,Gc,?_];rw[il];unfold jz at hQ;refine aP (λe=>?_) λe=>?_
 ·have le:zs.length<=3000:=by have:=FN e;lia
  rw[Gy le] at hQ;refine#[l,Gc,#[_,hS],λD hD=>?_];refine qI (K:=K) (a:=l) (xs:=fi zs) (λi H'=>aW H H'/\H' D=Fa (.lst (((zs.take i).map iu).map V.bl))) #[a0 hD,ae] (λi H' _ z=>z.1.seq hS) ?_ ?_
  ·rintro i y H' hi ⟨s1,SH⟩
   obtain⟨z,hz,rfl⟩: ∃z,zs[i]?=Fa z/\y=V.int z:=by
    unfold fi at hi;rw[Gf] at hi;cases e:zs[i]? with
    |none=>rw[e] at hi;cases hi
    |some c=>rw[e] at hi;exact#[c,Gc,(Fs hi).symm]
   have eN: ∀b:Gg,b=iu z-> ∃acc,H' D=Fa (.lst acc)/\acc.length<FP/\(aW H (aF H' D (.lst (acc++[V.bl b])))/\aF H' D (.lst (acc++[V.bl b])) D=Fa (.lst (((zs.take (i+1)).map iu).map V.bl))):=λb hb=>by
    refine#[_,SH,?_,λb' o e=>by rw[ac (aj e hD)];exact s1 b' o e,?_]
    ·rw[Fh,Fh]
     exact F9 (FA (T1 i zs) hl) [01]
    ·rw[ae,J9,hz,hb]
     show Fa (HO.lst (((zs.take i).map iu).map V.bl++[V.bl (iu z)]))=Fa (HO.lst (((zs.take i++[z]).map iu).map V.bl))
     rw[GS,GS]
     rfl
   refine#[Gc,?_];unfold EH;dsimp only;rw[E7 rfl];refine#[_,_,Gc,Gc,_,Gc,?_];refine aP (λe0=>?_) λe0=>?_
   ·refine#[_,_,Gc,Gc,eN _ ?_]
    unfold iu;rw[e0]
    rfl
   ·refine eN _ ?_
    unfold iu;rw[e0]
    rfl
  ·rintro H' ⟨s1,SH⟩
   rw[il,Ko] at SH;refine#[D,zs.map iu,Gc,cC.of SH,?_];have:=hQ H' s1;rw[Jh] at this;rw[SX];exact this
 ·have le: ¬zs.length<=3000:=by have:=FR e;lia
  rw[FU le] at hQ;exact hQ H λ_ _ e=>e
section
open Vbemac (expandSteps)
theorem abv {Qo:Je->E2->Prop}{Qe:Fm->Gh->Prop}(ho: ∀ss t,Oe bs= .ok ss->xD [] K9 ss->Qo ss t) (he: ∀e,Oe bs= .error e->Qe e.1 e.2):W (JQ (LN (GJ bs)) IM M0 []) (GJ bs) Qo Qe:=by
 unfold W;have r:Oe bs=(match JQ (LN (GJ bs)) IM M0 [] (GJ bs) with
  | .error e=> .error e
  | .ok (a,_)=> .ok a):=rfl
 cases e:JQ (LN (GJ bs)) IM M0 [] (GJ bs) with
 |error x=>rw[e] at r;exact he x r
 |ok z=>rw[e] at r;exact ho z.1 z.2 r (md _ IM _ _ rfl _ _ _ (lz _ _ _) e).1
def YK (M:J3) (bs:EW):Except Int (Je×EV Hx×Fm):=match Oe bs with
 | .error _=> .error (-3)
 | .ok s=>match expandSteps M s with
  | .error c=> .error c
  | .ok (l,n)=> .ok (s,l,n)
theorem aiB {f:Je->EV Hx->Fm->Vbemac.Ans} :UJ M bs f=(match YK M bs with
  | .error c=>[c]
  | .ok (s,l,n)=>f s l n):=by
 unfold UJ Vbemac.withSheet YK;cases Oe bs with
 |error e=>rfl
 |ok s=>dsimp only;cases expandSteps M s<;>rfl
def Bad (K:E1) (a:bf) (E:XK) (H:Hp) (c:Int):Prop:= ∀(C d fI:E4) (fs:EV (FD×V)),dz K a.GW C fI->fs.lookup ("number":FD)=Fa (.int c)->H d=FB->E (.ref C) (Fa d) (aF H d (cn d fs))
theorem Bad.toW {K:E1}{a:bf}{E:XK}{H:Hp}(XC:XW K a) (h:Bad K a E H c):oV a E H c:=λC hC d hd=>by
 have: ∃fI,dz K a.GW C fI:=by
  unfold xcl at hC;simp only[Fi,Hs,or_false,Prod.mk.injEq] at hC;rcases hC with⟨_,rfl⟩|⟨_,rfl⟩|⟨_,rfl⟩|⟨_,rfl⟩|⟨_,rfl⟩|⟨_,rfl⟩
  ·exact#[_,XC.LV]
  ·exact#[_,XC.OM]
  ·exact#[_,XC.NH]
  ·exact#[_,XC.NI]
  ·exact#[_,XC.LW]
  ·exact#[_,XC.ON]
 obtain⟨fI,x⟩:=this;exact h C d fI _ x rfl hd
theorem vQ {X:Cx}{σ:L2.St}{H:Hp}{Q:VK}{e1 e2 e3:Hv}{t1 t2 t3:TE}{lo x hi:Int}{p:Pos}(h1:PE X e1 t1) (h2:PE X e2 t2) (h3:PE X e3 t3) (v1: ∀Q:VK,Q (.int lo) H->t1 σ H Q) (v2: ∀Q:VK,Q (.int x) H->t2 σ H Q) (v3: ∀Q:VK,Q (.int hi) H->t3 σ H Q) (q:Q (.bl (Fw x lo hi)) H) (hm:U9 [.LtE, .LtE] [e2,e3]=FS:=by with_unfolding_all rfl):
  Pe X (.Compare e1 [.LtE, .LtE] [e2,e3] p) σ H Q:=by
 refine#[_,iC eP eP h1 h2 h3 hm,v1 _ (v2 _ #[_,_,Gc,Gc,_,Gc,?_])];unfold Fw at q;by_cases h:lo<=x
 ·rw[Gy h,Jh] at q
  rw[Gy h];exact cc (v3 _ #[_,_,Gc,Gc,q])
 ·rw[FU h,IW] at q
  rw[FU h];exact bN q
theorem xn {H:Hp}{Q:VK}(b c:Gg) (q:Pe X e σ H λv H1=>v= .bl b/\(b=FM->Pe X (.BoolOp .And (f::es) p) σ H1 Q)/\(b=FS->Q (.bl (b&&c)) H1)):Pe X (.BoolOp .And (e::f::es) p) σ H Q:=
 #[_,oG dq dq,q.mono λv H1 ⟨hv,h1,h2⟩=>#[b,hv,by
  cases b with
  |true=>exact cc (h1 rfl)
  |false=>exact bN (h2 rfl)]]
theorem YL {H:Hp}{Q:VK}(q:Pe X e σ H Q):Pe X (.BoolOp .And [e] p) σ H Q:=#[_,jx dq,q]
theorem kr (T:aU K mg a) (XC:XN K a):T.Zi.U P w mg base 2 (dU a.LF (gC (-1))):=
 okI T.Zi.F af7 λGF A outer s H p Q hr q=>#[_,ai (bh (fg (by rfl) T.HG XC.rm (bP T XC.N9) hr T.Wq.c.b .nil aV (aa (pv 0) (aa (dL cK ak) ag)))),_,Gc,q]
inductive wY (K:E1) (a:bf) (vs:EV V) (H:Hp) (Q:VK) (E:XK):Prop
 |mk (x:Gg) (_:vs=[.bl x]) (_:x=FM->Q .Iw H) (_:x=FS->Bad K a E H (-1)):wY K a vs H Q E
theorem ami (T:aU K mg a) (XC:XN K a):T.d_g.O P w base 4 (wY K a):=by
 refine fQ T.d_g.F alo [03] [02];obtain⟨x,rfl,h1,h2⟩:=h;refine bH (jk #[_,cZ (pv 0),?_]);cases x with
 |true=>exact#[_,Gc,bN (cf (h1 rfl))]
 |false=>exact#[_,Gc,cc (aQ (eW eB XC.N9 (kr T XC) (hr.mono (by decide)) (by rfl) T.O0 T.Zi.c.b) #[FI _,_,#[Gc,Gc],λd hd=>h2 rfl _ d _ _ XC.N9 rfl hd])]
inductive wU (vs:EV V) (H:Hp) (Q:VK) (_E:XK):Prop
 |mk (x:Int) (_:vs=[.int x]) (_:Q (.bl (JH x)) H):wU vs H Q _E
theorem aiC (T:aU K mg a):T.d_3.U P w base 1 wU:=by
 refine T.d_3.F.ok aln [03] [02];obtain⟨x,rfl,q⟩:=h;exact aL (vQ (lo:= -Xx) (hi:=Xx) (bW cV ak (aR (by rfl) T.Pg)) (pv 0) (aR (by rfl) T.Pg) (λ_ q=>#[_,_,Gc,Gc,q]) [05] [05] q)
def uZ (z t lo hi:Int):Gg:=Fw z 1 6&&(Fw t 1 4&&(JH lo&&(JH hi&&decide (lo<=hi))))
inductive ua (vs:EV V) (H:Hp) (Q:VK) (_E:XK):Prop
 |mk (z t lo hi:Int) (_:vs=[.int z, .int t, .int lo, .int hi]) (_:Q (.bl (uZ z t lo hi)) H):ua vs H Q _E
theorem aiD (T:aU K mg a):T.ZW.U P w base 2 ua:=by
 refine T.ZW.F.ok Yd [03] [02];obtain⟨z,t,lo,hi,rfl,q⟩:=h;unfold uZ at q;have h1: ∀ {X:Cx}{σ:L2.St}{e f:Hv}{p:Pos},(∀Q:VK,Q (.bl (Fw z 1 6)) H->Pe X e σ H Q)->(∀Q:VK,Q (.bl (Fw t 1 4)) H->Pe X f σ H Q)->Pe X (.BoolOp .And [e,f] p) σ H λv H'=>v= .bl (Fw z 1 6&&Fw t 1 4)/\H'=H:=λh1 h2=>xn _ (Fw t 1 4) (h1 _ #[Gc,λe=>YL (h2 _ (by rw[e];exact#[Gc,Gc])),λe=>#[Gc,Gc]]);refine aN 4 Yd.nd (Pe.mono (h1 (λQ q=>vQ ak (pv 0) (aR (by rfl) T.RI) [05] [05] [05] q) λQ q=>vQ ak (pv 1) (aR (by rfl) T.Qn) [05] [05] [05] q) λv H' ⟨hv,hH⟩=>?_);subst hv hH;refine aL (xn (Fw z 1 6&&Fw t 1 4) (JH lo&&(JH hi&&decide (lo<=hi))) (bC 4 #[Gc,λe=>?_,λe=>by rw[Gg.and_assoc];exact q]))
 ·rw[GC] at e
  rw[e.1,e.2,Jh,Jh] at q;refine xn (JH lo) (JH hi&&decide (lo<=hi)) (bL (aO (bC 2 (cH #[lo,Gc,Gc,λe=>?_,λ_=>q]))) (aiC T) [07] T.d_3.c aV);rw[e,Jh] at q;refine xn (JH hi) (decide (lo<=hi)) (bL (aO (bC 3 (cH #[hi,Gc,Gc,λe=>?_,λ_=>q]))) (aiC T) [07] T.d_3.c aV);rw[e,Jh] at q;exact YL #[_,ca eP (pv 2) (pv 3) (aM _),_,_,Gc,Gc,q]
end
inductive CZ (K:E1) (a:bf) (vs:EV V) (H:Hp) (Q:VK) (E:XK):Prop
 |mk {l:E4}{bs:EW}{G:J3}(_:vs=[.int G.zones, .int G.quarters, .int G.lo, .int G.hi, .ref l]) (_:G.quarters<=4) (_:cC K H l (jM bs)) (_:bs.length<=3000) (_: ∀c,YK G bs= .error c-> ∀H',aW H H'->Bad K a E H' c) (_: ∀ss Z H' U o n,YK G bs= .ok (ss,o,n)->Z.a=a->aW H Z.N->TS Z H' U o n (Jg ss) []->Q (.ref Z.x) H'):CZ K a vs H Q E
theorem aiE (T:aU K mg a) (XC:XN K a) (KX:mw K a) (G_j:T.d_j.O P w base 178 (kh K a)):T.ZX.O P w base 179 (CZ K a):=by
 refine fQ T.ZX.F ahe [03] [02];obtain @⟨l,bs,G,rfl,q4,sl,lb,er,q⟩:=h;refine aL (bL (aO (aa8 (ym T) [07] (aO (bC 0 (aO (bC 1 (aO (bC 2 (aO (bC 3 (cH #[Gc,λm dm H1 hm s1 e1=>?_]))))))))))) (alS T XC.toXW KX) [07] T.d_U.c aA);refine aO (bL (aO (bC 4 (cH #[l,bs,Gc,s1.seq sl,lb,abv (λss t hr' wt=>?_) λe he=>?_]))) G_j hr T.d_j.c aA)
 ·intro H2 L us M s2 _ _ hL tl
  have ex:YK G bs=(match Mw G ss with| .error c=> .error c| .ok (l,n)=> .ok (ss,l,n)):=by unfold YK;rw[hr']<;>rfl
  have tl':Paired (λs v=>fh a (λp=>H2 p=FB) H2 s v) ss us:=Paired.Np tl λs v h=>fh.HH (λb o e _=>#[λz=>(by rw[z] at e;cases e),e]) s h
  refine cH (.mk rfl (s2 _ _ e1) q4 hL tl' wt (λc h H' s3=>(er c (by rw[ex,h]) H' ((s1.trans s2).trans s3)).toW XC.toXW) λZ H' U o n h ha hN R=>q ss Z H' U o n (by rw[ex,h]) ha (by rw[hN];exact s1.trans s2) R)
 ·intro H2 s2 d hd
  exact er (-3) (by unfold YK;rw[he]) H2 (s1.trans s2) _ d _ _ XC.fc rfl hd
theorem lr {H H':Hp}(s:aW H H') {p:E4}(h:H' p=FB):H p=FB:=by
 cases e:H p with
 |none=>rfl
 |some o=>rw[s _ _ e] at h;cases h
theorem qY (zs:EV Int):(fi zs).length=zs.length:=Fh _
theorem abw (x y:EV Int):fi (x++y)=fi x++fi y:=GS
def NwI (H:Hp) (zs:EV Int) (Q:VK):Prop:= ∀(H':Hp) (p:E4),aW H H'->H p=FB->H' p=Fa (.lst (fi zs))->Q (.ref p) H'
inductive YM (vs:EV V) (H:Hp) (Q:VK) (_E:XK):Prop
 |mk (l:E4) (zs:EV Int) (_:vs=[.ref l]) (_:H l=Fa (.lst (fi zs))) (_:zs.length<=300000) (_:NwI H (MB zs) Q):YM vs H Q _E
theorem amj (T:aU K mg a):T.d_B.U P w base 1 YM:=by
 refine T.d_B.F.ok alp [03] [02];obtain⟨l,zs,rfl,z,hm,hQ⟩:=h;refine#[_,(ai (aI (bW Ce (fM (aa (bv bB (by rfl) T.JW Hr (aa (pv 0) ag)) ag)) (pv 0)))),?_];refine#[l,_,Gc, .inl (cC.of z),by show 1<=FP;decide,λp hp=>#[p,l,_,_,Gc,Gc,ae,by rw[ac (aj z hp)];exact z,?_,λp' Uy=>hQ _ p' ((a0 hp).trans (a0 Uy)) (lr (a0 hp) Uy) ?_]]
 ·show 1+(fi zs).length<=_
  rw[qY];exact FA (Mu hm 1) [01]
 ·rw[ae,qY]
  rfl
inductive aiF (a:bf) (vs:EV V) (H:Hp) (Q:VK) (_E:XK):Prop
 |mk {ol:E4}{v:V}{o:Hx}(_:vs=[v]) (_:jq a ol H v o) (_:NwI H (Jx o) Q):aiF a vs H Q _E
theorem amk (T:aU K mg a) (O:OdK K a):T.d_N.U P w base 1 (aiF a):=by
 refine T.d_N.F.ok akR [03] [02];obtain @⟨ol,v,o,rfl,ho,q⟩:=h;refine#[_,(ax (cx (cZ (bv lD (by rfl) T.K7 Sa (aa (pv 0) (aa (ic (by rfl) T.OZ) ag)))) (ai (aI (fM (aa ak (aa [08] (aa [08] (aa [08] (aa [08] (aa [08] (aa [08] (aa [08] ag))))))))))) br)
   (ai (aI (bW Ce (fM (aa ak (aa [08] (aa [08] (aa [08] (aa [08] (aa [08] (aa [08] ag)))))))) [08])))),?_]
 cases o with
 |step d z t b p p' am=>
  obtain⟨u,dx,rfl,_,e⟩:=ho;have f: ∀ {y:FD}{v:V}{R:V->Hp->Prop},ao K a.Hk y->([("desk",V.int d),("zone", .int z),("quarter", .int t),("side",Ac b),("low", .int p),("high", .int p'),("amount", .int am)]:EV (FD×V)).lookup y=Fa v->R v H->dB K y R (.ref u) H:=λn l r=>#[u,_,dx,_,_,Gc,e,T.NG,n,l,r]
  refine#[_,_,_,_,Gc,O.s.of e,O.ss,_,Gc,cc ?_];refine f T.MP rfl (f T.MQ rfl (f T.LG rfl (f T.MR rfl (f T.Nm rfl (f T.MS rfl (f T.L6 rfl #[by show 8<=FP;decide,λp hp=>q _ p (a0 hp) hp ae]))))))
 |block d z b p g u l=>
  obtain⟨r,_,⟨y,dx,rfl,_,e⟩,hl,le⟩:=ho;have f: ∀ {x:FD}{v:V}{R:V->Hp->Prop}{H':Hp},aW H H'->ao K a.Hm x->([("desk",V.int d),("zone", .int z),("side",Ac b),("price", .int p),("group", .int g),("parent",aa7 u),("amounts", .ref r)]:EV (FD×V)).lookup x=Fa v->R v H'->dB K x R (.ref y) H':=λs n l r=>#[y,_,dx,_,_,Gc,s _ _ e,T.M3,n,l,r]
  have s0:aW H H:=λ_ _ z=>z
  refine#[_,_,_,_,Gc,O.b.of e,O.bs,_,Gc,bN ?_];refine f s0 T.Mq rfl (f s0 T.Mr rfl (f s0 T.Ms rfl (f s0 T.L7 rfl (f s0 T.L8 rfl (f s0 T.LH rfl #[by show 7<=FP;decide,λp hp=>?_])))));refine f (a0 hp) T.Li rfl #[_,_,_,_,Gc,Gc,ae,by rw[ac (aj hl hp)];exact hl,?_,λp' Uy=>q _ p' ((a0 hp).trans (a0 Uy)) (lr (a0 hp) Uy) ?_]
  ·show 7+(l.map V.int).length<=_
   rw[Fh];exact FA (Mu le 7) [01]
  ·rw[ae]
   cases u<;>rfl
theorem tD {H H':Hp}{v:V}(s:aW H H'): ∀ {o:Hx},jq a ol H v o->jq a ol H' v o
 | .step ..,⟨u,dx,e1,m,e⟩=>#[u,dx,e1,m,s _ _ e]
 | .block ..,⟨q,n,⟨u,dx,e1,m,e⟩,h,le⟩=>#[q,n,#[u,dx,e1,m,s _ _ e],s _ _ h,le]
theorem DV {H:Hp}{v:V} : ∀ {o:Hx},jq a ol H v o->(Jx o).length<=11
 | .step ..,_=>by show 8<=11;decide
 | .block ..,⟨_,_,_,_,le⟩=>Fm.add_le_add_right le 7
theorem ju {α β:Type}{F:α->β->Prop} : ∀ {l:EV α}{m:EV β}{i:Fm}{x:α},Paired F l m->l[i]?=Fa x-> ∃y,m[i]?=Fa y/\F x y
 |_::_,_::_,0,_, .cons h _,e=>by cases e;exact#[_,Gc,h]
 |_::_,_::_,i+1,_, .cons _ t,e=>ju (i:=i) t e
def abx (H0:Hp) (D:E4) (H:Hp) (v:V) (o:Hx):Prop:= ∃p,v= .ref p/\p≠D/\H0 p=FB/\H p=Fa (.lst (fi (MB (Jx o))))/\(Jx o).length<=11
theorem sL {H0 H:Hp} : ∀ {us:EV V}{l:EV Hx}(i:Fm),Paired (abx H0 D H) us l->((l.take i).flatMap λo=>MB (Jx o)).length<=12*l.length
 |_,_,0,_=>by rw[Q8];exact FI _
 |_,_,_+1, .nil=>FI _
 |_,x::l,i+1, .cons ⟨_,_,_,_,_,t⟩ r=>by
  have:=sL i r
  have e:(MB (Jx x)).length=(Jx x).length+1:=rfl;rw[UD,VB,Ft,e,Fj];lia
inductive YN (a:bf) (vs:EV V) (H:Hp) (Q:VK) (_E:XK):Prop
 |mk {x dx ol:E4}{fs:EV (FD×V)}{os:EV V}{l:EV Hx}(_:vs=[.ref x]) (_:H x=Fa (.ins a.Ge dx fs)) (_:fs.lookup ("orders":FD)=Fa (.ref ol)) (_:H ol=Fa (.lst os)) (_:Paired (λv o=>jq a ol H v o) os l) (_:l.length<=48) (_: ∀H' D us,aW H H'->H D=FB->H' D=Fa (.lst us)->Paired (abx H D H') us l->Q (.ref D) H'):YN a vs H Q _E
theorem aml (T:aU K mg a) (O:OdK K a):T.d_L.U P w base 2 (YN a):=by
 have G_B:=amj (P:=P) (w:=w) (base:=base) T
 have G_N:=amk (P:=P) (w:=w) (base:=base) T O;refine T.d_L.F.ok aaL [03] [02];obtain @⟨x,dx,ol,fs,os,l,rfl,hx,lo,ho,po,le,q⟩:=h;refine#[_,(ai (aI (CG rfl aaL.nd (iU [08]) (own:=[("order",1)]) (nh (by show Cv ["expansion","order"] (af s_L) _ [("order",1)]=FM;decide+kernel)) (λ_ _ _ _ _=>gZ (i:=1) aaL.nd rfl (GO rfl)) (λ_ _ _ _ _=>qB) (λ_ _ _ _ _=>(aJ G_B [07] (by rfl) T.d_B.c aV (aa (aJ G_N [07] (by rfl) T.d_N.c aV (aa (pv 1) ag)) ag)))))),?_]
 have ll:=bj po;refine#[x,_,dx,_,_,Gc,hx,T.Hn,T.Ja,lo,ol,Gc,#[_,cC.of ho],λD hD=>?_]
 refine qI (K:=K) (a:=ol) (xs:=os) (λi H'=>aW H H'/\ ∃us,H' D=Fa (.lst us)/\Paired (abx H D H') us (l.take i)) #[a0 hD,[],ae,by rw[Q8];exact .nil] (λi H' _ z=>cC.of (z.1 _ _ ho)) ?_ ?_
 ·rintro i y H' hi ⟨s1,us,SH,pr⟩
  obtain⟨o,hl,oy⟩:=ju po hi;refine#[Gc,?_];unfold EH;dsimp only;rw[E7 rfl];refine#[Gc,tD s1 oy,λH2 p s2 hp e2=>?_];have tl:=DV oy;refine#[p,_,Gc,e2,FA tl [01],λH3 r s3 hr3 e3=>#[us,s3 _ _ (s2 _ _ SH),?_,?_,us++[.ref r],ae,?_]]
  ·have:=bj pr
   rw[NK] at this;exact F9 (show us.length<=48 by lia) [01]
  ·exact λb o e=>by rw[ac (aj e hD)];exact s3 _ _ (s2 _ _ (s1 b o e))
  ·have nr:r≠D:=λz=>by rw[z,s2 _ _ SH] at hr3;cases hr3
   rw[J9,hl];refine gm (Paired.Np pr λv o ⟨p,e,n,f,z,t⟩=>#[p,e,n,f,by rw[ac n];exact s3 _ _ (s2 _ _ z),t]) #[r,Gc,nr,lr (s1.trans s2) hr3,by rw[ac nr];exact e3,tl]
 ·rintro H' ⟨s1,us,SH,pr⟩
  rw[ll,Ko] at pr;exact q H' D us s1 hD SH pr
theorem oj {z t lo hi:Int}{zs:EV Int}(h:(uZ z t lo hi&&jz zs)=FS):Kw z t lo hi zs=[-1]:=by
 show OI [[2,z,t,lo,hi],zs]=_
 unfold OI;rw[show WJ [[2,z,t,lo,hi],zs]=(match L3 z t lo hi,Kb zs with
   |some M,some b=>Fa (.expand M b)
   |_,_=>FB) from rfl]
 cases h1:uZ z t lo hi with
 |false=>rw[show L3 z t lo hi=FB from E5 (by show¬uZ z t lo hi=FM;rw[h1];exact EZ)]
 |true=>
  rw[h1,Jh] at h;rw[tW h];cases L3 z t lo hi<;>rfl
theorem zc {z t lo hi:Int}{zs:EV Int}{bs:EW}(h:uZ z t lo hi=FM) (hb:Kb zs=Fa bs): ∃G:J3,(G.zones:Int)=z/\(G.quarters:Int)=t/\G.lo=lo/\G.hi=hi/\G.quarters<=4/\Kw z t lo hi zs=(match YK G bs with
  | .error c=>[c]
  | .ok (s,l,n)=>0::(l.length:Int)::l.flatMap λo=>MB (Jx o)):=by
 have h':=h;unfold uZ Fw at h;simp only[GC,F5] at h;refine#[#[z.toNat,t.toNat,lo,hi],by lia,by show(t.toNat:Int)=t;lia,Gc,Gc,by show t.toNat<=4;lia,?_]
 show OI [[2,z,t,lo,hi],zs]=_
 unfold OI;rw[show WJ [[2,z,t,lo,hi],zs]=(match L3 z t lo hi,Kb zs with
   |some M,some b=>Fa (.expand M b)
   |_,_=>FB) from rfl,hb,show L3 z t lo hi=Fa _ from E7 h']
 exact aiB
theorem amm (T:aU K mg a) (XC:XN K a) (KX:mw K a) (O:OdK K a) (G_j:T.d_j.O P w base 178 (kh K a)):
  T.d_c.U P w base 180 (iL K):=by
 refine T.d_c.F.ok Cu [03] [02];obtain⟨z,t,lo,hi,l,zs,rfl,hS,hl,hQ⟩:=h;refine#[_,(ax (Dg (R:=a.GW) (G:=a.GW) (i:=6) (λv od RZ=> ∃(C d fI:E4) (c:Int) (fs:EV (FD×V)),v= .ref C/\od=Fa d/\dz K a.GW C fI/\Kw z t lo hi zs=[c]/\RZ d=Fa (cn d fs)/\fs.lookup ("number":FD)=Fa (V.int c)) rfl rfl (λC d H h=>by obtain⟨_,_,fI,_,_,e,_,x,_⟩:=h;cases e;exact#[fI,x, .inr rfl]) (by rfl) T.HG Cu.nd rfl rfl
    (λpins Ew PE_=>ax (bh (aJ (ami T XC) [07] (by rfl) T.d_g.c PE_ (aa (oG (aJ (aiD T) [07] (by rfl) T.ZW.c aV (aa (pv 0) (aa (pv 1) (aa (pv 2) (aa (pv 3) ag))))) (jx (aJ (amh T) [07] (by rfl) T.d_K.c aV (aa (pv 4) ag)))) ag)))
     (ai (cB (i:=5) Cu.nd rfl (GO rfl) (aJ (aiE T XC KX G_j) hr (by rfl) T.ZX.c PE_ (aa (pv 0) (aa (pv 1) (aa (pv 2) (aa (pv 3) (aa (pv 4) ag)))))))))
    (λa'=>(ai (aI (fM (aa (DC (K:=K) rfl [00] ow (pv 6) (by rfl)) ag))))))
   (ax (cB (i:=7) Cu.nd rfl (GO rfl) (fM (aa ak (aa (bv bB (by rfl) T.JW Hr (aa (ah (pv 5) rfl) ag)) ag))))
   (ax (qx Kp rfl (iU (aJ (aml T O) [07] (by rfl) T.d_L.c aV (aa (pv 5) ag))) (gZ (i:=8) Cu.nd rfl (GO rfl)) (ai (bh (r8 Ie PySem.F.slot_list_extend PySem.F.type_list_extend zh (pv 7) (aa (pv 8) ag)))))
   (ai (aI (pv 7)))))),?_]
 refine#[?_,?_]
 ·have bad: ∀ {H1:Hp}{c:Int},Kw z t lo hi zs=[c]->Bad K a (λv od RZ=> ∃(C d fI:E4) (c:Int) (fs:EV (FD×V)),v= .ref C/\od=Fa d/\dz K a.GW C fI/\Kw z t lo hi zs=[c]/\RZ d=Fa (cn d fs)/\fs.lookup ("number":FD)=Fa (V.int c)) H1 c:=λh C d fI fs x lk hd=>#[C,d,fI,_,fs,Gc,Gc,x,h,ae,lk]
  refine#[z,t,lo,hi,Gc,_,Gc,aP (λh1=>?_) λh1=>#[_,Gc,nofun,λ_=>bad (oj (by rw[h1];rfl))]];refine#[l,zs,Gc,hS,hl,λH1 s1=>#[_,Gc,λht=>?_,λht=>bad (oj (by rw[h1,ht];rfl))]];obtain⟨bs,eb,ev',hb⟩:=vP ht;obtain⟨G,rfl,rfl,rfl,rfl,q4,ec⟩:=zc h1 eb;refine .mk rfl q4 (by rw[ev'];exact s1.seq hS) hb (λc h H' _=>bad (by rw[ec,h])) λss Z H' U o n h ha _ R=>?_;subst ha;rw[h] at ec;obtain⟨B,nm,R,_⟩:=R;obtain @⟨r,b,ff,d,s,nd,kk,os,FO,W,A,gs,Wx,hj⟩:=R;have le:o.length<=48:=Wx.le;have sB:=W.O.same;have ho:=sB _ _ Wx.ho;have lo:=bj Wx.po;refine#[Z.x,_,Z.dx,_,_,Gc,sB _ _ Wx.hx,T.Hn,T.Ja,Gc,Z.ol,_,Gc, .inl (cC.of ho),by show 2<=FP;decide,λD hD=>?_];have s1:=a0 (o:=HO.lst [V.int 0,V.int (os.length:Fm)]) hD;refine .mk rfl (s1 _ _ (sB _ _ Wx.hx)) rfl (s1 _ _ ho) (Paired.Np Wx.po λv o h=>tD (λb u e=>s1 _ _ (sB _ _ e)) h) le λH2 L us s2 hL hL2 pr=>?_;have hD2:=s2 _ _ (ae (H:=H') (o:=HO.lst [V.int 0,V.int (os.length:Fm)]));have nL:L≠D:=λz=>by rw[z,ae] at hL;cases hL
  refine#[L,Gc,#[_,cC.of hL2],oJ (K:=K) (a:=L) (xs:=us) (λi σ H3=> ∃y:Fd V,σ=[Fa (.int G.zones),Fa (.int G.quarters),Fa (.int G.lo),Fa (.int G.hi),Fa (.ref l),Fa (.ref Z.x),FB,Fa (.ref D),y]/\(∀b u,H2 b=Fa u->b≠D->H3 b=Fa u)/\H3 D=Fa (.lst (fi (0::(o.length:Int)::(o.take i).flatMap λo=>MB (Jx o))))) #[FB,Gc,λb u e _=>e,?_] (λi σ H3 _ ⟨_,_,s3,_⟩=>cC.of (s3 _ _ hL2 nL)) ?_ ?_]
  ·rw[hD2,lo]
   rfl
  ·rintro i y σ H3 hi ⟨y',rfl,s3,h3⟩
   obtain⟨x,hx,p,rfl,np,f0,hp,tl⟩:=ju pr hi;refine#[.inl #[Gc,_,cC.of h3],D,p,_,_,Gc,Gc,h3,s3 _ _ hp (λz=>?_),?_,Fa (.ref p),Gc,λb u e n=>?_,?_]
   ·rw[z,ae] at f0
    cases f0
   ·have:=sL i pr
    rw[qY,qY,Fj,Fj];refine FA (m:=600) ?_ [01];have e:(MB (Jx x)).length=(Jx x).length+1:=rfl;lia
   ·rw[ac n]
    exact s3 b u e n
   ·rw[ae,J9,hx,<-abw]
    show Fa (HO.lst _)=Fa (HO.lst _)
    rw[show(Fd.some x).toList=[x] from rfl,EV.flatMap_append,VB,EV.flatMap_nil,GL]
    rfl
  ·rintro σ H3 ⟨y,rfl,s3,h3⟩
   refine hQ _ D ?_;rw[ec,h3,bj pr,Ko]
 ·rintro C d H2 a' ⟨C',d',fI,c,fs,eC,ed,X1,ec',hd,lk⟩ ha'
  cases ed;cases eC;have nd:d≠a':=λz=>by rw[z,ha'] at hd;cases hd
  have h1:aF H2 a' (ko C d a') d=Fa (cn d fs):=by rw[ac nd];exact hd
  refine#[_,_,_,a',d,_,_,X1,Gc,ae,h1,lk,?_];refine#[by show 1<=FP;decide,λp hp=>?_];refine hQ _ p ?_;rw[ec'];exact ae
theorem mw.at_ (I:mw K a) (hi:(yO a)[i]?=Fa C) (hj:(yO a)[j]?=Fa D) (h:i<15) (h':j<15):Hy K (.ref C) (.ref D)=Fa (decide (i=j)):=by
 have:=Ga (λl=>(l[i]?.bind λr:EV (Fd Gg)=>r[j]?)) I.kit
 rw[Gf,hi,Gf,Ml h] at this;simp only[L0,Fd.bind_some,Gf,hj,Ml h'] at this;exact Fs this
theorem aby {a:bf}(I:mw K a):pH K a:=#[I.ty _ (.tail _ (.tail _ (.tail _ (.tail _ (.tail _ (.tail _ (.tail _ (.head _)))))))),I.ty _ (.tail _ (.tail _ (.tail _ (.tail _ (.tail _ (.tail _ (.tail _ (.tail _ (.head _))))))))),I.ty _ (.tail _ (.tail _ (.tail _ (.tail _ (.tail _ (.tail _ (.tail _ (.tail _ (.tail _ (.head _)))))))))),I.ty _ (.tail _ (.tail _ (.tail _ (.tail _ (.tail _ (.tail _ (.tail _ (.tail _ (.tail _ (.tail _ (.head _))))))))))),I.ty _ (.tail _ (.tail _ (.tail _ (.tail _ (.tail _ (.tail _ (.tail _ (.tail _ (.tail _ (.tail _ (.tail _ (.head _)))))))))))),I.at_ (i:=7) (j:=7) rfl rfl [01] [01],I.at_ (i:=8) (j:=7) rfl rfl [01] [01],I.at_ (i:=9) (j:=7) rfl rfl [01] [01],I.at_ (i:=10) (j:=7) rfl rfl [01] [01],I.at_ (i:=11) (j:=7) rfl rfl [01] [01]]
theorem Be {mg:FD->Fd E3}{base:GI}{a:bf}(T:aU K mg a) (XC:XN K a) (kS:zH P w K a.JR dW) (kF:Di P w K a.GY dj) (KT:zK K a.HV di) (I:mw K a) (O:OdK K a):T.d_c.U P w base 180 (iL K):=
 amm T XC I O (zO T XC.toXT (aby I) KT kS kF)
end OS
open PySem PySem.W PyProof.Rows
theorem PySem.Challenge.cw_ordersheets_s03_expand_holds : PySem.Challenge.rw_ordersheets_s03_expand.Holds :=
 OS.hd OS.Be
